import PyProof.Rows.All
import Wide.All
import OpenK.AllK
import Wide.FinOn
import HandS.ForMost
import HandS.IsInst
import HandS.TupAny
import HandS.TupMul
import HandS.Style
import HandS.Flow
import HandS.Walk
import KE.GoesMore
import HandS.FStrTup
import HandS.ExcValue
import HandS.ExcIs
import HandS.ExcField
import KE.KExcIs
import HandS.ExcInit
import HandS.WordsExc
import HandS.SortKw
import KE.DataMinMax
import KE.KeyNested
import KE.KDictKeyed
import HandS.Dict
import HandS.Lambda
import HandS.Zip
import HandS.RevTup
import HandS.More
import HandS.TryOnly
import HandS.IterVal
import PyProof.NeKinds
import HandS.Conv
import HandS.Deep
import PyProof.SliceSyntax
import KE.SortData
import KE.SortKeyHeap
import HandS.TupLe
import HandS.WordsDict
import HandS.SuiteRaise
import HandS.RaiseFrom
import HandS.ExcInitHot
import HandS.SetFor
import HandS.List
import PyProof.EqKinds
import PyProof.FactsAll.dict
import HandS.Replace
import KE.KDictPairs
import HandS.TupLen
import HandS.DictComp
import HandS.Flt
import KE.DataMinKey
import PyProof.Walks
import PyProof.WalksS
import HandS.EndTab
import PySem.Challenge.RW_treelore_k48_whole_top_matchings
section
open PySem PySem.W PyProof.Rows
set_option Elab.async false
set_option maxRecDepth 100000 in
set_option maxHeartbeats 0 in
open_top tl_head for PySem.Challenge.rw_treelore_k48_whole_top_matchings
end
set_option Elab.async false
set_option linter.all false
set_option maxRecDepth 100000
set_option maxHeartbeats 4000000
/-! Data in the heap, by value: what stays when the heap grows, what isinstance and len answer of it. -/
namespace Tl
open PySem L2
theorem same_new {H : Hp} {p : Addr} {o : HO} (h : H p = none) : Same H (upd H p o) := fun b u q => by
  rw [upd_ne (ne_of_none q h)]
  exact q
/-- what F does not know may change -/
theorem same_mut {F H : Hp} {p : Addr} {o : HO} (e : Same F H) (h : F p = none) : Same F (upd H p o) := fun b u q => by
  rw [upd_ne (ne_of_none q h)]
  exact e b u q
theorem same_rd {H H' : Hp} {a : Addr} {u : HO} (e : Same H H') (h : Rd H a u) : Rd H' a u := by
  rcases h with h | ⟨o, h⟩
  · exact .inl (e a _ h)
  · exact .inr ⟨o, e a _ h⟩
theorem same_t {K : PySem.W.Frag} {H H' : Hp} {a : Addr} {xs : List V} (e : Same H H') (h : SqT K H a xs) : SqT K H' a xs := by
  rcases h with h | h
  · exact .inl (same_rd e h)
  · exact .inr h
theorem same_l {K : PySem.W.Frag} {H H' : Hp} {a : Addr} {xs : List V} (e : Same H H') (h : SqL K H a xs) : SqL K H' a xs := by
  rcases h with h | h
  · exact .inl (same_rd e h)
  · exact .inr h
mutual
theorem dp_mono {K : PySem.W.Frag} {H H' : Hp} (e : Same H H') : ∀ (d : PyData) (v : V), Dp K H v d → Dp K H' v d
  | .none, _, h => by cases h; exact .non
  | .bool b, _, h => by cases h; exact .bl b
  | .int i, _, h => by cases h; exact .int i
  | .str x, _, h => by cases h; exact .str x
  | .list ds, _, h => by
    cases h with
    | lst hs ha => exact .lst (same_l e hs) (dpAll_mono e ds _ ha)
  | .tuple ds, _, h => by
    cases h with
    | tup hs ha => exact .tup (same_t e hs) (dpAll_mono e ds _ ha)
  | .dict _, _, h => by cases h
theorem dpAll_mono {K : PySem.W.Frag} {H H' : Hp} (e : Same H H') : ∀ (ds : List PyData) (vs : List V), DpAll K H vs ds → DpAll K H' vs ds
  | [], _, h => by cases h; exact .nil
  | d :: ds, _, h => by
    cases h with
    | cons h1 h2 => exact .cons (dp_mono e d _ h1) (dpAll_mono e ds _ h2)
end
/-- a thing of the law: data, or the empty dict -/
inductive Dt (K : PySem.W.Frag) (H : Hp) : V → PyData → Prop
  | d {v : V} {d : PyData} : Dp K H v d → Dt K H v d
  | e {a : Addr} : H a = some (.dK []) → Dt K H (.ref a) (.dict [])
theorem Dt.mono {K : PySem.W.Frag} {H H' : Hp} {v : V} {d : PyData} (e : Same H H') (h : Dt K H v d) : Dt K H' v d := by
  cases h with
  | d h => exact .d (dp_mono e _ _ h)
  | e h => exact .e (e _ _ h)
theorem DpAll.len {K : PySem.W.Frag} {H : Hp} : ∀ {vs : List V} {ds : List PyData}, DpAll K H vs ds → vs.length = ds.length
  | _, _, .nil => rfl
  | _, _, .cons _ h => by rw [List.length_cons, List.length_cons, DpAll.len h]
theorem DpAll.get {K : PySem.W.Frag} {H : Hp} : ∀ {vs : List V} {ds : List PyData} {i : Nat} {v : V}, DpAll K H vs ds → vs[i]? = some v → ∃ d, ds[i]? = some d ∧ Dp K H v d
  | _, _, _, _, .nil, e => by simp at e
  | _, _, 0, _, .cons h _, e => by simp at e; subst e; exact ⟨_, rfl, h⟩
  | _, _, i + 1, v, .cons _ h, e => by
    obtain ⟨d, h1, h2⟩ := DpAll.get (i := i) (v := v) h (by simpa using e)
    exact ⟨d, by simpa using h1, h2⟩
theorem DpAll.got {K : PySem.W.Frag} {H : Hp} : ∀ {vs : List V} {ds : List PyData} {i : Nat} {d : PyData}, DpAll K H vs ds → ds[i]? = some d → ∃ v, vs[i]? = some v ∧ Dp K H v d
  | _, _, _, _, .nil, e => by simp at e
  | _, _, 0, _, .cons h _, e => by simp at e; subst e; exact ⟨_, rfl, h⟩
  | _, _, i + 1, d, .cons _ h, e => by
    obtain ⟨v, h1, h2⟩ := DpAll.got (i := i) (d := d) h (by simpa using e)
    exact ⟨v, by simpa using h1, h2⟩
theorem DpAll.app {K : PySem.W.Frag} {H : Hp} : ∀ {vs ws : List V} {ds es : List PyData}, DpAll K H vs ds → DpAll K H ws es → DpAll K H (vs ++ ws) (ds ++ es)
  | _, _, _, _, .nil, h => h
  | _, _, _, _, .cons a b, h => .cons a (DpAll.app b h)
theorem DpAll.take {K : PySem.W.Frag} {H : Hp} : ∀ {vs : List V} {ds : List PyData} (n : Nat), DpAll K H vs ds → DpAll K H (vs.take n) (ds.take n)
  | _, _, 0, _ => .nil
  | _, _, _ + 1, .nil => .nil
  | _, _, n + 1, .cons a b => .cons a (DpAll.take n b)
theorem DpAll.drop {K : PySem.W.Frag} {H : Hp} : ∀ {vs : List V} {ds : List PyData} (n : Nat), DpAll K H vs ds → DpAll K H (vs.drop n) (ds.drop n)
  | _, _, 0, h => h
  | _, _, _ + 1, .nil => .nil
  | _, _, n + 1, .cons a b => DpAll.drop n b
theorem DpAll.rev {K : PySem.W.Frag} {H : Hp} : ∀ {vs : List V} {ds : List PyData}, DpAll K H vs ds → DpAll K H vs.reverse ds.reverse
  | _, _, .nil => .nil
  | _, _, .cons a b => by rw [List.reverse_cons, List.reverse_cons]; exact DpAll.app (DpAll.rev b) (.cons a .nil)
theorem DpAll.two {K : PySem.W.Frag} {H : Hp} : ∀ {vs : List V} {ds : List PyData}, DpAll K H vs ds → vs.length = 2 → ∃ x y a b, vs = [x, y] ∧ ds = [a, b] ∧ Dp K H x a ∧ Dp K H y b
  | _, _, .nil, e => by simp at e
  | _, _, .cons _ .nil, e => by simp at e
  | _, _, .cons h1 (.cons h2 .nil), _ => ⟨_, _, _, _, rfl, rfl, h1, h2⟩
  | _, _, .cons _ (.cons _ (.cons _ _)), e => by simp at e
/-! ### what isinstance answers -/
def tyName : PyData → String
  | .none => "NoneType"
  | .bool _ => "bool"
  | .int _ => "int"
  | .str _ => "str"
  | .list _ => "list"
  | .tuple _ => "tuple"
  | .dict _ => "dict"
@[reducible] def isStr : PyData → Bool
  | .str _ => true
  | _ => false
@[reducible] def isTup : PyData → Bool
  | .tuple _ => true
  | _ => false
@[reducible] def isInt : PyData → Bool
  | .int _ => true
  | .bool _ => true
  | _ => false
@[reducible] def isBl : PyData → Bool
  | .bool _ => true
  | _ => false
theorem kit_str (d : PyData) : kitB (tyName d) "str" = some (isStr d) := by cases d <;> (simp only [tyName, isStr]; decide +kernel)
theorem kit_tup (d : PyData) : kitB (tyName d) "tuple" = some (isTup d) := by cases d <;> (simp only [tyName, isTup]; decide +kernel)
theorem kit_int (d : PyData) : kitB (tyName d) "int" = some (isInt d) := by cases d <;> (simp only [tyName, isInt]; decide +kernel)
theorem kit_bl (d : PyData) : kitB (tyName d) "bool" = some (isBl d) := by cases d <;> (simp only [tyName, isBl]; decide +kernel)
/-! ### texts within are short -/
mutual
def txt : PyData → Bool
  | .str s => decide (s.length ≤ 1000) && PyData.strOk s
  | .list ds => txtAll ds
  | .tuple ds => txtAll ds
  | _ => true
def txtAll : List PyData → Bool
  | [] => true
  | d :: ds => txt d && txtAll ds
end
theorem txtAll_get : ∀ {ds : List PyData} {i : Nat} {d : PyData}, txtAll ds = true → ds[i]? = some d → txt d = true
  | [], _, _, _, e => by simp at e
  | a :: r, 0, d, h, e => by
    rw [txtAll, Bool.and_eq_true] at h
    simp at e
    subst e
    exact h.1
  | a :: r, i + 1, d, h, e => by
    rw [txtAll, Bool.and_eq_true] at h
    exact txtAll_get h.2 (by simpa using e)
theorem txt_str {s : Str} (h : txt (.str s) = true) : s.length ≤ 1000 ∧ PyData.strOk s = true := by
  rw [txt, Bool.and_eq_true] at h
  exact ⟨of_decide_eq_true h.1, h.2⟩
/-- a list of plain values can be compared -/
def flatD : PyData → Bool
  | .none => true
  | .bool _ => true
  | .int _ => true
  | .str s => PyData.strOk s
  | _ => false
theorem flat_all : ∀ ds : List PyData, ds.all flatD = true → PyData.canLayAll0 ds = true ∧ PyData.depthAll ds = 0
  | [], _ => ⟨rfl, rfl⟩
  | d :: r, h => by
    rw [List.all_cons, Bool.and_eq_true] at h
    obtain ⟨h1, h2⟩ := flat_all r h.2
    have h0 := h.1
    rw [PyData.canLayAll0, PyData.depthAll, h1, h2]
    cases d with
    | none => exact ⟨rfl, rfl⟩
    | bool b => exact ⟨rfl, rfl⟩
    | int b => exact ⟨rfl, rfl⟩
    | str b =>
      rw [flatD] at h0
      rw [PyData.canLay0, PyData.depth, h0]
      exact ⟨rfl, rfl⟩
    | list b => exact Bool.noConfusion h0
    | tuple b => exact Bool.noConfusion h0
    | dict b => exact Bool.noConfusion h0
theorem flat_shaped {ds : List PyData} (h : ds.all flatD = true) : SeqAt.shaped (.list ds) = true := by
  obtain ⟨h1, h2⟩ := flat_all ds h
  unfold SeqAt.shaped
  rw [PyData.canLay0, PyData.depth, h1, h2]
  rfl
theorem sz1000 {n : Nat} (h : n ≤ 1000) : n ≤ sizeLine := Nat.le_of_lt (small1000 h)
/-- the built-in names that are still the built-in's -/
structure Bl (mg : Str → Option Value) : Prop where
  isi : mg "isinstance" = none
  int : mg "int" = none
  bool : mg "bool" = none
  str : mg "str" = none
  tuple : mg "tuple" = none
  list : mg "list" = none
  len : mg "len" = none
  all : mg "all" = none
  repr : mg "repr" = none
  max : mg "max" = none
  range : mg "range" = none
  enum : mg "enumerate" = none
section
variable {X : Cx}
theorem b_int (T : Bl X.mg) {p : Pos} (hg : Gl X "int" := by rfl) : PE X (.Name "int" p) (tC (.ty "int")) := pe_bltn hg T.int PyProof.Rows.boot_int rfl
theorem b_bool (T : Bl X.mg) {p : Pos} (hg : Gl X "bool" := by rfl) : PE X (.Name "bool" p) (tC (.ty "bool")) := pe_bltn hg T.bool PyProof.Rows.boot_bool rfl
theorem b_str (T : Bl X.mg) {p : Pos} (hg : Gl X "str" := by rfl) : PE X (.Name "str" p) (tC (.ty "str")) := pe_bltn hg T.str PyProof.Rows.boot_str rfl
theorem b_tuple (T : Bl X.mg) {p : Pos} (hg : Gl X "tuple" := by rfl) : PE X (.Name "tuple" p) (tC (.ty "tuple")) := pe_bltn hg T.tuple PyProof.Rows.boot_tuple rfl
end
theorem iteD {p A B : Prop} [Decidable p] (h1 : p → A) (h2 : ¬ p → B) : if decide p = true then A else B := by
  by_cases h : p
  · rw [if_pos (decide_eq_true h)]
    exact h1 h
  · rw [if_neg (by rw [decide_eq_false h]; exact Bool.false_ne_true)]
    exact h2 h
/-! ### comprehensions whose parts leave all as it was -/
/-- a def of the program that is called: where it stands, and what it promises -/
structure Use (P : Program) (w : World) (K : PySem.W.Frag) (mg : Str → Option Value) (base : Heap) (x : Str) (ps : List Str) (k : Nat) (sp : Sp) where
  f : Addr
  fd : FuncData
  ok : FnOk P w K mg base CX0 k f fd ps sp
  m : mg x = some (.ref f)
  kp : PySem.W.keepIn K (.ref f) = true
  b : Binds K fd ps []
end Tl
set_option Elab.async false
set_option linter.all false
set_option maxRecDepth 100000
set_option maxHeartbeats 4000000
/-! Rules of our own: tuple * int of any small count, text * int, enumerate of a tuple, repr of data. -/
namespace Tl
open PySem PySem.Spec PyProof.Rows L2
open AutoSeq1 (wpAny_loadPart')
/-! ### enumerate(t), t a tuple -/
set_option maxHeartbeats 4000000 in
theorem enumNew {v : Value} {o : Obj} {Hh : Heap → Prop} (B : Begins v o Hh) :
    Meets (Builtin.«enumerate.__new__» ⟨[.type "enumerate", v], []⟩) (fun _ R s => Hh s.heap ∧
      R (.ok (.ret (.ref (s.heap.push o).objs.size)))
        { s with heap := (s.heap.push o).push { cls := .type "enumerate", data := .fields #[.none, .bool false, .ref s.heap.objs.size, rawInt 0, .none, .none] } }) :=
  .of_wp fun prog w A R s h => by
    obtain ⟨hp, g, d, tk, os⟩ := s
    obtain ⟨h1, h⟩ := h
    have hsub := sub_enumerate
    have it : ∀ {A' : Around} {E : Value → Shared → Prop} {Q : Value → Shared → Prop}, Q (.ref hp.objs.size) ⟨hp.push o, g, d, tk, os⟩ →
        wpAny (model prog w) A' (pyIter v) Q E ⟨hp, g, d, tk, os⟩ := fun q => B.iter prog w _ _ ⟨hp, g, d, tk, os⟩ _ h1 q
    wp_walk using it
    refine wpAny_stack_any fun st => wpAny_pure ?_
    split
    · rename_i c _ _ _ _ _
      cases (c == Value.type "enumerate")
      · wp_walk using it
        exact ⟨_, rfl, h⟩
      · wp_walk using it
        exact ⟨_, rfl, h⟩
    · wp_walk using it
      exact ⟨_, rfl, h⟩
theorem enumTup {prog : Program} {w : World} {A : Around} {E : Value → Shared → Prop} {s : Shared} {l : Addr} {items : Array Value} {Q : Value → Shared → Prop} (hL : s.heap.IsTuple l items)
    (h : ∀ h', IsEnum h' (s.heap.objs.size + 1) s.heap.objs.size 0 .none → h'.IsTupleIter s.heap.objs.size l 0 →
      (∀ b o, s.heap.get? b = some o → h'.get? b = some o) → Q (.ref (s.heap.objs.size + 1)) { s with heap := h' }) :
    wpAny (model prog w) A (call (.type "enumerate") [.ref l]) Q E s := by
  refine callType_new F.called_enumerate (by decide) (F.typeCall_enumerate_1 _) (F.newCall_enumerate_1 _)
    (fun obj => F.args_object_init_2 obj _) F.entry_enumerate_new (enumNew (begins_tuple l items)) ⟨hL, ?_⟩
  have hz : (s.heap.push { cls := .type "tuple_iterator", data := .fields #[.ref l, .int 0 0] }).objs.size = s.heap.objs.size + 1 := Heap.size_push ..
  show _ ∧ _
  rw [hz]
  generalize hk : (s.heap.push { cls := .type "tuple_iterator", data := .fields #[.ref l, .int 0 0] }) = h1 at hz ⊢
  have g0 : h1.get? s.heap.objs.size = some { cls := .type "tuple_iterator", data := .fields #[.ref l, .int 0 0] } := by rw [← hk]; exact Heap.get?_push_size _ rfl
  have g1 := Heap.get?_push_size h1 (o := { cls := .type "enumerate", data := .fields #[.none, .bool false, .ref s.heap.objs.size, rawInt 0, .none, .none] }) rfl
  rw [hz] at g1
  refine ⟨⟨_, g1, rfl⟩, h _ g1 ⟨_, Heap.get?_push_of_some _ g0, rfl, rfl⟩ fun b o x => Heap.get?_push_of_some _ ?_⟩
  rw [← hk]
  exact Heap.get?_push_of_some _ x
def Iet (K : PySem.W.Frag) (a : Addr) : It where
  go := fun i H => ∃ (xs : List V) (x : V), SqT K H a xs ∧ xs[i]? = some x
  yld := fun i H v H' => ∃ T x, v = .ref T ∧ H T = none ∧ H' = upd H T (.tup [.int (i : Nat), x]) ∧ ∀ xs, SqT K H a xs → xs[i]? = some x
  stop := fun i H => ∃ xs : List V, SqT K H a xs ∧ xs.length = i
theorem turnET {P : Program} {w : World} {K : PySem.W.Frag} {elts : List Expr} {kk : Nat} {tpos : Pos} (a e it : Addr) :
    Turn P w K (.Tuple elts kk tpos) (Iet K a) [e, it] e
      (fun i h => (∃ old, IsEnum h e it ((i : Nat) : Int) old) ∧ h.IsTupleIter it a i ∧ e ≠ it) where
  mem := by simp
  obj := fun i h st b hb => by
    obtain ⟨⟨old, he⟩, ⟨o, ho, hc, hd⟩, _⟩ := st
    have hb2 : b = e ∨ b = it := by simpa using hb
    rcases hb2 with rfl | rfl
    · exact ⟨_, he, fun v q => nomatch q⟩
    · exact ⟨o, ho, fun v q => by rw [hd] at q; cases q⟩
  keep := fun i h h' st k => by
    obtain ⟨⟨old, he⟩, hi, hne⟩ := st
    exact ⟨⟨old, k e (by simp) _ he⟩, hi.at fun o q => k it (by simp) o q, hne⟩
  item := by
    intro X hP hw hK hc i pins s σ H E I hf st hg
    subst hP hw hK
    obtain ⟨⟨old, he⟩, hit, hne⟩ := st
    obtain ⟨xs, x, hq, hx⟩ := hg
    obtain ⟨its, rv, p, hz⟩ := I.tuple hq
    obtain ⟨u, hu, ru⟩ := rv.get hx
    have hel : e < s.heap.objs.size := Heap.lt_size he
    have hil : it < s.heap.objs.size := by
      obtain ⟨_, q, _⟩ := hit
      exact Heap.lt_size q
    have hae : a ≠ e := fun z => by
      obtain ⟨o, ho, hcl, _⟩ := p
      rw [z, he] at ho
      cases ho
      have h9 : Value.type "enumerate" = Value.type "tuple" := hcl
      exact absurd h9 (by decide)
    have hai : a ≠ it := fun z => by
      obtain ⟨o, ho, hcl, _⟩ := p
      obtain ⟨o', ho', hcl', _⟩ := hit
      rw [z, ho'] at ho
      cases ho
      rw [hcl'] at hcl
      exact absurd hcl (by decide)
    have hlt : i < its.toArray.size := by
      rw [List.size_toArray]
      exact (List.getElem?_eq_some_iff.mp hu).1
    refine wpAny_pyNext_enum_itemD (Draws.tuple (prog := X.prog) (w := X.w) (A := X.A.in1) (I.ok.hd hc) it a hai its.toArray) he ⟨hit, p⟩ hlt hne (by simp [hne, Ne.symm hae]) fun y h' tk hy ho hst hT hsz hk => ?_
    have ey : y = u := by
      have hu' : its.toArray[i]? = some u := by simpa using hu
      rw [hu'] at hy
      exact (Option.some.inj hy).symm
    subst ey
    refine ⟨_, rfl, wpAny_letOwnedTupleGo_enum (s := { s with heap := h', toks := tk + 1 }) ho fun h'' he' sb => ?_⟩
    have hT2 := (sb.2 _ (Nat.ne_of_gt hel)).trans hT
    have new : ObjOk X.prog X.w (upd H s.heap.objs.size (.tup [.int (i : Nat), x])) h'' s.heap.objs.size (.tup [.int (i : Nat), x]) :=
      ⟨by show 2 ≤ sizeLine; decide, [.int i tk, y], .cons ⟨_, rfl⟩ (.cons ru .nil), ⟨_, hT2, rfl, _, rfl⟩⟩
    have I1 : Inv X pins σ (upd H s.heap.objs.size (.tup [.int (i : Nat), x])) { s with heap := h'', toks := tk + 1 } :=
      I.turnedNew (ch := [e, it]) (fun b ob hb q => (sb.2 b fun z => hb (by simp [z])).trans
        (hk b ob (fun z => hb (by simp [z])) (fun z => hb (by simp [z])) q)) hf (Nat.le_refl _) new
    refine ⟨.ref s.heap.objs.size, _, I1, rfl, ⟨_, x, rfl, I.hok.fresh (Nat.le_refl _), rfl, fun ys hy => by rw [I.tuple_inj hy hq]; exact hx⟩, ⟨⟨y, ?_⟩, hst.1.at fun o q => (sb.2 it (Ne.symm hne)).trans q, hne⟩, fun b hb => ?_⟩
    · rw [show ((i + 1 : Nat) : Int) = (i : Int) + 1 by omega]
      exact he'
    · have hb2 : b = e ∨ b = it := by simpa using hb
      have hb3 : b < s.heap.objs.size := by
        rcases hb2 with rfl | rfl
        · exact hel
        · exact hil
      rw [upd_ne (Nat.ne_of_lt hb3)]
      exact (hf b hb).1
  done := by
    intro X hP hw hK hc i pins s σ H E I hf st hg
    subst hP hw hK
    obtain ⟨⟨old, he⟩, hit, hne⟩ := st
    obtain ⟨xs, hq, hx⟩ := hg
    obtain ⟨its, rv, p, hz⟩ := I.tuple hq
    obtain ⟨f0, f1, f2, f3, f4, f5⟩ := hf it (by simp)
    have hai : a ≠ it := fun z => by
      obtain ⟨o, ho, hcl, _⟩ := p
      obtain ⟨o', ho', hcl', _⟩ := hit
      rw [z, ho'] at ho
      cases ho
      rw [hcl'] at hcl
      exact absurd hcl (by decide)
    have hn : its.toArray.size = i := by rw [List.size_toArray, ← rv.length, hx]
    have hst : s.heap.IsTupleIter it a its.toArray.size ∧ s.heap.IsTuple a its.toArray := ⟨by rw [hn]; exact hit, p⟩
    exact wpAny_pyNext_enum_endD (Draws.tuple (prog := X.prog) (w := X.w) (A := X.A.in1) (I.ok.hd hc) it a hai its.toArray) he hst fun h' eb => ⟨rfl, I.turned (t' := s.toks) (fun b o hb q => eb b o hb q) f0 f1 f3 f4 f5⟩
  self := fun A i s Q E st h => by
    obtain ⟨⟨_, he⟩, _⟩ := st
    exact wpAny_pyIter_enum he h
def iEnumT (K : PySem.W.Frag) (ta : TA) : TI := fun σ H R => ta σ H fun vs H1 => ∃ a xs, vs = [.ref a] ∧ SqT K H1 a xs ∧ R (Iet K a) H1
theorem pi_enumT {X : Cx} {e : Expr} {ta : TA} {p pos tpos : Pos} {elts : List Expr} {kk : Nat} (hg : Gl X "enumerate") (hm : X.mg "enumerate" = none)
    (ha : PA X [e] ta) (hs : starEach [e] X.env = [(false, eval e X.env)] := by rfl) : PI X (.Tuple elts kk tpos) (.Call (.Name "enumerate" p) [e] [] pos) (iEnumT X.K ta) := by
  refine ⟨fun pins s σ H R I h => ?_⟩
  refine Call_ (ld_blt I hg hm boot_enumerate (callWith_type1
    (thn (ha.run pos pins s σ H _ I h) fun us s1 ⟨vs, H1, I1, r1, q1⟩ => ?_) hs rfl))
  obtain ⟨a, xs, ex, hq, q⟩ := q1
  subst ex
  cases r1 with
  | cons r rr =>
    cases rr
    cases r
    obtain ⟨its, rv, p', hz⟩ := I1.tuple hq
    refine enumTup p' fun h' he hit hk => wpAny_pyIter_enum he ?_
    have I2 : Inv X pins σ H1 { s1 with heap := h' } := I1.kept (t' := s1.toks) hk
    refine ⟨s1.heap.objs.size + 1, [s1.heap.objs.size + 1, s1.heap.objs.size], _, _, H1, rfl, I2,
      turnET a (s1.heap.objs.size + 1) s1.heap.objs.size, ⟨⟨.none, he⟩, hit, Nat.succ_ne_self _⟩, fun b hb => ?_, q⟩
    have hle : s1.heap.objs.size ≤ b := by
      have hb2 : b = s1.heap.objs.size + 1 ∨ b = s1.heap.objs.size := by simpa using hb
      rcases hb2 with z | z
      · rw [z]
        exact Nat.le_add_right _ _
      · rw [z]
        exact Nat.le_refl _
    exact I1.fpOk hle (I1.hok.fresh hle)
theorem walk_enumT {K : PySem.W.Frag} {a : Addr} {xs : List V} : Walk (Iet K a) xs.length (fun H => SqT K H a xs)
    (fun i H v H' => ∃ T x, v = .ref T ∧ H T = none ∧ H' = upd H T (.tup [.int (i : Nat), x]) ∧ xs[i]? = some x) := by
  refine ⟨fun i _ hi q => ⟨xs, xs[i], q, by simp [hi]⟩, fun _ q => ⟨xs, q, rfl⟩, fun i H v H' _ q y => ?_⟩
  obtain ⟨T, x, h1, h2, h3, h4⟩ := y
  exact ⟨T, x, h1, h2, h3, h4 xs q⟩
/-! ### repr of data -/
def rReprD (K : PySem.W.Frag) : List V → Hp → VK → Prop := fun vs H Q => ∃ (v : V) (d : PyData), vs = [v] ∧ Dt K H v d ∧ d.showable = true ∧ d.depth ≤ 100 ∧ d.shown.length ≤ sizeLine ∧ Q (.str d.shown) H
mutual
theorem noD {K : PySem.W.Frag} {H : Hp} : ∀ (d : PyData) {v : V}, Dp K H v d → d.hasDict = false
  | .none, _, _ => rfl
  | .bool _, _, _ => rfl
  | .int _, _, _ => rfl
  | .str _, _, _ => rfl
  | .list ds, _, h => by
    cases h with
    | lst _ ha => rw [PyData.hasDict]; exact noDAll ds ha
  | .tuple ds, _, h => by
    cases h with
    | tup _ ha => rw [PyData.hasDict]; exact noDAll ds ha
  | .dict _, _, h => by cases h
theorem noDAll {K : PySem.W.Frag} {H : Hp} : ∀ (ds : List PyData) {vs : List V}, DpAll K H vs ds → PyData.hasDictAll ds = false
  | [], _, _ => rfl
  | d :: ds, _, h => by
    cases h with
    | cons h1 h2 => rw [PyData.hasDictAll, noD d h1, noDAll ds h2]; rfl
end
theorem call_reprD {X : Cx} (hg : X.A.guards = some []) (hu : X.A.units + 200 < cLine) : CallR X (.builtin "repr") (rReprD X.K) := by
  intro pins s σ H vs us Q I r h
  obtain ⟨v, d, rfl, hd, hs, hdp, hz, q⟩ := h
  cases r with
  | cons r1 rr =>
    cases rr
    rename_i u
    cases hd with
    | d hd =>
      obtain ⟨as, hR⟩ := Dp.reads I d v u hd r1
      have fin : ∀ (t' : Tok) (k : Nat), EP X pins σ Q (.str d.shown t') { s with toks := k } := fun t' k => ⟨.str _, H, I.tok k, ⟨t', rfl⟩, q⟩
      cases hd with
      | non =>
        cases (show u = Value.none from r1)
        exact PySem.P.repr_of_none (fin _ _)
      | bl b =>
        cases (show u = Value.bool b from r1)
        refine PySem.P.repr_of_bool ?_
        have := fin s.toks (s.toks + 1)
        cases b <;> exact this
      | int i =>
        obtain ⟨t', rfl⟩ := r1
        exact PySem.P.repr_of_int (of_decide_eq_true hs) (fin _ _)
      | str x =>
        obtain ⟨t', rfl⟩ := r1
        exact PySem.P.repr_of_str (fin _ _) hz
      | @lst a xs ds hs2 ha =>
        cases (show u = Value.ref a from r1)
        have hnd : (PyData.list ds).hasDict = true → sysModules ∉ as := PyData.noDict_hsm (noD _ (.lst hs2 ha))
        exact repr_of_reads' hR hs hnd hg (by omega) (fun b o e => e) (fun h' t' tk hk => ⟨.str _, H, I.kept (t' := tk) hk, ⟨t', rfl⟩, q⟩) hz
      | @tup a xs ds hs2 ha =>
        cases (show u = Value.ref a from r1)
        have hnd : (PyData.tuple ds).hasDict = true → sysModules ∉ as := PyData.noDict_hsm (noD _ (.tup hs2 ha))
        exact repr_of_reads' hR hs hnd hg (by omega) (fun b o e => e) (fun h' t' tk hk => ⟨.str _, H, I.kept (t' := tk) hk, ⟨t', rfl⟩, q⟩) hz
    | @e a hd =>
      cases (show u = Value.ref a from r1)
      obtain ⟨hz2, hsm, vs, hkv, o, es, ep, h1, h2, h3⟩ := (show ObjOk X.prog X.w H s.heap a (.dK []) from I.hok a _ hd)
      cases hkv
      have hes : es.toList = [] := by
        have hp := h3.2.2.1
        generalize es.toList = l at hp
        cases hp
        rfl
      have hR : Reads s.heap (.ref a) (.dict []) (a :: [] ++ []) := Reads.dict h1 h2.1 h3.1 (by rw [hes]; exact .nil) (by rw [hes]; exact .nil)
      have hne : ¬ a = sysModules := fun z => by rw [z] at hsm; simp at hsm
      exact repr_of_reads' hR hs (fun _ z => hne (by simpa using Eq.symm (by simpa using z))) hg (by omega) (fun b o e => e) (fun h' t' tk hk => ⟨.str _, H, I.kept (t' := tk) hk, ⟨t', rfl⟩, q⟩) hz
end Tl
set_option Elab.async false
set_option linter.all false
set_option maxRecDepth 100000
set_option maxHeartbeats 4000000
/-! Data that is good to be shown: short texts, small numbers; how long its text can be. -/
namespace Tl
open PySem L2
mutual
def wt : PyData → Nat
  | .none => 4
  | .bool _ => 5
  | .int _ => 1930
  | .str s => 10 * s.length + 4
  | .list ds => 3 + wtAll ds
  | .tuple ds => 3 + wtAll ds
  | .dict _ => 2
def wtAll : List PyData → Nat
  | [] => 0
  | d :: ds => wt d + 2 + wtAll ds
end
mutual
def gd : PyData → Bool
  | .none => true
  | .bool _ => true
  | .int i => decide (i.natAbs < 10 ^ 41)
  | .str s => decide (s.length ≤ 1000) && PyData.strOk s
  | .list ds => gdAll ds
  | .tuple ds => gdAll ds
  | .dict _ => false
def gdAll : List PyData → Bool
  | [] => true
  | d :: ds => gd d && gdAll ds
end
mutual
theorem gd_txt : ∀ d : PyData, gd d = true → txt d = true
  | .none, _ => rfl
  | .bool _, _ => rfl
  | .int _, _ => rfl
  | .str s, h => by rw [gd] at h; rw [txt]; exact h
  | .list ds, h => by rw [gd] at h; rw [txt]; exact gdAll_txt ds h
  | .tuple ds, h => by rw [gd] at h; rw [txt]; exact gdAll_txt ds h
  | .dict _, h => Bool.noConfusion h
theorem gdAll_txt : ∀ ds : List PyData, gdAll ds = true → txtAll ds = true
  | [], _ => rfl
  | d :: ds, h => by
    rw [gdAll, Bool.and_eq_true] at h
    rw [txtAll, gd_txt d h.1, gdAll_txt ds h.2]
    rfl
end
theorem big41 : (10 : Nat) ^ 41 ≤ 2 ^ 1920 := Nat.le_trans (show (10 : Nat) ^ 41 ≤ 2 ^ 200 by decide) (Nat.pow_le_pow_right (by decide) (by decide))
mutual
theorem gd_show : ∀ d : PyData, gd d = true → d.showable = true
  | .none, _ => rfl
  | .bool _, _ => rfl
  | .int i, h => by
    rw [gd] at h
    have h2 : i.natAbs < 10 ^ 41 := of_decide_eq_true h
    rw [PyData.showable]
    apply decide_eq_true
    by_cases h0 : i.natAbs = 0
    · rw [h0]; decide
    · exact (Nat.log2_lt h0).mpr (Nat.lt_of_lt_of_le h2 big41)
  | .str s, h => rfl
  | .list ds, h => by rw [gd] at h; rw [PyData.showable]; exact gdAll_show ds h
  | .tuple ds, h => by rw [gd] at h; rw [PyData.showable]; exact gdAll_show ds h
  | .dict _, h => Bool.noConfusion h
theorem gdAll_show : ∀ ds : List PyData, gdAll ds = true → PyData.showableAll ds = true
  | [], _ => rfl
  | d :: ds, h => by
    rw [gdAll, Bool.and_eq_true] at h
    rw [PyData.showableAll, gd_show d h.1, gdAll_show ds h.2]
    rfl
end
theorem textFrom_le : ∀ (ts : List Str) (k : Nat) (acc : Str), (textFrom k acc ts).length ≤ acc.length + piled ts
  | [], k, acc => by rw [piled_nil]; exact Nat.le_refl _
  | t :: r, k, acc => by
    have ih := textFrom_le r (k + 1) (acc ++ (if k > 0 then ", " else "" : String) ++ t)
    have e : (acc ++ (if k > 0 then ", " else "" : String) ++ t).length ≤ acc.length + 2 + t.length := by
      rw [strLen_append, strLen_append]
      have : ((if k > 0 then ", " else "" : String) : Str).length ≤ 2 := by split <;> decide +kernel
      omega
    show (textFrom (k + 1) _ r).length ≤ _
    rw [piled_cons]
    omega
theorem listText_le (ts : List Str) : (listText ts).length ≤ piled ts + 2 := by
  unfold listText
  rw [strLen_append]
  have h := textFrom_le ts 0 "["
  have e1 : ((("[" : String) : Str)).length = 1 := rfl
  have e2 : ((("]" : String) : Str)).length = 1 := rfl
  rw [e1] at h
  rw [e2]
  omega
mutual
theorem shown_le : ∀ d : PyData, gd d = true → d.shown.length ≤ wt d
  | .none, _ => by decide +kernel
  | .bool true, _ => by decide +kernel
  | .bool false, _ => by decide +kernel
  | .int i, h => by
    rw [gd] at h
    have h2 : i.natAbs < 10 ^ 41 := of_decide_eq_true h
    have h4 : i.natAbs.log2 < 1920 := by
      by_cases h0 : i.natAbs = 0
      · rw [h0]; decide
      · exact (Nat.log2_lt h0).mpr (Nat.lt_of_lt_of_le h2 big41)
    have h3 := PyProof.Rows.int_text_len_1921 h4
    show (Str.ofString (toString i)).length ≤ 1930
    omega
  | .str s, h => by
    rw [gd, Bool.and_eq_true] at h
    have h2 := h.2
    rw [PyData.strOk, ← Array.all_toList, List.all_eq_true] at h2
    have h3 := StrLaws.reprText_len s fun c hc => Nat.lt_of_lt_of_le (of_decide_eq_true (h2 c hc)) (by decide)
    show (reprText s).length ≤ 10 * s.length + 4
    omega
  | .list ds, h => by
    rw [gd] at h
    have h2 := shownAll_le ds h
    have h3 := listText_le (PyData.shownAll ds)
    show (listText (PyData.shownAll ds)).length ≤ 3 + wtAll ds
    omega
  | .tuple ds, h => by
    rw [gd] at h
    have h2 := shownAll_le ds h
    have h3 := fmt_text (PyData.shownAll ds)
    show (tupleText (PyData.shownAll ds)).length ≤ 3 + wtAll ds
    omega
  | .dict _, h => Bool.noConfusion h
theorem shownAll_le : ∀ ds : List PyData, gdAll ds = true → piled (PyData.shownAll ds) ≤ wtAll ds
  | [], _ => Nat.le_refl _
  | d :: ds, h => by
    rw [gdAll, Bool.and_eq_true] at h
    have h1 := shown_le d h.1
    have h2 := shownAll_le ds h.2
    rw [PyData.shownAll, piled_cons, wtAll]
    omega
end
theorem gdAll_get : ∀ {ds : List PyData} {i : Nat} {d : PyData}, gdAll ds = true → ds[i]? = some d → gd d = true ∧ wt d + 2 ≤ wtAll ds ∧ d.depth ≤ PyData.depthAll ds
  | [], _, _, _, e => by simp at e
  | a :: r, 0, d, h, e => by
    rw [gdAll, Bool.and_eq_true] at h
    simp at e
    subst e
    rw [wtAll, PyData.depthAll]
    exact ⟨h.1, by omega, Nat.le_max_left _ _⟩
  | a :: r, i + 1, d, h, e => by
    rw [gdAll, Bool.and_eq_true] at h
    obtain ⟨h1, h2, h3⟩ := gdAll_get (i := i) h.2 (by simpa using e)
    rw [wtAll, PyData.depthAll]
    exact ⟨h1, by omega, Nat.le_trans h3 (Nat.le_max_right _ _)⟩
theorem gdAll_app : ∀ {ds es : List PyData}, gdAll (ds ++ es) = (gdAll ds && gdAll es)
  | [], es => by rw [List.nil_append, gdAll, Bool.true_and]
  | a :: r, es => by rw [List.cons_append, gdAll, gdAll, gdAll_app, Bool.and_assoc]
theorem wtAll_app : ∀ {ds es : List PyData}, wtAll (ds ++ es) = wtAll ds + wtAll es
  | [], es => by rw [List.nil_append, wtAll, Nat.zero_add]
  | a :: r, es => by rw [List.cons_append, wtAll, wtAll, wtAll_app]; omega
theorem depthAll_app : ∀ {ds es : List PyData}, PyData.depthAll (ds ++ es) = max (PyData.depthAll ds) (PyData.depthAll es)
  | [], es => by rw [List.nil_append, PyData.depthAll]; omega
  | a :: r, es => by rw [List.cons_append, PyData.depthAll, PyData.depthAll, depthAll_app]; omega
theorem depthAll_le {ds : List PyData} {m : Nat} : (∀ d ∈ ds, d.depth ≤ m) → PyData.depthAll ds ≤ m := by
  induction ds with
  | nil => intro _; exact Nat.zero_le _
  | cons a r ih =>
    intro h
    rw [PyData.depthAll]
    have h1 := h a List.mem_cons_self
    have h2 := ih fun d hd => h d (List.mem_cons_of_mem _ hd)
    omega
theorem gdAll_of {ds : List PyData} : (∀ d ∈ ds, gd d = true) → gdAll ds = true := by
  induction ds with
  | nil => intro _; rfl
  | cons a r ih =>
    intro h
    rw [gdAll, h a List.mem_cons_self, ih fun d hd => h d (List.mem_cons_of_mem _ hd)]
    rfl
theorem len_wt : ∀ ds : List PyData, 2 * ds.length ≤ wtAll ds
  | [] => Nat.zero_le _
  | a :: r => by
    have := len_wt r
    rw [wtAll, List.length_cons]
    omega
/-! ### trees -/
def tags6 : List Str := ["a", "b", "ab", "zz", "abcdefgh", "z"]
def tagOk (s : Str) : Prop := 1 ≤ s.length ∧ s.length ≤ 8 ∧ (PyData.strOk s = true ∧ s ∈ tags6)
def TrD : Nat → PyData → Prop
  | 0, _ => False
  | h + 1, d => ∃ (s : Str) (ks : List PyData), d = .tuple [.str s, .tuple ks] ∧ tagOk s ∧ ∀ k ∈ ks, TrD h k
theorem TrD.mono : ∀ {h h' : Nat} {d : PyData}, h ≤ h' → TrD h d → TrD h' d
  | 0, _, _, _, t => t.elim
  | h + 1, 0, _, e, _ => by omega
  | h + 1, h' + 1, d, e, t => by
    obtain ⟨s, ks, rfl, a, b⟩ := t
    exact ⟨s, ks, rfl, a, fun k hk => TrD.mono (by omega) (b k hk)⟩
theorem gd_tag {s : Str} (h : tagOk s) : gd (.str s) = true := by
  rw [gd, h.2.2.1, decide_eq_true (by have := h.2.1; omega)]
  rfl
theorem TrD.gd : ∀ {h : Nat} {d : PyData}, TrD h d → gd d = true ∧ d.depth ≤ 2 * h
  | 0, _, t => t.elim
  | h + 1, d, t => by
    obtain ⟨s, ks, rfl, a, b⟩ := t
    have g1 : gdAll ks = true := gdAll_of fun k hk => (TrD.gd (b k hk)).1
    have g2 : PyData.depthAll ks ≤ 2 * h := depthAll_le fun k hk => (TrD.gd (b k hk)).2
    refine ⟨?_, ?_⟩
    · rw [Tl.gd, gdAll, gdAll, gdAll, gd_tag a, Tl.gd, g1]
      rfl
    · simp only [PyData.depth, PyData.depthAll]
      omega
theorem wt_node (s : Str) (ks : List PyData) : wt (.tuple [.str s, .tuple ks]) = 10 * s.length + 14 + wtAll ks := by
  simp only [wt, wtAll]
  omega
/-! ### the heap: data in F within H, the source of numbers at st -/
structure Gw (F H F' H' : Hp) : Prop where
  ff : Same F F'
  fh : Same F' H'
  hh : Same H H'
  nw : ∀ b, H b ≠ none → F b = none → F' b = none
theorem Gw.refl {F H : Hp} (e : Same F H) : Gw F H F H := ⟨Same.refl _, e, Same.refl _, fun _ _ h => h⟩
theorem Gw.trans {F H F1 H1 F2 H2 : Hp} (a : Gw F H F1 H1) (b : Gw F1 H1 F2 H2) : Gw F H F2 H2 :=
  ⟨a.ff.trans b.ff, b.fh, a.hh.trans b.hh, fun x h1 h2 => b.nw x (fun z => h1 (a.hh.free z)) (a.nw x h1 h2)⟩
theorem Gw.new {F H : Hp} {p : Addr} {o : HO} (e : Same F H) (h : H p = none) : Gw F H (upd F p o) (upd H p o) := by
  refine ⟨same_new (e.free h), fun b u q => ?_, same_new h, fun b h1 h2 => ?_⟩
  · by_cases z : b = p
    · subst z
      rw [upd_same] at q ⊢
      exact q
    · rw [upd_ne z] at q ⊢
      exact e b u q
  · rw [upd_ne (fun z => h1 (by rw [z]; exact h))]
    exact h2
end Tl
set_option Elab.async false
set_option linter.all false
set_option maxRecDepth 100000
set_option maxHeartbeats 4000000
namespace Tl
open PySem PySem.Spec PyProof.Rows L2
/-! An exception that a suite has put into another name, and that is looked at behind the try. -/
/-- the caught thing at a, of the class cls, its dict d -/
def CgO (cls : Value) (d : Option Addr) (a : Addr) : HO := .ext fun h => ∃ (oe : Obj) (vs : Array Value), h.get? a = some oe ∧ Zc cls d oe ∧ oe.data = .fields vs
section
variable {X : Cx}
/-- X(), an own error without a word -/
theorem pmk_own0 {C : Addr} {bmB : List Value} {B newId initId : String} {x : Str} {p pos : Pos} (F : ExcBaseFacts B newId initId bmB) (q : PySem.W.excIn X.K C bmB newId = true) (gC : X.mg x = some (.ref C)) (kC : PySem.W.keepIn X.K (.ref C) = true) (r : Raises X (.ref C)) (hg : Gl X x)
    (hdb : (x == ("__debug__" : Str)) = false := by decide) : PMk X (.Call (.Name x p) [] [] pos) (fun _ H Q => Q (.ref C) none H) := by
  intro pins s σ H Q I h
  refine wpAny_Call_Name_kw (ld_glob I hg gC ?_ hdb)
  refine PySem.W.callWith_K0 I.kIn kC ?_
  obtain ⟨bm, N, nm, qn, bs, hdct, sn, sub, ab, col, dd, k0, k1, k2, k3, k5, mN, hC, hN, hni, T⟩ := exc_obj I.kIn q
  exact wpAny_call_exc_subT F T hC hN hni (fun h' e hm => mk_of I hm r h (I.hok.gone hm.new)) (Nat.zero_le _)
end
end Tl
set_option Elab.async false
set_option linter.all false
set_option maxRecDepth 100000
set_option maxHeartbeats 4000000
set_option Elab.async false
set_option linter.all false
set_option maxRecDepth 100000
set_option maxHeartbeats 4000000
/-! Dicts whose keys are tuples of numbers, nested: kept as one object; the keys' own objects are told of by others. -/
namespace Tl
open PySem PySem.Spec PyProof.Rows L2
/-! ### keys -/
mutual
/-- numbers, and tuples of such -/
def noTxt : NestedKey → Bool
  | .num _ => true
  | .tup ks => noTxts ks
  | _ => false
def noTxts : List NestedKey → Bool
  | [] => true
  | k :: ks => noTxt k && noTxts ks
end
mutual
theorem hash_any : ∀ (k : NestedKey) (w w' : World), noTxt k = true → k.hash w = k.hash w'
  | .num i, _, _, _ => rfl
  | .tup ks, w, w', h => by rw [NestedKey.hash, NestedKey.hash, hashes_any ks w w' (by simpa [noTxt] using h)]
  | .none, _, _, h => by simp [noTxt] at h
  | .text _, _, _, h => by simp [noTxt] at h
theorem hashes_any : ∀ (ks : List NestedKey) (w w' : World), noTxts ks = true → NestedKey.hashes w ks = NestedKey.hashes w' ks
  | [], _, _, _ => rfl
  | k :: ks, w, w', h => by
    rw [noTxts, Bool.and_eq_true] at h
    rw [NestedKey.hashes, NestedKey.hashes, hash_any k w w' h.1, hashes_any ks w w' h.2]
end
mutual
/-- the value v is the key k -/
inductive KeyV (K : PySem.W.Frag) (H : Hp) : V → NestedKey → Prop
  | int (i : Int) : KeyV K H (.int i) (.num i)
  | tup {a : Addr} {xs : List V} {ks : List NestedKey} (h : SqT K H a xs) (r : KeyVs K H xs ks) : KeyV K H (.ref a) (.tup ks)
inductive KeyVs (K : PySem.W.Frag) (H : Hp) : List V → List NestedKey → Prop
  | nil : KeyVs K H [] []
  | cons {x : V} {k : NestedKey} {xs : List V} {ks : List NestedKey} (h : KeyV K H x k) (r : KeyVs K H xs ks) : KeyVs K H (x :: xs) (k :: ks)
end
section
variable {X : Cx} {pins : List (Addr × Obj)} {σ : L2.St} {H : Hp} {s : Shared}
mutual
theorem KeyV.is (I : Inv X pins σ H s) : ∀ {k : NestedKey} {v : V} {u : Value}, KeyV X.K H v k → RelV v u → NestedIs s.heap k u
  | .num i, v, u, h, r => by
    cases h
    obtain ⟨t, rfl⟩ := r
    exact .int i t
  | .tup ks, v, u, h, r => by
    cases h with
    | tup hs hr =>
      cases r
      obtain ⟨its, rv, ⟨o, h1, h2, n, h3⟩, _⟩ := I.tuple hs
      exact .tup h1 h2 h3 (by simpa using KeyVs.is I hr rv)
  | .none, _, _, h, _ => by cases h
  | .text _, _, _, h, _ => by cases h
theorem KeyVs.is (I : Inv X pins σ H s) : ∀ {ks : List NestedKey} {vs : List V} {us : List Value}, KeyVs X.K H vs ks → Vals vs us → NestedAll s.heap ks us
  | [], _, _, h, r => by cases h; cases r; exact .nil
  | k :: ks, _, _, h, r => by
    cases h with
    | cons a b =>
      cases r with
      | cons ra rb => exact .cons (KeyV.is I a ra) (KeyVs.is I b rb)
end
end
/-! ### the object -/
abbrev DU1 := NestedKey × Addr × V
abbrev DU2 := NestedKey × Addr × Value
def RelU (x : DU1) (y : DU2) : Prop := x.1 = y.1 ∧ x.2.1 = y.2.1 ∧ RelV x.2.2 y.2.2
def entU (w : World) (y : DU2) : DictEntry := ⟨y.1.hash w, .ref y.2.1, y.2.2⟩
def phiU (a : Addr) (xs : List DU1) (h : Heap) : Prop := ∃ (ys : List DU2) (o : Obj) (es : Array DictEntry) (ep : Nat), Paired RelU xs ys ∧ h.get? a = some o ∧ o.ExactDict ∧ o.data = .dict es ep ∧ ∀ w : World, es.toList = ys.map (entU w)
def DU (a : Addr) (xs : List DU1) : HO := .ext (phiU a xs)
theorem phiU_ok {P : Program} {w : World} {H : Hp} {h : Heap} {a : Addr} {xs : List DU1} (p : phiU a xs h) : ObjOk P w H h a (DU a xs) := by
  obtain ⟨ys, o, es, ep, h1, h2, h3, h4, h5⟩ := p
  exact ⟨⟨ys, o, es, ep, h1, h2, h3, h4, h5⟩, ⟨o, h2⟩, fun h1' h2' ⟨ys', o', es', ep', g1, g2, g3, g4, g5⟩ k => ⟨ys', o', es', ep', g1, k _ g2, g3, g4, g5⟩⟩
theorem DU_get {P : Program} {w : World} {H : Hp} {h : Heap} {a : Addr} {xs : List DU1} (x : HOk P w H h) (e : H a = some (DU a xs)) : phiU a xs h := (show ObjOk P w H h a (DU a xs) from x a _ e).1
/-- what else is known of such a dict -/
structure KeysU (K : PySem.W.Frag) (H : Hp) (a : Addr) (xs : List DU1) : Prop where
  sm : (a == sysModules) = false
  sz : xs.length ≤ sizeLine
  nd : (xs.map (·.1)).Nodup
  ks : ∀ x ∈ xs, KeyV K H (.ref x.2.1) x.1 ∧ x.1.depth ≤ 8 ∧ noTxt x.1 = true
theorem Paired.fst {xs : List DU1} {ys : List DU2} (h : Paired RelU xs ys) : xs.map (·.1) = ys.map (·.1) := by
  induction h with
  | nil => rfl
  | cons r t ih => rw [List.map_cons, List.map_cons, ih, r.1]
theorem Paired.memU {xs : List DU1} {ys : List DU2} (h : Paired RelU xs ys) : ∀ y ∈ ys, ∃ x ∈ xs, RelU x y := by
  induction h with
  | nil => intro y hy; cases hy
  | cons r t ih =>
    intro y hy
    rcases List.mem_cons.mp hy with rfl | hy
    · exact ⟨_, .head _, r⟩
    · obtain ⟨x, hx, e⟩ := ih y hy
      exact ⟨x, .tail _ hx, e⟩
def findU {α : Type} (xs : List (NestedKey × Addr × α)) (k : NestedKey) : Option α := (xs.find? fun x => decide (x.1 = k)).map (·.2.2)
def putU {α : Type} (xs : List (NestedKey × Addr × α)) (k : NestedKey) (b : Addr) (v : α) : List (NestedKey × Addr × α) :=
  if (findU xs k).isSome then xs.map (fun x => if x.1 = k then (x.1, x.2.1, v) else x) else xs ++ [(k, b, v)]
theorem Paired.findU {xs : List DU1} {ys : List DU2} (h : Paired RelU xs ys) (k : NestedKey) : RelO (Tl.findU xs k) ((atKey ys k).map (·.2)) := by
  induction h with
  | nil => exact True.intro
  | @cons x y xs ys r t ih =>
    obtain ⟨kx, ax, vx⟩ := x
    obtain ⟨ky, ay, vy⟩ := y
    obtain ⟨r1, r2, r3⟩ := r
    simp only at r1 r2 r3
    subst r1 r2
    unfold Tl.findU atKey at ih ⊢
    by_cases e : kx = k
    · rw [List.find?_cons_of_pos (by simpa using e), List.find?_cons_of_pos (by simpa using e)]
      exact r3
    · rw [List.find?_cons_of_neg (by simpa using e), List.find?_cons_of_neg (by simpa using e)]
      exact ih
theorem Paired.putU {xs : List DU1} {ys : List DU2} (h : Paired RelU xs ys) (k : NestedKey) (b : Addr) {v : V} {u : Value} (r : RelV v u) : Paired RelU (Tl.putU xs k b v) (storedH ys k b u) := by
  have f := Paired.findU h k
  have e : (Tl.findU xs k).isSome = (atKey ys k).isSome := by
    have := f.isSome_eq
    rw [Option.isSome_map] at this
    exact this
  unfold Tl.putU storedH
  rw [e]
  split
  · rename_i hc
    clear f e hc
    induction h with
    | nil => exact .nil
    | @cons x y xs ys r1 t ih =>
      obtain ⟨kx, ax, vx⟩ := x
      obtain ⟨ky, ay, vy⟩ := y
      obtain ⟨r1, r2, r3⟩ := r1
      simp only at r1 r2 r3
      subst r1 r2
      rw [List.map_cons, List.map_cons]
      refine .cons ?_ ih
      unfold putAt
      by_cases e : kx = k
      · rw [if_pos e, if_pos e]
        exact ⟨rfl, rfl, r⟩
      · rw [if_neg e, if_neg e]
        exact ⟨rfl, rfl, r3⟩
  · rename_i hc
    clear f e hc
    induction h with
    | nil => exact .cons ⟨rfl, rfl, r⟩ .nil
    | cons r1 t ih => exact .cons r1 ih
section
variable {X : Cx} {pins : List (Addr × Obj)} {σ : L2.St} {H : Hp} {s : Shared} {a b : Addr} {xs : List DU1} {k : NestedKey} {A : Around} {E : Value → Shared → Prop}
theorem DU_of (I : Inv X pins σ H s) (e : H a = some (DU a xs)) (ku : KeysU X.K H a xs) : ∃ ys, Paired RelU xs ys ∧ s.heap.DictOfH (nestedKind X.prog X.w) a ys ∧ ∀ y ∈ ys, noTxt y.1 = true := by
  obtain ⟨ys, o, es, ep, h1, h2, h3, h4, h5⟩ := DU_get I.hok e
  refine ⟨ys, h1, ⟨o, es, ep, h2, h3, h4, h5 X.w, fun y hy => ?_, by rw [← Paired.fst h1]; exact ku.nd⟩, fun y hy => ?_⟩
  · obtain ⟨x, hx, r1, r2, _⟩ := Paired.memU h1 y hy
    obtain ⟨q1, q2, _⟩ := ku.ks x hx
    rw [← r1, ← r2]
    exact ⟨q1.is I rfl, q2⟩
  · obtain ⟨x, hx, r1, r2, _⟩ := Paired.memU h1 y hy
    rw [← r1]
    exact (ku.ks x hx).2.2
theorem u_in {Q : Value → Shared → Prop} (hu : A.units + 20 < cLine) (I : Inv X pins σ H s) (e : H a = some (DU a xs)) (ku : KeysU X.K H a xs) (hk : KeyV X.K H (.ref b) k) (hd : k.depth ≤ 8) (h : ∀ s', Inv X pins σ H s' → Q (.bool (findU xs k).isSome) s') :
    wpAny (model X.prog X.w) A (compareOp .In (.ref b) (.ref a)) Q E s := by
  obtain ⟨ys, h1, dd, _⟩ := DU_of I e ku
  refine wpAny_in_heap (knd := nestedKind X.prog X.w) (k := k) (show A.units + 1 + 8 < cLine by omega) ⟨hk.is I rfl, hd⟩ ku.sm dd ?_
  have q := (Paired.findU h1 k).isSome_eq
  rw [Option.isSome_map] at q
  rw [← q]
  exact h _ (I.tok _)
/-- d[k] = v -/
theorem u_setItem {v : V} {u : Value} {Q : Unit → Shared → Prop} (hu : A.units + 20 < cLine) (I : Inv X pins σ H s) (e : H a = some (DU a xs)) (ku : KeysU X.K H a xs) (hk : KeyV X.K H (.ref b) k) (hd : k.depth ≤ 8) (hn : noTxt k = true) (hz : xs.length < sizeLine) (r : RelV v u) (h : ∀ s', Inv X pins σ (upd H a (DU a (putU xs k b v))) s' → Q () s') :
    wpAny (model X.prog X.w) A (setItem (.ref a) (.ref b) u) Q E s := by
  obtain ⟨ys, h1, dd, hnt⟩ := DU_of I e ku
  have hz2 : ys.length ≤ sizeLine := by rw [← Paired.length h1]; omega
  refine wpAny_setItem_heap (knd := nestedKind X.prog X.w) (k := k) (hsz := hz2) (show A.units + 1 + 8 < cLine by omega) ⟨hk.is I rfl, hd⟩ dd fun h' dd' hs => h _ ?_
  obtain ⟨o, es, ep, g1, g2, g3, g4, g5, g6⟩ := dd'
  refine d_write I (by rw [e]; exact True.intro) hs ⟨o, g1⟩ (phiU_ok ⟨_, o, es, ep, Paired.putU h1 k b r, g1, g2, g3, fun w => ?_⟩)
  rw [g4]
  refine List.map_congr_left fun y hy => ?_
  have hy2 : noTxt y.1 = true := by
    unfold storedH at hy
    split at hy
    · obtain ⟨z, hz, rfl⟩ := List.mem_map.mp hy
      unfold putAt
      split
      · exact hnt z hz
      · exact hnt z hz
    · rcases List.mem_append.mp hy with hy | hy
      · exact hnt y hy
      · rw [List.mem_singleton.mp hy]; exact hn
  unfold entU
  show (⟨y.1.hash X.w, _, _⟩ : DictEntry) = _
  rw [hash_any y.1 X.w w hy2]
theorem du_empty {P : Program} {w : World} {H : Hp} (h : Heap) : ObjOk P w H (h.push { cls := .type "dict", data := .dict #[] }) h.objs.size (DU h.objs.size []) :=
  phiU_ok ⟨[], _, #[], 0, .nil, Heap.get?_push_size _ rfl, ⟨rfl, rfl, rfl⟩, rfl, fun _ => rfl⟩
end
/-! ### keys as data -/
mutual
def keyN : PyData → NestedKey
  | .int i => .num i
  | .tuple ds => .tup (keyNs ds)
  | _ => .none
def keyNs : List PyData → List NestedKey
  | [] => []
  | d :: ds => keyN d :: keyNs ds
end
mutual
/-- numbers, and tuples of such -/
def keyOk : PyData → Bool
  | .int _ => true
  | .tuple ds => keyOks ds
  | _ => false
def keyOks : List PyData → Bool
  | [] => true
  | d :: ds => keyOk d && keyOks ds
end
mutual
theorem keyN_inj : ∀ (a b : PyData), keyOk a = true → keyOk b = true → keyN a = keyN b → a = b
  | .int i, b, _, hb, e => by
    cases b with
    | int j => simp only [keyN, NestedKey.num.injEq] at e; rw [e]
    | tuple ds => simp [keyN] at e
    | _ => simp [keyOk] at hb
  | .tuple ds, b, ha, hb, e => by
    cases b with
    | int j => simp [keyN] at e
    | tuple es =>
      simp only [keyN, NestedKey.tup.injEq] at e
      rw [keyOk] at ha hb
      rw [keyNs_inj ds es ha hb e]
    | _ => simp [keyOk] at hb
  | .none, _, ha, _, _ => by simp [keyOk] at ha
  | .bool _, _, ha, _, _ => by simp [keyOk] at ha
  | .str _, _, ha, _, _ => by simp [keyOk] at ha
  | .list _, _, ha, _, _ => by simp [keyOk] at ha
  | .dict _, _, ha, _, _ => by simp [keyOk] at ha
theorem keyNs_inj : ∀ (a b : List PyData), keyOks a = true → keyOks b = true → keyNs a = keyNs b → a = b
  | [], [], _, _, _ => rfl
  | [], _ :: _, _, _, e => by simp [keyNs] at e
  | _ :: _, [], _, _, e => by simp [keyNs] at e
  | a :: as, b :: bs, ha, hb, e => by
    rw [keyOks, Bool.and_eq_true] at ha hb
    simp only [keyNs, List.cons.injEq] at e
    rw [keyN_inj a b ha.1 hb.1 e.1, keyNs_inj as bs ha.2 hb.2 e.2]
end
mutual
theorem keyN_noTxt : ∀ (d : PyData), keyOk d = true → noTxt (keyN d) = true
  | .int i, _ => by rw [keyN, noTxt]
  | .tuple ds, h => by rw [keyN, noTxt]; rw [keyOk] at h; exact keyNs_noTxt ds h
  | .none, h => by simp [keyOk] at h
  | .bool _, h => by simp [keyOk] at h
  | .str _, h => by simp [keyOk] at h
  | .list _, h => by simp [keyOk] at h
  | .dict _, h => by simp [keyOk] at h
theorem keyNs_noTxt : ∀ (ds : List PyData), keyOks ds = true → noTxts (keyNs ds) = true
  | [], _ => by rw [keyNs, noTxts]
  | d :: ds, h => by
    rw [keyOks, Bool.and_eq_true] at h
    rw [keyNs, noTxts, keyN_noTxt d h.1, keyNs_noTxt ds h.2]
    rfl
end
mutual
theorem keyN_depth : ∀ (d : PyData), (keyN d).depth ≤ d.depth
  | .int i => by rw [keyN, NestedKey.depth]; exact Nat.zero_le _
  | .tuple ds => by
    rw [keyN, NestedKey.depth, PyData.depth]
    have := keyNs_depth ds
    omega
  | .none => by rw [keyN, NestedKey.depth]; exact Nat.zero_le _; all_goals simp
  | .bool _ => by rw [keyN, NestedKey.depth]; exact Nat.zero_le _; all_goals simp
  | .str _ => by rw [keyN, NestedKey.depth]; exact Nat.zero_le _; all_goals simp
  | .list _ => by rw [keyN, NestedKey.depth]; exact Nat.zero_le _; all_goals simp
  | .dict _ => by rw [keyN, NestedKey.depth]; exact Nat.zero_le _; all_goals simp
theorem keyNs_depth : ∀ (ds : List PyData), NestedKey.depthAll (keyNs ds) ≤ PyData.depthAll ds
  | [] => by rw [keyNs, NestedKey.depthAll]; exact Nat.zero_le _
  | d :: ds => by
    have h1 := keyN_depth d
    have h2 := keyNs_depth ds
    rw [keyNs, NestedKey.depthAll, PyData.depthAll]
    omega
end
end Tl
set_option Elab.async false
set_option linter.all false
set_option maxRecDepth 100000
set_option maxHeartbeats 4000000
/-! A second layer over the hand layer: values are data or named objects; a memory M tells the objects that may change, all else is data for good. -/
namespace Tl
open PySem L2
mutual
/-- data at v, as F knows it; the empty dict may stand anywhere -/
inductive Dx (K : PySem.W.Frag) (F : Hp) : V → PyData → Prop
  | non : Dx K F .non .none
  | bl (b : Bool) : Dx K F (.bl b) (.bool b)
  | int (i : Int) : Dx K F (.int i) (.int i)
  | str (x : Str) : Dx K F (.str x) (.str x)
  | lst {a : Addr} {xs : List V} {ds : List PyData} : F a = some (.lst xs) → DxL K F xs ds → Dx K F (.ref a) (.list ds)
  | tup {a : Addr} {xs : List V} {ds : List PyData} : SqT K F a xs → DxL K F xs ds → Dx K F (.ref a) (.tuple ds)
  | dic {a : Addr} : F a = some (.dK []) → Dx K F (.ref a) (.dict [])
inductive DxL (K : PySem.W.Frag) (F : Hp) : List V → List PyData → Prop
  | nil : DxL K F [] []
  | cons {v : V} {vs : List V} {d : PyData} {ds : List PyData} : Dx K F v d → DxL K F vs ds → DxL K F (v :: vs) (d :: ds)
end
/-- one of two, by a truth -/
inductive IfB (c : Bool) (A B : Prop) : Prop where
  | t (h : c = true) (q : A) : IfB c A B
  | f (h : c = false) (q : B) : IfB c A B
theorem IfB.ite {c : Bool} {A B : Prop} (h : IfB c A B) : if c = true then A else B := by
  cases h with
  | t h q => rw [if_pos h]; exact q
  | f h q => rw [h, if_neg Bool.false_ne_true]; exact q
theorem IfB.of {c : Bool} {A B : Prop} (h1 : c = true → A) (h2 : c = false → B) : IfB c A B := by
  cases c with
  | true => exact .t rfl (h1 rfl)
  | false => exact .f rfl (h2 rfl)
theorem IfB.d {p A B : Prop} [Decidable p] (h1 : p → A) (h2 : ¬ p → B) : IfB (decide p) A B := IfB.of (fun h => h1 (of_decide_eq_true h)) fun h => h2 (of_decide_eq_false h)
theorem IfB.n {p A B : Prop} [Decidable p] (h1 : ¬ p → B) (h2 : p → A) : IfB (decide p) A B := IfB.d h2 h1
theorem IfB.not {c : Bool} {A B : Prop} (h : IfB c B A) : IfB (!c) A B := by
  cases h with
  | t h q => exact .f (by rw [h]; rfl) q
  | f h q => exact .t (by rw [h]; rfl) q
def ng : Bool → Bool → Bool
  | true, b => !b
  | false, b => b
theorem IfB.ngt {c : Bool} {A B : Prop} (h : IfB c B A) : IfB (ng true c) A B := h.not
theorem IfB.ngf {c : Bool} {A B : Prop} (h : IfB c A B) : IfB (ng false c) A B := h
theorem IfB.yes {p A B : Prop} [Decidable p] (h : p) (q : A) : IfB (decide p) A B := .t (decide_eq_true h) q
theorem IfB.no {p A B : Prop} [Decidable p] (h : ¬ p) (q : B) : IfB (decide p) A B := .f (decide_eq_false h) q
/-- a value -/
inductive W where
  | d (x : PyData)
  | r (a : Addr)
  | o (v : V)
  /-- a caught error: where it stands, its class, its dict, its fields -/
  | x (a C : Addr) (dd : Option Addr) (fs : List (Str × PyData))
/-- an object that may change -/
inductive MO where
  | lst (ws : List W)
  | src (b : Bool)
  | dK (kvs : List (Key × W))
  /-- a dict keyed by numbers in tuples -/
  | dT (kvs : List (PyData × W))
  | ins (C dx : Addr) (fs : List (Str × W))
  | exc (C : Addr) (dd : Option Addr)
  /-- a dict while it is walked -/
  | lkK (ob : Obj) (kv : List (Key × V)) (kvs : List (Key × W))
  /-- the table of a def's own code: what it tells bears the name q -/
  | tab (q : Str)
  /-- a dict keyed by numbers in tuples, while it is walked -/
  | lkT (ob : Obj) (xs : List DU1) (kvs : List (PyData × W))
  /-- a lambda that captures nothing -/
  | lam (q : Str) (params : Arguments) (body : Expr) (scope : Scope)
abbrev Mem := Addr → Option MO
abbrev EnvD := List (Option W)
def mset (M : Mem) (a : Addr) (o : MO) : Mem := fun b => if b = a then some o else M b
def mdel (M : Mem) (a : Addr) : Mem := fun b => if b = a then none else M b
theorem mset_same {M : Mem} {a : Addr} {o : MO} : mset M a o a = some o := if_pos rfl
theorem mset_ne {M : Mem} {a b : Addr} {o : MO} (h : b ≠ a) : mset M a o b = M b := if_neg h
theorem mdel_same {M : Mem} {a : Addr} : mdel M a a = none := if_pos rfl
theorem mdel_ne {M : Mem} {a b : Addr} (h : b ≠ a) : mdel M a b = M b := if_neg h
theorem mset_mset {M : Mem} {a : Addr} {o u : MO} : mset (mset M a o) a u = mset M a u := by
  funext b
  by_cases h : b = a
  · rw [h, mset_same, mset_same]
  · rw [mset_ne h, mset_ne h, mset_ne h]
theorem mdel_mset {M : Mem} {a : Addr} {o : MO} : mdel (mset M a o) a = mdel M a := by
  funext b
  by_cases h : b = a
  · rw [h, mdel_same, mdel_same]
  · rw [mdel_ne h, mdel_ne h, mset_ne h]
theorem mdel_none {M : Mem} {a : Addr} (h : M a = none) : mdel M a = M := by
  funext b; unfold mdel; split
  · rename_i e; rw [e, h]
  · rfl
theorem mset_id {M : Mem} {a : Addr} {o : MO} (h : M a = some o) : mset M a o = M := by
  funext b; unfold mset; split
  · rename_i e; rw [e, h]
  · rfl
mutual
theorem Dx.mono {K : PySem.W.Frag} {H H' : Hp} (e : Same H H') : ∀ (d : PyData) (v : V), Dx K H v d → Dx K H' v d
  | .none, _, h => by cases h; exact .non
  | .bool b, _, h => by cases h; exact .bl b
  | .int i, _, h => by cases h; exact .int i
  | .str x, _, h => by cases h; exact .str x
  | .list ds, _, h => by
    cases h with
    | lst hs ha => exact .lst (e _ _ hs) (DxL.mono e ds _ ha)
  | .tuple ds, _, h => by
    cases h with
    | tup hs ha => exact .tup (same_t e hs) (DxL.mono e ds _ ha)
  | .dict _, _, h => by cases h with | dic h => exact .dic (e _ _ h)
theorem DxL.mono {K : PySem.W.Frag} {H H' : Hp} (e : Same H H') : ∀ (ds : List PyData) (vs : List V), DxL K H vs ds → DxL K H' vs ds
  | [], _, h => by cases h; exact .nil
  | d :: ds, _, h => by
    cases h with
    | cons h1 h2 => exact .cons (Dx.mono e d _ h1) (DxL.mono e ds _ h2)
end
mutual
/-- no list within -/
def noL : PyData → Bool
  | .list _ => false
  | .tuple ds => noLs ds
  | _ => true
def noLs : List PyData → Bool
  | [] => true
  | d :: ds => noL d && noLs ds
end
mutual
theorem Dx.of {K : PySem.W.Frag} {H : Hp} : ∀ (d : PyData) (v : V), Dp K H v d → noL d = true → Dx K H v d
  | .none, _, h, _ => by cases h; exact .non
  | .bool b, _, h, _ => by cases h; exact .bl b
  | .int i, _, h, _ => by cases h; exact .int i
  | .str x, _, h, _ => by cases h; exact .str x
  | .list ds, _, h, n => by rw [noL] at n; cases n
  | .tuple ds, _, h, n => by
    cases h with
    | tup hs ha => exact .tup hs (DxL.of ds _ ha (by rw [noL] at n; exact n))
  | .dict _, _, h, _ => by cases h
theorem DxL.of {K : PySem.W.Frag} {H : Hp} : ∀ (ds : List PyData) (vs : List V), DpAll K H vs ds → noLs ds = true → DxL K H vs ds
  | [], _, h, _ => by cases h; exact .nil
  | d :: ds, _, h, n => by
    rw [noLs, Bool.and_eq_true] at n
    cases h with
    | cons h1 h2 => exact .cons (Dx.of d _ h1 n.1) (DxL.of ds _ h2 n.2)
end
mutual
theorem Dx.dp {K : PySem.W.Frag} {H : Hp} : ∀ (d : PyData) (v : V), Dx K H v d → d.hasDict = false → Dp K H v d
  | .none, _, h, _ => by cases h; exact .non
  | .bool b, _, h, _ => by cases h; exact .bl b
  | .int i, _, h, _ => by cases h; exact .int i
  | .str x, _, h, _ => by cases h; exact .str x
  | .list ds, _, h, n => by
    cases h with
    | lst hs ha => exact .lst (SqL.of hs) (DxL.dp ds _ ha (by rw [PyData.hasDict] at n; exact n))
  | .tuple ds, _, h, n => by
    cases h with
    | tup hs ha => exact .tup hs (DxL.dp ds _ ha (by rw [PyData.hasDict] at n; exact n))
  | .dict _, _, h, n => by rw [PyData.hasDict] at n; cases n
theorem DxL.dp {K : PySem.W.Frag} {H : Hp} : ∀ (ds : List PyData) (vs : List V), DxL K H vs ds → PyData.hasDictAll ds = false → DpAll K H vs ds
  | [], _, h, _ => by cases h; exact .nil
  | d :: ds, _, h, n => by
    rw [PyData.hasDictAll, Bool.or_eq_false_iff] at n
    cases h with
    | cons h1 h2 => exact .cons (Dx.dp d _ h1 n.1) (DxL.dp ds _ h2 n.2)
end
theorem DxL.len {K : PySem.W.Frag} {H : Hp} : ∀ {vs : List V} {ds : List PyData}, DxL K H vs ds → vs.length = ds.length
  | _, _, .nil => rfl
  | _, _, .cons _ h => by rw [List.length_cons, List.length_cons, DxL.len h]
theorem DxL.got {K : PySem.W.Frag} {H : Hp} : ∀ {vs : List V} {ds : List PyData} {i : Nat} {d : PyData}, DxL K H vs ds → ds[i]? = some d → ∃ v, vs[i]? = some v ∧ Dx K H v d
  | _, _, _, _, .nil, e => by simp at e
  | _, _, 0, _, .cons h _, e => by simp at e; subst e; exact ⟨_, rfl, h⟩
  | _, _, i + 1, d, .cons _ h, e => by
    obtain ⟨v, h1, h2⟩ := DxL.got (i := i) (d := d) h (by simpa using e)
    exact ⟨v, by simpa using h1, h2⟩
theorem DxL.get {K : PySem.W.Frag} {H : Hp} : ∀ {vs : List V} {ds : List PyData} {i : Nat} {v : V}, DxL K H vs ds → vs[i]? = some v → ∃ d, ds[i]? = some d ∧ Dx K H v d
  | _, _, _, _, .nil, e => by simp at e
  | _, _, 0, _, .cons h _, e => by simp at e; subst e; exact ⟨_, rfl, h⟩
  | _, _, i + 1, v, .cons _ h, e => by
    obtain ⟨d, h1, h2⟩ := DxL.get (i := i) (v := v) h (by simpa using e)
    exact ⟨d, by simpa using h1, h2⟩
theorem DxL.app {K : PySem.W.Frag} {H : Hp} : ∀ {vs ws : List V} {ds es : List PyData}, DxL K H vs ds → DxL K H ws es → DxL K H (vs ++ ws) (ds ++ es)
  | _, _, _, _, .nil, h => h
  | _, _, _, _, .cons a b, h => .cons a (DxL.app b h)
theorem DxL.take {K : PySem.W.Frag} {H : Hp} : ∀ {vs : List V} {ds : List PyData} (n : Nat), DxL K H vs ds → DxL K H (vs.take n) (ds.take n)
  | _, _, 0, _ => .nil
  | _, _, _ + 1, .nil => .nil
  | _, _, n + 1, .cons a b => .cons a (DxL.take n b)
theorem DxL.drop {K : PySem.W.Frag} {H : Hp} : ∀ {vs : List V} {ds : List PyData} (n : Nat), DxL K H vs ds → DxL K H (vs.drop n) (ds.drop n)
  | _, _, 0, h => h
  | _, _, _ + 1, .nil => .nil
  | _, _, n + 1, .cons a b => DxL.drop n b
theorem DxL.rev {K : PySem.W.Frag} {H : Hp} : ∀ {vs : List V} {ds : List PyData}, DxL K H vs ds → DxL K H vs.reverse ds.reverse
  | _, _, .nil => .nil
  | _, _, .cons a b => by rw [List.reverse_cons, List.reverse_cons]; exact DxL.app (DxL.rev b) (.cons a .nil)
/-- an error's fields stand in its dict -/
def FX (K : PySem.W.Frag) (F : Hp) (d : Option Addr) (fs : List (Str × PyData)) : Prop := match d with
  | none => fs = []
  | some dd => ∃ fv, F dd = some (.xd fv) ∧ fv.map (·.1) = fs.map (·.1) ∧ DxL K F (fv.map (·.2)) (fs.map (·.2))
theorem FX.mono {K : PySem.W.Frag} {F F' : Hp} (e : Same F F') {d : Option Addr} {fs : List (Str × PyData)} (h : FX K F d fs) : FX K F' d fs := by
  cases d with
  | none => exact h
  | some dd =>
    obtain ⟨fv, h1, h2, h3⟩ := h
    exact ⟨fv, e _ _ h1, h2, DxL.mono e _ _ h3⟩
/-- v is the value x -/
inductive RW (K : PySem.W.Frag) (F : Hp) : V → W → Prop
  | d {v : V} {x : PyData} : Dx K F v x → RW K F v (.d x)
  | r (a : Addr) : RW K F (.ref a) (.r a)
  | o (v : V) : RW K F v (.o v)
  | x {a C : Addr} {dd : Option Addr} {fs : List (Str × PyData)} : FX K F dd fs → RW K F (.ref a) (.x a C dd fs)
inductive RWs (K : PySem.W.Frag) (F : Hp) : List V → List W → Prop
  | nil : RWs K F [] []
  | cons {v : V} {vs : List V} {x : W} {xs : List W} : RW K F v x → RWs K F vs xs → RWs K F (v :: vs) (x :: xs)
section
variable {K : PySem.W.Frag} {F F' H H' : Hp}
theorem RW.mono (e : Same F F') {v : V} {x : W} (h : RW K F v x) : RW K F' v x := by
  cases h with
  | d h => exact .d (Dx.mono e _ _ h)
  | r a => exact .r a
  | o v => exact .o v
  | x h => exact .x (h.mono e)
theorem RWs.mono (e : Same F F') : ∀ {vs : List V} {xs : List W}, RWs K F vs xs → RWs K F' vs xs
  | _, _, .nil => .nil
  | _, _, .cons h t => .cons (h.mono e) (t.mono e)
theorem RWs.len : ∀ {vs : List V} {xs : List W}, RWs K F vs xs → vs.length = xs.length
  | _, _, .nil => rfl
  | _, _, .cons _ t => by rw [List.length_cons, List.length_cons, t.len]
theorem RWs.got : ∀ {vs : List V} {xs : List W} {i : Nat} {x : W}, RWs K F vs xs → xs[i]? = some x → ∃ v, vs[i]? = some v ∧ RW K F v x
  | _, _, _, _, .nil, e => by simp at e
  | _, _, 0, _, .cons h _, e => by simp at e; subst e; exact ⟨_, rfl, h⟩
  | _, _, i + 1, x, .cons _ h, e => by
    obtain ⟨v, h1, h2⟩ := RWs.got (i := i) (x := x) h (by simpa using e)
    exact ⟨v, by simpa using h1, h2⟩
theorem RWs.get : ∀ {vs : List V} {xs : List W} {i : Nat} {v : V}, RWs K F vs xs → vs[i]? = some v → ∃ x, xs[i]? = some x ∧ RW K F v x
  | _, _, _, _, .nil, e => by simp at e
  | _, _, 0, _, .cons h _, e => by simp at e; subst e; exact ⟨_, rfl, h⟩
  | _, _, i + 1, v, .cons _ h, e => by
    obtain ⟨x, h1, h2⟩ := RWs.get (i := i) (v := v) h (by simpa using e)
    exact ⟨x, by simpa using h1, h2⟩
theorem RWs.app : ∀ {vs ws : List V} {xs ys : List W}, RWs K F vs xs → RWs K F ws ys → RWs K F (vs ++ ws) (xs ++ ys)
  | _, _, _, _, .nil, h => h
  | _, _, _, _, .cons a b, h => .cons a (RWs.app b h)
theorem RWs.take : ∀ {vs : List V} {xs : List W} (n : Nat), RWs K F vs xs → RWs K F (vs.take n) (xs.take n)
  | _, _, 0, _ => .nil
  | _, _, _ + 1, .nil => .nil
  | _, _, n + 1, .cons a b => .cons a (RWs.take n b)
theorem RWs.drop : ∀ {vs : List V} {xs : List W} (n : Nat), RWs K F vs xs → RWs K F (vs.drop n) (xs.drop n)
  | _, _, 0, h => h
  | _, _, _ + 1, .nil => .nil
  | _, _, n + 1, .cons a b => RWs.drop n b
theorem RWs.rev : ∀ {vs : List V} {xs : List W}, RWs K F vs xs → RWs K F vs.reverse xs.reverse
  | _, _, .nil => .nil
  | _, _, .cons a b => by rw [List.reverse_cons, List.reverse_cons]; exact RWs.app (RWs.rev b) (.cons a .nil)
theorem RWs.set {v : V} {x : W} (h : RW K F v x) : ∀ {vs : List V} {xs : List W} (n : Nat), RWs K F vs xs → RWs K F (vs.set n v) (xs.set n x)
  | _, _, _, .nil => .nil
  | _, _, 0, .cons _ t => .cons h t
  | _, _, n + 1, .cons a t => .cons a (RWs.set h n t)
theorem RWs.dat : ∀ {vs : List V} {ds : List PyData}, DxL K F vs ds → RWs K F vs (ds.map W.d)
  | _, _, .nil => .nil
  | _, _, .cons a b => .cons (.d a) (RWs.dat b)
theorem RWs.undat : ∀ {ds : List PyData} {vs : List V}, RWs K F vs (ds.map W.d) → DxL K F vs ds
  | [], _, h => by cases h; exact .nil
  | d :: ds, _, h => by
    cases h with
    | cons a b =>
      cases a with
      | d a => exact .cons a (RWs.undat b)
end
/-- the law's own source of numbers: its cells, three numbers -/
def SrcV (K : PySem.W.Frag) (F : Hp) (b : Bool) (vs : List V) : Prop := ∃ (c : Addr) (cs : List Int) (i p z : Int), vs = [.ref c, .int i, .int p, .int z] ∧ SqL K F c (cs.map V.int) ∧ cs.length ≤ 63 ∧ (b = true → 0 < cs.length) ∧ 0 ≤ i ∧ 0 ≤ p ∧ 0 ≤ z ∧ z < (if b = true then 2147483647 else 2305843009213693951)
theorem SrcV.mono {K : PySem.W.Frag} {F F' : Hp} (e : Same F F') {b : Bool} {vs : List V} (h : SrcV K F b vs) : SrcV K F' b vs := by
  obtain ⟨c, cs, i, p, z, h1, h2, h3⟩ := h
  exact ⟨c, cs, i, p, z, h1, same_l e h2, h3⟩
def PrR {κ : Type} (K : PySem.W.Frag) (F : Hp) (kv : List (κ × V)) (kw : List (κ × W)) : Prop := kv.map (·.1) = kw.map (·.1) ∧ RWs K F (kv.map (·.2)) (kw.map (·.2))
theorem PrR.mono {κ : Type} {K : PySem.W.Frag} {F F' : Hp} (e : Same F F') {kv : List (κ × V)} {kw : List (κ × W)} (h : PrR K F kv kw) : PrR K F' kv kw := ⟨h.1, h.2.mono e⟩
mutual
theorem KeyV.mono {K : PySem.W.Frag} {F F' : Hp} (e : Same F F') : ∀ (k : NestedKey) (v : V), KeyV K F v k → KeyV K F' v k
  | .num i, _, h => by cases h; exact .int i
  | .tup ks, _, h => by
    cases h with
    | tup hs hr => exact .tup (same_t e hs) (KeyVs.mono e ks _ hr)
  | .none, _, h => by cases h
  | .text _, _, h => by cases h
theorem KeyVs.mono {K : PySem.W.Frag} {F F' : Hp} (e : Same F F') : ∀ (ks : List NestedKey) (vs : List V), KeyVs K F vs ks → KeyVs K F' vs ks
  | [], _, h => by cases h; exact .nil
  | k :: ks, _, h => by
    cases h with
    | cons a b => exact .cons (KeyV.mono e k _ a) (KeyVs.mono e ks _ b)
end
theorem KeysU.mono {K : PySem.W.Frag} {F F' : Hp} (e : Same F F') {a : Addr} {xs : List DU1} (h : KeysU K F a xs) : KeysU K F' a xs :=
  ⟨h.sm, h.sz, h.nd, fun x hx => ⟨KeyV.mono e _ _ (h.ks x hx).1, (h.ks x hx).2⟩⟩
mutual
theorem keyV_of {K : PySem.W.Frag} {F : Hp} : ∀ (d : PyData) (v : V), Dx K F v d → keyOk d = true → KeyV K F v (keyN d)
  | .int i, _, h, _ => by cases h; rw [keyN]; exact .int i
  | .tuple ds, _, h, k => by
    cases h with
    | tup hs hr => rw [keyN]; exact .tup hs (keyVs_of ds _ hr (by rw [keyOk] at k; exact k))
  | .none, _, _, h => by simp [keyOk] at h
  | .bool _, _, _, h => by simp [keyOk] at h
  | .str _, _, _, h => by simp [keyOk] at h
  | .list _, _, _, h => by simp [keyOk] at h
  | .dict _, _, _, h => by simp [keyOk] at h
theorem keyVs_of {K : PySem.W.Frag} {F : Hp} : ∀ (ds : List PyData) (vs : List V), DxL K F vs ds → keyOks ds = true → KeyVs K F vs (keyNs ds)
  | [], _, h, _ => by cases h; rw [keyNs]; exact .nil
  | d :: ds, _, h, k => by
    cases h with
    | cons a b =>
      rw [keyOks, Bool.and_eq_true] at k
      rw [keyNs]
      exact .cons (keyV_of d _ a k.1) (keyVs_of ds _ b k.2)
end
/-- a table of a def's code: each code object in it is data, of the name q -/
def TabO (F : Hp) (u : HO) (q : Str) : Prop := ∃ ps : Array Value, u = .tbl ps ∧ TriplesOk ps.toList ∧
  ∀ (z : Pos) (x : Value), codeAmong z ps.toList = some x → ∃ b, x = .ref b ∧ F b = some (LamX.CodeO b q)
theorem TabO.mono {F F' : Hp} (e : Same F F') {u : HO} {q : Str} (h : TabO F u q) : TabO F' u q := by
  obtain ⟨ps, h1, h2, h3⟩ := h
  refine ⟨ps, h1, h2, fun z x hx => ?_⟩
  obtain ⟨b, e1, e2⟩ := h3 z x hx
  exact ⟨b, e1, e _ _ e2⟩
/-- what stands there is the object o -/
def OR (K : PySem.W.Frag) (F : Hp) (a : Addr) (u : HO) : MO → Prop
  | .lst ws => ∃ vs, u = .lst vs ∧ RWs K F vs ws
  | .src b => ∃ vs, u = .lst vs ∧ SrcV K F b vs
  | .dK kw => ∃ kv, u = .dK kv ∧ PrR K F kv kw
  | .dT kw => ∃ xs : List DU1, u = DU a xs ∧ KeysU K F a xs ∧ xs.map (·.1) = kw.map (fun x => keyN x.1) ∧ (∀ x ∈ kw, keyOk x.1 = true) ∧ RWs K F (xs.map (·.2.2)) (kw.map (·.2))
  | .ins C dx fw => ∃ fv, u = .ins C dx fv ∧ PrR K F fv fw
  | .exc C dd => u = CgO (.ref C) dd a
  | .lkK ob kv kw => u = .frz ob (.dK kv) ∧ PrR K F kv kw
  | .tab q => TabO F u q
  | .lkT ob xs kw => u = .frz ob (DU a xs) ∧ KeysU K F a xs ∧ xs.map (·.1) = kw.map (fun x => keyN x.1) ∧ (∀ x ∈ kw, keyOk x.1 = true) ∧ RWs K F (xs.map (·.2.2)) (kw.map (·.2))
  | .lam q pa bo sc => ∃ (pm : Value) (b : Addr) (ctv : Value), u = .frz (PySem.W.kla_obj "<lambda>" q pa bo sc [] pm b ctv) (.ext fun _ => True) ∧ F b = some (LamX.CodeO b q)
theorem OR.mono {K : PySem.W.Frag} {F F' : Hp} (e : Same F F') {a : Addr} {u : HO} {o : MO} (h : OR K F a u o) : OR K F' a u o := by
  cases o with
  | lst ws =>
    obtain ⟨vs, h1, h2⟩ := h
    exact ⟨vs, h1, h2.mono e⟩
  | src b =>
    obtain ⟨vs, h1, h2⟩ := h
    exact ⟨vs, h1, h2.mono e⟩
  | dK kw =>
    obtain ⟨vs, h1, h2⟩ := h
    exact ⟨vs, h1, h2.mono e⟩
  | dT kw =>
    obtain ⟨vs, h1, h2, h3, h4, h5⟩ := h
    exact ⟨vs, h1, h2.mono e, h3, h4, h5.mono e⟩
  | ins C dx fw =>
    obtain ⟨vs, h1, h2⟩ := h
    exact ⟨vs, h1, h2.mono e⟩
  | exc C dd => exact h
  | lkK ob kv kw => exact ⟨h.1, h.2.mono e⟩
  | tab q => exact TabO.mono e h
  | lkT ob xs kw =>
    obtain ⟨h1, h2, h3, h4, h5⟩ := h
    exact ⟨h1, h2.mono e, h3, h4, h5.mono e⟩
  | lam q pa bo sc =>
    obtain ⟨pm, b, ctv, h1, h2⟩ := h
    exact ⟨pm, b, ctv, h1, e _ _ h2⟩
/-- F: what is data for good; M: what may change; H: what stands there -/
structure Rl (K : PySem.W.Frag) (F H : Hp) (M : Mem) : Prop where
  fh : Same F H
  mf : ∀ a o, M a = some o → F a = none
  at_ : ∀ a o, M a = some o → ∃ u, H a = some u ∧ OR K F a u o
/-- from one state to a later one: what is neither data nor told by M stays as it is -/
structure Gr (F H : Hp) (M : Mem) (F' H' : Hp) (M' : Mem) : Prop where
  ff : Same F F'
  un : ∀ b u, H b = some u → M b = none → H' b = some u ∧ M' b = none
  nf : ∀ b u, H b = some u → M b = none → F b = none → F' b = none
theorem Gr.refl {F H : Hp} {M : Mem} : Gr F H M F H M := ⟨Same.refl _, fun _ _ h n => ⟨h, n⟩, fun _ _ _ _ h => h⟩
theorem Gr.trans {F H F1 H1 F2 H2 : Hp} {M M1 M2 : Mem} (a : Gr F H M F1 H1 M1) (b : Gr F1 H1 M1 F2 H2 M2) : Gr F H M F2 H2 M2 :=
  ⟨a.ff.trans b.ff, fun c u h n => b.un c u (a.un c u h n).1 (a.un c u h n).2, fun c u h n f => b.nf c u (a.un c u h n).1 (a.un c u h n).2 (a.nf c u h n f)⟩
section
variable {K : PySem.W.Frag} {F H : Hp} {M : Mem}
theorem Rl.there (h : Rl K F H M) {a : Addr} {o : MO} (e : M a = some o) : ∃ u, H a = some u := by
  obtain ⟨u, h1, _⟩ := h.at_ a o e
  exact ⟨u, h1⟩
theorem Rl.new (h : Rl K F H M) {p : Addr} (e : H p = none) : M p = none := by
  cases c : M p with
  | none => rfl
  | some o =>
    obtain ⟨u, h1, _⟩ := h.at_ p o c
    rw [e] at h1
    cases h1
theorem Rl.step (h : Rl K F H M) {F' H' : Hp} (ff : Same F F') (fh : Same F' H') (hm : ∀ a o, M a = some o → H' a = H a ∧ F' a = none) : Rl K F' H' M :=
  ⟨fh, fun a o e => (hm a o e).2, fun a o e => by
    obtain ⟨u, h1, h2⟩ := h.at_ a o e
    exact ⟨u, by rw [(hm a o e).1]; exact h1, h2.mono ff⟩⟩
/-- the heap grows by what nobody tells of -/
theorem Rl.same (h : Rl K F H M) {H' : Hp} (e : Same H H') : Rl K F H' M ∧ Gr F H M F H' M := by
  refine ⟨h.step (Same.refl _) (h.fh.trans e) fun a o c => ?_, Same.refl _, fun b u c n => ⟨e b u c, n⟩, fun _ _ _ _ f => f⟩
  obtain ⟨u, hu⟩ := h.there c
  exact ⟨by rw [hu]; exact e a u hu, h.mf a o c⟩
/-- a new thing that stays as it is -/
theorem Rl.fresh (h : Rl K F H M) {p : Addr} {u : HO} (e : H p = none) : Rl K (upd F p u) (upd H p u) M ∧ Gr F H M (upd F p u) (upd H p u) M := by
  have g := Gw.new (o := u) h.fh e
  refine ⟨h.step g.ff g.fh fun a o c => ?_, g.ff, fun b v c n => ⟨g.hh b v c, n⟩, fun b v c n f => ?_⟩
  · obtain ⟨v, hv⟩ := h.there c
    have n : a ≠ p := ne_of_none hv e
    exact ⟨upd_ne n, by rw [upd_ne n]; exact h.mf a o c⟩
  · rw [upd_ne (ne_of_none c e)]
    exact f
/-- a new object that may change -/
theorem Rl.born (h : Rl K F H M) {p : Addr} {u : HO} {o : MO} (e : H p = none) (r : OR K F p u o) : Rl K F (upd H p u) (mset M p o) ∧ Gr F H M F (upd H p u) (mset M p o) := by
  have fp := h.fh.free e
  refine ⟨⟨same_mut h.fh fp, fun a o' c => ?_, fun a o' c => ?_⟩, Same.refl _, fun b v c n => ?_, fun _ _ _ _ f => f⟩
  · by_cases z : a = p
    · rw [z]; exact fp
    · rw [mset_ne z] at c; exact h.mf a o' c
  · by_cases z : a = p
    · subst z
      rw [mset_same] at c
      cases c
      exact ⟨u, upd_same, r⟩
    · rw [mset_ne z] at c
      rw [upd_ne z]
      exact h.at_ a o' c
  · have z : b ≠ p := ne_of_none c e
    rw [upd_ne z, mset_ne z]
    exact ⟨c, n⟩
/-- an object changes -/
theorem Rl.put (h : Rl K F H M) {p : Addr} {u : HO} {o o' : MO} (e : M p = some o') (r : OR K F p u o) : Rl K F (upd H p u) (mset M p o) ∧ Gr F H M F (upd H p u) (mset M p o) := by
  have fp := h.mf p o' e
  refine ⟨⟨same_mut h.fh fp, fun a o' c => ?_, fun a o' c => ?_⟩, Same.refl _, fun b v c n => ?_, fun _ _ _ _ f => f⟩
  · by_cases z : a = p
    · rw [z]; exact fp
    · rw [mset_ne z] at c; exact h.mf a o' c
  · by_cases z : a = p
    · subst z
      rw [mset_same] at c
      cases c
      exact ⟨u, upd_same, r⟩
    · rw [mset_ne z] at c
      rw [upd_ne z]
      exact h.at_ a o' c
  · have z : b ≠ p := fun z => by rw [z, e] at n; cases n
    rw [upd_ne z, mset_ne z]
    exact ⟨c, n⟩
/-- a list of data is data from now on -/
theorem Rl.freeze (h : Rl K F H M) {p : Addr} {ds : List PyData} (e : M p = some (.lst (ds.map W.d))) : ∃ F', Rl K F' H (mdel M p) ∧ Gr F H M F' H (mdel M p) ∧ Dx K F' (.ref p) (.list ds) := by
  obtain ⟨_, h1, vs, rfl, h2⟩ := h.at_ p _ e
  have fp := h.mf p _ e
  have ff : Same F (upd F p (.lst vs)) := same_new fp
  have r : DxL K F vs ds := RWs.undat h2
  refine ⟨upd F p (.lst vs), ⟨fun b u q => ?_, fun a o c => ?_, fun a o c => ?_⟩, ⟨ff, fun b v c n => ⟨c, ?_⟩, fun b v c n f => ?_⟩, .lst upd_same (DxL.mono ff _ _ r)⟩
  · by_cases z : b = p
    · subst z
      rw [upd_same] at q
      rw [h1]
      exact q
    · rw [upd_ne z] at q
      exact h.fh b u q
  · have z : a ≠ p := fun z => by rw [z, mdel_same] at c; cases c
    rw [mdel_ne z] at c
    rw [upd_ne z]
    exact h.mf a o c
  · have z : a ≠ p := fun z => by rw [z, mdel_same] at c; cases c
    rw [mdel_ne z] at c
    obtain ⟨u, g1, g2⟩ := h.at_ a o c
    exact ⟨u, g1, g2.mono ff⟩
  · by_cases z : b = p
    · rw [z]; exact mdel_same
    · rw [mdel_ne z]; exact n
  · have z : b ≠ p := fun z => by rw [z, e] at n; cases n
    rw [upd_ne z]
    exact f
/-- an object that is not looked at any more -/
theorem Rl.drop (h : Rl K F H M) (p : Addr) : Rl K F H (mdel M p) ∧ Gr F H M F H (mdel M p) := by
  refine ⟨⟨h.fh, fun a o c => ?_, fun a o c => ?_⟩, Same.refl _, fun b v c n => ⟨c, ?_⟩, fun b v c n f => f⟩
  · have z : a ≠ p := fun z => by rw [z, mdel_same] at c; cases c
    rw [mdel_ne z] at c
    exact h.mf a o c
  · have z : a ≠ p := fun z => by rw [z, mdel_same] at c; cases c
    rw [mdel_ne z] at c
    exact h.at_ a o c
  · by_cases z : b = p
    · rw [z]; exact mdel_same
    · rw [mdel_ne z]; exact n
/-- the heap of a thing nobody tells of changes (an object made in between, not told by M, not data) -/
theorem Rl.hid (h : Rl K F H M) {p : Addr} {u : HO} (hf : F p = none) (hm : M p = none) : Rl K F (upd H p u) M :=
  h.step (Same.refl _) (same_mut h.fh hf) fun a o c => ⟨upd_ne (fun z => by rw [z, hm] at c; cases c), h.mf a o c⟩
end
/-! ### slots -/
@[reducible] def slot : EnvD → Nat → Option W
  | [], _ => none
  | x :: _, 0 => x
  | _ :: r, n + 1 => slot r n
@[reducible] def put : EnvD → Nat → Option W → EnvD
  | [], _, _ => []
  | _ :: r, 0, w => w :: r
  | x :: r, n + 1, w => x :: put r n w
theorem put_len : ∀ (ρ : EnvD) (i : Nat) (w : Option W), (put ρ i w).length = ρ.length
  | [], _, _ => rfl
  | _ :: r, 0, _ => rfl
  | _ :: r, n + 1, w => congrArg (· + 1) (put_len r n w)
theorem slot_put : ∀ {ρ : EnvD} {i : Nat} {w : Option W} {x : W}, slot (put ρ i w) i = some x → w = some x ∧ i < ρ.length
  | [], _, _, _, h => by cases h
  | _ :: r, 0, _, _, h => ⟨h, Nat.succ_pos _⟩
  | _ :: r, n + 1, w, x, h => by
    obtain ⟨h1, h2⟩ := slot_put (ρ := r) (i := n) h
    exact ⟨h1, Nat.succ_lt_succ h2⟩
theorem slot_put_ne : ∀ {ρ : EnvD} {i j : Nat} {w : Option W}, j ≠ i → slot (put ρ i w) j = slot ρ j
  | [], _, _, _, _ => rfl
  | _ :: r, 0, 0, _, h => absurd rfl h
  | _ :: r, 0, j + 1, _, _ => rfl
  | _ :: r, n + 1, 0, w, h => rfl
  | _ :: r, n + 1, j + 1, w, h => slot_put_ne (ρ := r) fun z => h (by rw [z])
structure RelS (K : PySem.W.Frag) (F : Hp) (σ : L2.St) (ρ : EnvD) : Prop where
  len : σ.length = ρ.length
  at_ : ∀ i x, slot ρ i = some x → ∃ v, σ[i]? = some (some v) ∧ RW K F v x
section
variable {K : PySem.W.Frag} {F F' : Hp} {σ : L2.St} {ρ : EnvD}
theorem RelS.mono (e : Same F F') (h : RelS K F σ ρ) : RelS K F' σ ρ := ⟨h.len, fun i x c => by
  obtain ⟨v, h1, h2⟩ := h.at_ i x c
  exact ⟨v, h1, h2.mono e⟩⟩
theorem RelS.set (h : RelS K F σ ρ) {v : V} {x : W} (r : RW K F v x) (i : Nat) : RelS K F (σ.set i (some v)) (put ρ i (some x)) := by
  refine ⟨by rw [List.length_set, put_len]; exact h.len, fun j y c => ?_⟩
  by_cases z : j = i
  · subst z
    obtain ⟨h1, h2⟩ := slot_put c
    cases h1
    exact ⟨v, by rw [List.getElem?_set_self (by rw [h.len]; exact h2)], r⟩
  · rw [slot_put_ne z] at c
    rw [List.getElem?_set_ne (fun q => z q.symm)]
    exact h.at_ j y c
theorem RelS.del (h : RelS K F σ ρ) (i : Nat) (w : Option V) : RelS K F (σ.set i w) (put ρ i none) := by
  refine ⟨by rw [List.length_set, put_len]; exact h.len, fun j y c => ?_⟩
  by_cases z : j = i
  · subst z
    obtain ⟨h1, h2⟩ := slot_put c
    cases h1
  · rw [slot_put_ne z] at c
    rw [List.getElem?_set_ne (fun q => z q.symm)]
    exact h.at_ j y c
end
end Tl
set_option Elab.async false
set_option linter.all false
set_option maxRecDepth 100000
set_option maxHeartbeats 4000000
/-! Readings at the second layer, and that they hold. -/
namespace Tl
open PySem L2
abbrev TDE := EnvD → Mem → (W → Mem → Prop) → Prop
abbrev TDA := EnvD → Mem → (List W → Mem → Prop) → Prop
abbrev TDT := EnvD → Mem → (Bool → Mem → Prop) → Prop
/-- a thing that is raised: its class, its fields -/
structure Ex where
  cls : Value
  fs : List (Str × PyData)
abbrev REx := Ex → EnvD → Mem → Prop
def XRel (K : PySem.W.Frag) (F : Hp) (cls : Value) (d : Option Addr) (x : Ex) : Prop := cls = x.cls ∧ FX K F d x.fs
def XOk (K : PySem.W.Frag) (F H : Hp) (M : Mem) (Wx : WX) (RE : REx) : Prop :=
  ∀ F' H' M' σ ρ cls d x, Gr F H M F' H' M' → Rl K F' H' M' → RelS K F' σ ρ → XRel K F' cls d x → RE x ρ M' → Wx cls d σ H'
theorem XOk.mono {K : PySem.W.Frag} {F H F' H' : Hp} {M M' : Mem} {Wx : WX} {RE : REx} (x : XOk K F H M Wx RE) (g : Gr F H M F' H' M') : XOk K F' H' M' Wx RE :=
  fun F2 H2 M2 σ ρ cls d e g2 => x F2 H2 M2 σ ρ cls d e (g.trans g2)
/-- what is wanted of a value, there as here -/
abbrev Kt (K : PySem.W.Frag) (F H : Hp) (M : Mem) (R : W → Mem → Prop) (Q : VK) : Prop := ∀ v H' F' M' x, Rl K F' H' M' → Gr F H M F' H' M' → RW K F' v x → R x M' → Q v H'
def SE (K : PySem.W.Frag) (Wx : WX) (RE : REx) (t : TE) (T : TDE) : Prop :=
  ∀ F H M σ ρ R Q, Rl K F H M → XOk K F H M Wx RE → RelS K F σ ρ → T ρ M R → Kt K F H M R Q → t σ H Q
def ST (K : PySem.W.Frag) (Wx : WX) (RE : REx) (t : TT) (T : TDT) : Prop :=
  ∀ F H M σ ρ (R : Bool → Mem → Prop) (Q : Bool → Hp → Prop), Rl K F H M → XOk K F H M Wx RE → RelS K F σ ρ → T ρ M R → (∀ b H' F' M', Rl K F' H' M' → Gr F H M F' H' M' → R b M' → Q b H') → t σ H Q
abbrev F2 := W → W → Mem → (W → Mem → Prop) → Prop
abbrev FL := List W → Mem → (W → Mem → Prop) → Prop
def SO (K : PySem.W.Frag) (r : R2) (f : F2) : Prop := ∀ F H M v u x y R Q, Rl K F H M → RW K F v x → RW K F u y → f x y M R → Kt K F H M R Q → r v u H Q
def SU (K : PySem.W.Frag) (r : V → Hp → VK → Prop) (f : W → Mem → (W → Mem → Prop) → Prop) : Prop := ∀ F H M v x R Q, Rl K F H M → RW K F v x → f x M R → Kt K F H M R Q → r v H Q
def SC (K : PySem.W.Frag) (r : List V → Hp → VK → Prop) (f : FL) : Prop := ∀ F H M vs xs R Q, Rl K F H M → RWs K F vs xs → f xs M R → Kt K F H M R Q → r vs H Q
inductive gO {α : Type} (o : Option α) (k : α → Prop) : Prop where
  | mk (a : α) (h : o = some a) (q : k a) : gO o k
theorem gO_of {α : Type} {o : Option α} {k : α → Prop} (h : gO o k) : ∃ a, o = some a ∧ k a := by
  cases h with
  | mk a h q => exact ⟨a, h, q⟩
theorem gO_i {α : Type} {o : Option α} {a : α} {k : α → Prop} (h : o = some a) (q : k a) : gO o k := .mk a h q
/-! ### what a value is -/
@[reducible] def gI (x : W) (k : Int → Prop) : Prop := match x with | .d (.int a) => k a | _ => False
@[reducible] def gS (x : W) (k : Str → Prop) : Prop := match x with | .d (.str a) => k a | _ => False
@[reducible] def gB (x : W) (k : Bool → Prop) : Prop := match x with | .d (.bool a) => k a | _ => False
@[reducible] def gT (x : W) (k : List PyData → Prop) : Prop := match x with | .d (.tuple a) => k a | _ => False
@[reducible] def gD (x : W) (k : PyData → Prop) : Prop := match x with | .d a => k a | _ => False
@[reducible] def gR (x : W) (k : Addr → Prop) : Prop := match x with | .r a => k a | _ => False
theorem gI_of {x : W} {k : Int → Prop} (h : gI x k) : ∃ a, x = .d (.int a) ∧ k a := by
  unfold gI at h
  split at h
  · exact ⟨_, rfl, h⟩
  · exact h.elim
theorem gS_of {x : W} {k : Str → Prop} (h : gS x k) : ∃ a, x = .d (.str a) ∧ k a := by
  unfold gS at h
  split at h
  · exact ⟨_, rfl, h⟩
  · exact h.elim
theorem gB_of {x : W} {k : Bool → Prop} (h : gB x k) : ∃ a, x = .d (.bool a) ∧ k a := by
  unfold gB at h
  split at h
  · exact ⟨_, rfl, h⟩
  · exact h.elim
theorem gT_of {x : W} {k : List PyData → Prop} (h : gT x k) : ∃ a, x = .d (.tuple a) ∧ k a := by
  unfold gT at h
  split at h
  · exact ⟨_, rfl, h⟩
  · exact h.elim
theorem gD_of {x : W} {k : PyData → Prop} (h : gD x k) : ∃ a, x = .d a ∧ k a := by
  unfold gD at h
  split at h
  · exact ⟨_, rfl, h⟩
  · exact h.elim
theorem gR_of {x : W} {k : Addr → Prop} (h : gR x k) : ∃ a, x = .r a ∧ k a := by
  unfold gR at h
  split at h
  · exact ⟨_, rfl, h⟩
  · exact h.elim
section
variable {K : PySem.W.Frag} {F H : Hp} {M : Mem} {v : V}
theorem RW.int {a : Int} (h : RW K F v (.d (.int a))) : v = .int a := by cases h with | d h => cases h; rfl
theorem RW.str {a : Str} (h : RW K F v (.d (.str a))) : v = .str a := by cases h with | d h => cases h; rfl
theorem RW.bl {a : Bool} (h : RW K F v (.d (.bool a))) : v = .bl a := by cases h with | d h => cases h; rfl
theorem RW.non (h : RW K F v (.d .none)) : v = .non := by cases h with | d h => cases h; rfl
theorem RW.dx {x : PyData} (h : RW K F v (.d x)) : Dx K F v x := by cases h with | d h => exact h
theorem RW.ref {a : Addr} (h : RW K F v (.r a)) : v = .ref a := by cases h; rfl
theorem RW.tup {ds : List PyData} (h : RW K F v (.d (.tuple ds))) : ∃ a xs, v = .ref a ∧ SqT K F a xs ∧ DxL K F xs ds := by
  cases h with
  | d h => cases h with | tup h1 h2 => exact ⟨_, _, rfl, h1, h2⟩
theorem RW.lst {ds : List PyData} (h : RW K F v (.d (.list ds))) : ∃ a xs, v = .ref a ∧ F a = some (.lst xs) ∧ DxL K F xs ds := by
  cases h with
  | d h => cases h with | lst h1 h2 => exact ⟨_, _, rfl, h1, h2⟩
theorem Rl.lst (h : Rl K F H M) {a : Addr} {ws : List W} (e : M a = some (.lst ws)) : ∃ vs, H a = some (.lst vs) ∧ RWs K F vs ws := by
  obtain ⟨_, h1, vs, rfl, h2⟩ := h.at_ a _ e
  exact ⟨vs, h1, h2⟩
/-- a new tuple of data -/
theorem Rl.tup (h : Rl K F H M) {p : Addr} {xs : List V} {ds : List PyData} (e : H p = none) (r : DxL K F xs ds) : Rl K (upd F p (.tup xs)) (upd H p (.tup xs)) M ∧ Gr F H M (upd F p (.tup xs)) (upd H p (.tup xs)) M ∧ RW K (upd F p (.tup xs)) (.ref p) (.d (.tuple ds)) := by
  obtain ⟨h1, h2⟩ := h.fresh (u := .tup xs) e
  exact ⟨h1, h2, .d (.tup (.inl (.inl upd_same)) (DxL.mono h2.ff _ _ r))⟩
theorem Rl.list (h : Rl K F H M) {p : Addr} {xs : List V} {ds : List PyData} (e : H p = none) (r : DxL K F xs ds) : Rl K (upd F p (.lst xs)) (upd H p (.lst xs)) M ∧ Gr F H M (upd F p (.lst xs)) (upd H p (.lst xs)) M ∧ RW K (upd F p (.lst xs)) (.ref p) (.d (.list ds)) := by
  obtain ⟨h1, h2⟩ := h.fresh (u := .lst xs) e
  exact ⟨h1, h2, .d (.lst upd_same (DxL.mono h2.ff _ _ r))⟩
end
section
variable {K : PySem.W.Frag} {Wx : WX} {RE : REx}
/-! ### names, constants -/
@[reducible] def nmT (i : Nat) : TDE := fun ρ M R => match slot ρ i with | some x => R x M | none => False
@[reducible] def cT (x : W) : TDE := fun _ M R => R x M
theorem se_nm {i : Nat} : SE K Wx RE (tVar i) (nmT i) := fun F H M σ ρ R Q hr hx hs ht k => by
  unfold nmT at ht
  cases c : slot ρ i with
  | none => rw [c] at ht; exact ht.elim
  | some x =>
    rw [c] at ht
    obtain ⟨v, h1, h2⟩ := hs.at_ i x c
    exact ⟨v, h1, k v H F M x hr .refl h2 ht⟩
theorem se_int {i : Int} : SE K Wx RE (tC (.int i)) (cT (.d (.int i))) := fun F H M σ ρ R Q hr hx hs ht k => k _ H F M _ hr .refl (.d (.int i)) ht
theorem se_str {i : Str} : SE K Wx RE (tC (.str i)) (cT (.d (.str i))) := fun F H M σ ρ R Q hr hx hs ht k => k _ H F M _ hr .refl (.d (.str i)) ht
theorem se_bl {i : Bool} : SE K Wx RE (tC (.bl i)) (cT (.d (.bool i))) := fun F H M σ ρ R Q hr hx hs ht k => k _ H F M _ hr .refl (.d (.bl i)) ht
theorem se_non : SE K Wx RE (tC .non) (cT (.d .none)) := fun F H M σ ρ R Q hr hx hs ht k => k _ H F M _ hr .refl (.d .non) ht
theorem se_o {v : V} : SE K Wx RE (tC v) (cT (.o v)) := fun F H M σ ρ R Q hr hx hs ht k => k _ H F M _ hr .refl (.o v) ht
/-! ### operators -/
@[reducible] def opT (f : F2) (Ta Tb : TDE) : TDE := fun ρ M R => Ta ρ M fun x M1 => Tb ρ M1 fun y M2 => f x y M2 R
@[reducible] def unT (f : W → Mem → (W → Mem → Prop) → Prop) (Ta : TDE) : TDE := fun ρ M R => Ta ρ M fun x M1 => f x M1 R
theorem se_op {r : R2} {f : F2} {ta tb : TE} {Ta Tb : TDE} (ho : SO K r f) (ha : SE K Wx RE ta Ta) (hb : SE K Wx RE tb Tb) : SE K Wx RE (tOp r ta tb) (opT f Ta Tb) := fun F H M σ ρ R Q hr hx hs ht k =>
  ha F H M σ ρ _ _ hr hx hs ht fun v H1 F1 M1 x r1 g1 rx ht1 => hb F1 H1 M1 σ ρ _ _ r1 (hx.mono g1) (hs.mono g1.ff) ht1 fun u H2 F2 M2 y r2 g2 ry ht2 =>
    ho F2 H2 M2 v u x y R Q r2 (rx.mono g2.ff) ry ht2 fun w H3 F3 M3 z r3 g3 rz hz => k w H3 F3 M3 z r3 ((g1.trans g2).trans g3) rz hz
theorem se_un {r : V → Hp → VK → Prop} {f : W → Mem → (W → Mem → Prop) → Prop} {ta : TE} {Ta : TDE} (ho : SU K r f) (ha : SE K Wx RE ta Ta) : SE K Wx RE (tUn r ta) (unT f Ta) := fun F H M σ ρ R Q hr hx hs ht k =>
  ha F H M σ ρ _ _ hr hx hs ht fun v H1 F1 M1 x r1 g1 rx ht1 => ho F1 H1 M1 v x R Q r1 rx ht1 fun w H3 F3 M3 z r3 g3 rz hz => k w H3 F3 M3 z r3 (g1.trans g3) rz hz
@[reducible] def fI (g : Int → Int → PyData) : F2 := fun x y M R => gI x fun a => gI y fun b => R (.d (g a b)) M
@[reducible] def fIc (C : Int → Int → Prop) (g : Int → Int → PyData) : F2 := fun x y M R => gI x fun a => gI y fun b => C a b ∧ R (.d (g a b)) M
theorem so_I {gv : Int → Int → V} {g : Int → Int → PyData} (h : ∀ F i j, Dx K F (gv i j) (g i j)) : SO K (rI0 gv) (fI g) := fun F H M v u x y R Q hr rx ry hf k => by
  obtain ⟨a, rfl, hf1⟩ := gI_of hf
  obtain ⟨b, rfl, hf2⟩ := gI_of hf1
  exact ⟨a, b, rx.int, ry.int, k _ H F M _ hr .refl (.d (h F a b)) hf2⟩
theorem so_Ic {C : Int → Int → Prop} {gv : Int → Int → V} {g : Int → Int → PyData} (h : ∀ F i j, Dx K F (gv i j) (g i j)) : SO K (rI C gv) (fIc C g) := fun F H M v u x y R Q hr rx ry hf k => by
  obtain ⟨a, rfl, hf1⟩ := gI_of hf
  obtain ⟨b, rfl, hc, hf2⟩ := gI_of hf1
  exact ⟨a, b, rx.int, ry.int, hc, k _ H F M _ hr .refl (.d (h F a b)) hf2⟩
@[reducible] def fAdd : F2 := fI fun a b => .int (a + b)
@[reducible] def fSub : F2 := fI fun a b => .int (a - b)
@[reducible] def fMul : F2 := fIc CMul fun a b => .int (a * b)
@[reducible] def fLt : F2 := fI fun a b => .bool (decide (a < b))
@[reducible] def fLe : F2 := fI fun a b => .bool (decide (a ≤ b))
@[reducible] def fGt : F2 := fI fun a b => .bool (decide (b < a))
@[reducible] def fGe : F2 := fI fun a b => .bool (decide (b ≤ a))
theorem so_add : SO K (rI0 fun i j => .int (i + j)) fAdd := so_I fun _ _ _ => .int _
theorem so_sub : SO K (rI0 fun i j => .int (i - j)) fSub := so_I fun _ _ _ => .int _
theorem so_mul : SO K (rI CMul fun i j => .int (i * j)) fMul := so_Ic fun _ _ _ => .int _
theorem so_lt : SO K (rI0 fun i j => .bl (decide (i < j))) fLt := so_I fun _ _ _ => .bl _
theorem so_le : SO K (rI0 fun i j => .bl (decide (i ≤ j))) fLe := so_I fun _ _ _ => .bl _
theorem so_gt : SO K (rI0 fun i j => .bl (decide (j < i))) fGt := so_I fun _ _ _ => .bl _
theorem so_ge : SO K (rI0 fun i j => .bl (decide (j ≤ i))) fGe := so_I fun _ _ _ => .bl _
@[reducible] def fNeg : W → Mem → (W → Mem → Prop) → Prop := fun x M R => gI x fun a => R (.d (.int (-a))) M
theorem su_neg : SU K (rU fun i => .int (-i)) fNeg := fun F H M v x R Q hr rx hf k => by
  obtain ⟨a, rfl, hf⟩ := gI_of hf
  exact ⟨a, rx.int, k _ H F M _ hr .refl (.d (.int _)) hf⟩
/-- texts -/
@[reducible] def fS (g : Str → Str → PyData) : F2 := fun x y M R => gS x fun a => gS y fun b => R (.d (g a b)) M
@[reducible] def fLeS : F2 := fS fun i j => .bool (!decide (j.cps.toList < i.cps.toList))
theorem so_leS : SO K (fun x y H Q => ∃ i j, x = V.str i ∧ y = V.str j ∧ Q (.bl (!decide (j.cps.toList < i.cps.toList))) H) fLeS := fun F H M v u x y R Q hr rx ry hf k => by
  obtain ⟨a, rfl, hf1⟩ := gS_of hf
  obtain ⟨b, rfl, hf2⟩ := gS_of hf1
  exact ⟨a, b, rx.str, ry.str, k _ H F M _ hr .refl (.d (.bl _)) hf2⟩
/-- one sign in a text -/
@[reducible] def gC (x : W) (k : Nat → Prop) : Prop := gS x fun a => ∃ c, a = ⟨#[c]⟩ ∧ k c
/-! ### is None -/
@[reducible] def isN : W → Option Bool
  | .d .none => some true
  | .d _ => some false
  | .r _ => some false
  | .o _ => none
  | .x _ _ _ _ => some false
@[reducible] def fIsN (neg : Bool) : F2 := fun x y M R => y = .d .none ∧ gO (isN x) fun b => R (.d (.bool (ng neg b))) M
theorem isN_of {F : Hp} {v : V} {x : W} {b : Bool} (r : RW K F v x) (h : isN x = some b) : decide (v = .non) = b := by
  cases r with
  | d r => cases r <;> (cases h; simp)
  | r a => cases h; simp
  | o v => cases h
  | x _ => cases h; simp
theorem so_isN : SO K (fun x y H Q => y = V.non ∧ Q (.bl (decide (x = .non))) H) (fIsN false) := fun F H M v u x y R Q hr rx ry hf k => by
  obtain ⟨rfl, hf⟩ := hf
  obtain ⟨b, c, hf⟩ := gO_of hf
  refine ⟨ry.non, ?_⟩
  rw [isN_of rx c]
  exact k _ H F M _ hr .refl (.d (.bl _)) hf
theorem so_notN : SO K (fun x y H Q => y = V.non ∧ Q (.bl (!decide (x = .non))) H) (fIsN true) := fun F H M v u x y R Q hr rx ry hf k => by
  obtain ⟨rfl, hf⟩ := hf
  obtain ⟨b, c, hf⟩ := gO_of hf
  refine ⟨ry.non, ?_⟩
  rw [isN_of rx c]
  exact k _ H F M _ hr .refl (.d (.bl _)) hf
/-! ### == -/
/-- a list of data that may change, or data, as data -/
@[reducible] def asD (M : Mem) (x : W) (k : PyData → Prop) : Prop := match x with
  | .d a => k a
  | .r a => ∃ ds, M a = some (.lst (ds.map W.d)) ∧ k (.list ds)
  | _ => False
theorem asD_of {F H : Hp} {M : Mem} {v : V} {x : W} {k : PyData → Prop} (hr : Rl K F H M) (r : RW K F v x) (h : asD M x k) : ∃ a F', Same F F' ∧ Same F' H ∧ Dx K F' v a ∧ k a := by
  cases x with
  | d a => exact ⟨a, F, Same.refl _, hr.fh, r.dx, h⟩
  | r a =>
    obtain ⟨ds, h1, h2⟩ := h
    obtain ⟨F', r', g', d'⟩ := hr.freeze h1
    rw [r.ref]
    exact ⟨_, F', g'.ff, r'.fh, d', h2⟩
  | o v => exact h.elim
  | x a C dd fs => exact h.elim
def eqOk (d : PyData) : Bool := !d.hasDict && SeqAt.shaped d
theorem eqOk_of {d : PyData} (h : eqOk d = true) : d.hasDict = false ∧ SeqAt.shaped d = true := by
  unfold eqOk at h
  rw [Bool.and_eq_true] at h
  exact ⟨by simpa using h.1, h.2⟩
@[reducible] def fEqD (neg : Bool) : F2 := fun x y M R => asD M x fun a => asD M y fun b => (eqOk a = true ∧ eqOk b = true) ∧ R (.d (.bool (ng neg (PyData.eqv a b)))) M
theorem so_eqD : SO K (rEqD K) (fEqD false) := fun F H M v u x y R Q hr rx ry hf k => by
  obtain ⟨a, F1, e1, f1, da, hf⟩ := asD_of hr rx hf
  obtain ⟨b, F2, e2, f2, db, ⟨ha, hb⟩, hf⟩ := asD_of hr ry hf
  exact ⟨a, b, Dx.dp _ _ (Dx.mono f1 _ _ da) (eqOk_of ha).1, Dx.dp _ _ (Dx.mono f2 _ _ db) (eqOk_of hb).1, (eqOk_of ha).2, (eqOk_of hb).2, k _ H F M _ hr .refl (.d (.bl _)) hf⟩
theorem so_neD : SO K (rNeD K) (fEqD true) := fun F H M v u x y R Q hr rx ry hf k => by
  obtain ⟨a, F1, e1, f1, da, hf⟩ := asD_of hr rx hf
  obtain ⟨b, F2, e2, f2, db, ⟨ha, hb⟩, hf⟩ := asD_of hr ry hf
  exact ⟨a, b, Dx.dp _ _ (Dx.mono f1 _ _ da) (eqOk_of ha).1, Dx.dp _ _ (Dx.mono f2 _ _ db) (eqOk_of hb).1, (eqOk_of ha).2, (eqOk_of hb).2, k _ H F M _ hr .refl (.d (.bl _)) hf⟩
/-- plain values: numbers, texts, truths, None -/
@[reducible] def eqS : PyData → PyData → Option Bool
  | .int a, .int b => some (decide (a = b))
  | .str a, .str b => some (decide (a = b))
  | .bool a, .bool b => some (decide (a = b))
  | .none, .none => some true
  | .none, .int _ => some false
  | .none, .str _ => some false
  | .none, .bool _ => some false
  | .int _, .none => some false
  | .str _, .none => some false
  | .bool _, .none => some false
  | .int _, .str _ => some false
  | .str _, .int _ => some false
  | .bool _, .str _ => some false
  | .str _, .bool _ => some false
  | _, _ => none
@[reducible] def fEqS (neg : Bool) : F2 := fun x y M R => gD x fun a => gD y fun b => gO (eqS a b) fun c => R (.d (.bool (ng neg c))) M
theorem eqS_of {F : Hp} {v u : V} {a b : PyData} {c : Bool} (ra : Dx K F v a) (rb : Dx K F u b) (h : eqS a b = some c) : scal v u = true ∧ decide (v = u) = c := by
  cases ra <;> cases rb <;> first | (cases h; done) | (simp only [eqS, Option.some.injEq] at h; subst h; refine ⟨rfl, ?_⟩; simp)
theorem so_eqS : SO K rEq (fEqS false) := fun F H M v u x y R Q hr rx ry hf k => by
  obtain ⟨a, rfl, hf1⟩ := gD_of hf
  obtain ⟨b, rfl, hf2⟩ := gD_of hf1
  obtain ⟨e, c, hf2⟩ := gO_of hf2
  obtain ⟨h1, h2⟩ := eqS_of rx.dx ry.dx c
  refine ⟨h1, ?_⟩
  rw [h2]
  exact k _ H F M _ hr .refl (.d (.bl _)) hf2
theorem so_neS : SO K rNe (fEqS true) := fun F H M v u x y R Q hr rx ry hf k => by
  obtain ⟨a, rfl, hf1⟩ := gD_of hf
  obtain ⟨b, rfl, hf2⟩ := gD_of hf1
  obtain ⟨e, c, hf2⟩ := gO_of hf2
  obtain ⟨h1, h2⟩ := eqS_of rx.dx ry.dx c
  refine ⟨h1, ?_⟩
  rw [h2]
  exact k _ H F M _ hr .refl (.d (.bl _)) hf2
end
end Tl
set_option Elab.async false
set_option linter.all false
set_option maxRecDepth 100000
set_option maxHeartbeats 4000000
namespace Tl
open PySem L2
section
variable {K : PySem.W.Frag} {Wx : WX} {RE : REx}
/-! ### tests -/
@[reducible] def tbT (T : TDE) : TDT := fun ρ M R => T ρ M fun x M1 => gB x fun c => R c M1
@[reducible] def andT (T U : TDT) : TDT := fun ρ M R => T ρ M fun c M1 => IfB c (U ρ M1 R) (R false M1)
@[reducible] def orT (T U : TDT) : TDT := fun ρ M R => T ρ M fun c M1 => IfB c (R true M1) (U ρ M1 R)
@[reducible] def notT (T : TDT) : TDT := fun ρ M R => T ρ M fun c M1 => R (!c) M1
@[reducible] def andV (T U : TDE) : TDE := fun ρ M R => T ρ M fun x M1 => gB x fun c => IfB c (U ρ M1 R) (R (.d (.bool false)) M1)
@[reducible] def orV (T U : TDE) : TDE := fun ρ M R => T ρ M fun x M1 => gB x fun c => IfB c (R (.d (.bool true)) M1) (U ρ M1 R)
@[reducible] def notV (T : TDE) : TDE := fun ρ M R => T ρ M fun x M1 => gB x fun c => R (.d (.bool (!c))) M1
@[reducible] def ifT (T : TDT) (A B : TDE) : TDE := fun ρ M R => T ρ M fun c M1 => IfB c (A ρ M1 R) (B ρ M1 R)
theorem st_val {t : TE} {T : TDE} (h : SE K Wx RE t T) : ST K Wx RE (tB t) (tbT T) := fun F H M σ ρ R Q hr hx hs ht k =>
  h F H M σ ρ _ _ hr hx hs ht fun v H1 F1 M1 x r1 g1 rx h1 => by
    obtain ⟨c, rfl, h2⟩ := gB_of h1
    exact ⟨c, rx.bl, k c H1 F1 M1 r1 g1 h2⟩
theorem st_test {t : TE} {T : TDE} (h : SE K Wx RE t T) : ST K Wx RE (tTest t) (tbT T) := fun F H M σ ρ R Q hr hx hs ht k =>
  h F H M σ ρ _ _ hr hx hs ht fun v H1 F1 M1 x r1 g1 rx h1 => by
    obtain ⟨c, rfl, h2⟩ := gB_of h1
    exact ⟨c, rx.bl, k c H1 F1 M1 r1 g1 h2⟩
theorem st_and {t u : TT} {T U : TDT} (ha : ST K Wx RE t T) (hb : ST K Wx RE u U) : ST K Wx RE (tAnd t u) (andT T U) := fun F H M σ ρ R Q hr hx hs ht k =>
  ha F H M σ ρ _ _ hr hx hs ht fun c H1 F1 M1 r1 g1 h1 => by
    have h1 := h1.ite
    by_cases hc : c = true
    · rw [if_pos hc] at h1 ⊢
      exact hb F1 H1 M1 σ ρ R Q r1 (hx.mono g1) (hs.mono g1.ff) h1 fun b H2 F2 M2 r2 g2 h2 => k b H2 F2 M2 r2 (g1.trans g2) h2
    · rw [if_neg hc] at h1 ⊢
      exact k _ H1 F1 M1 r1 g1 h1
theorem st_or {t u : TT} {T U : TDT} (ha : ST K Wx RE t T) (hb : ST K Wx RE u U) : ST K Wx RE (tOr t u) (orT T U) := fun F H M σ ρ R Q hr hx hs ht k =>
  ha F H M σ ρ _ _ hr hx hs ht fun c H1 F1 M1 r1 g1 h1 => by
    have h1 := h1.ite
    by_cases hc : c = true
    · rw [if_pos hc] at h1 ⊢
      exact k _ H1 F1 M1 r1 g1 h1
    · rw [if_neg hc] at h1 ⊢
      exact hb F1 H1 M1 σ ρ R Q r1 (hx.mono g1) (hs.mono g1.ff) h1 fun b H2 F2 M2 r2 g2 h2 => k b H2 F2 M2 r2 (g1.trans g2) h2
theorem st_not {t : TT} {T : TDT} (ha : ST K Wx RE t T) : ST K Wx RE (tNot t) (notT T) := fun F H M σ ρ R Q hr hx hs ht k =>
  ha F H M σ ρ _ _ hr hx hs ht fun c H1 F1 M1 r1 g1 h1 => k _ H1 F1 M1 r1 g1 h1
theorem se_and {t u : TE} {T U : TDE} (ha : SE K Wx RE t T) (hb : SE K Wx RE u U) : SE K Wx RE (tAndV t u) (andV T U) := fun F H M σ ρ R Q hr hx hs ht k =>
  ha F H M σ ρ _ _ hr hx hs ht fun v H1 F1 M1 x r1 g1 rx h1 => by
    obtain ⟨c, rfl, h2⟩ := gB_of h1
    refine ⟨c, rx.bl, ?_⟩
    have h2 := h2.ite
    by_cases hc : c = true
    · rw [if_pos hc] at h2 ⊢
      exact hb F1 H1 M1 σ ρ R Q r1 (hx.mono g1) (hs.mono g1.ff) h2 fun b H2 F2 M2 x r2 g2 h3 h4 => k b H2 F2 M2 x r2 (g1.trans g2) h3 h4
    · rw [if_neg hc] at h2 ⊢
      exact k _ H1 F1 M1 _ r1 g1 (.d (.bl _)) h2
theorem se_or {t u : TE} {T U : TDE} (ha : SE K Wx RE t T) (hb : SE K Wx RE u U) : SE K Wx RE (tOrV t u) (orV T U) := fun F H M σ ρ R Q hr hx hs ht k =>
  ha F H M σ ρ _ _ hr hx hs ht fun v H1 F1 M1 x r1 g1 rx h1 => by
    obtain ⟨c, rfl, h2⟩ := gB_of h1
    refine ⟨c, rx.bl, ?_⟩
    have h2 := h2.ite
    by_cases hc : c = true
    · rw [if_pos hc] at h2 ⊢
      exact k _ H1 F1 M1 _ r1 g1 (.d (.bl _)) h2
    · rw [if_neg hc] at h2 ⊢
      exact hb F1 H1 M1 σ ρ R Q r1 (hx.mono g1) (hs.mono g1.ff) h2 fun b H2 F2 M2 x r2 g2 h3 h4 => k b H2 F2 M2 x r2 (g1.trans g2) h3 h4
theorem se_not {t : TE} {T : TDE} (ha : SE K Wx RE t T) : SE K Wx RE (tNotV t) (notV T) := fun F H M σ ρ R Q hr hx hs ht k =>
  ha F H M σ ρ _ _ hr hx hs ht fun v H1 F1 M1 x r1 g1 rx h1 => by
    obtain ⟨c, rfl, h2⟩ := gB_of h1
    exact ⟨c, rx.bl, k _ H1 F1 M1 _ r1 g1 (.d (.bl _)) h2⟩
theorem se_if {t : TT} {T : TDT} {ta tb : TE} {A B : TDE} (hc : ST K Wx RE t T) (ha : SE K Wx RE ta A) (hb : SE K Wx RE tb B) : SE K Wx RE (tIf t ta tb) (ifT T A B) := fun F H M σ ρ R Q hr hx hs ht k =>
  hc F H M σ ρ _ _ hr hx hs ht fun c H1 F1 M1 r1 g1 h1 => by
    have h1 := h1.ite
    by_cases hc : c = true
    · rw [if_pos hc] at h1 ⊢
      exact ha F1 H1 M1 σ ρ R Q r1 (hx.mono g1) (hs.mono g1.ff) h1 fun b H2 F2 M2 x r2 g2 h3 h4 => k b H2 F2 M2 x r2 (g1.trans g2) h3 h4
    · rw [if_neg hc] at h1 ⊢
      exact hb F1 H1 M1 σ ρ R Q r1 (hx.mono g1) (hs.mono g1.ff) h1 fun b H2 F2 M2 x r2 g2 h3 h4 => k b H2 F2 M2 x r2 (g1.trans g2) h3 h4
@[reducible] def chT (f f' : F2) (Ta Tb Tc : TDE) : TDE := fun ρ M R => Ta ρ M fun x M1 => Tb ρ M1 fun y M2 => f x y M2 fun z M3 => gB z fun c => IfB c (Tc ρ M3 fun w M4 => f' y w M4 R) (R (.d (.bool false)) M3)
theorem se_chain {r r' : R2} {f f' : F2} {ta tb tc : TE} {Ta Tb Tc : TDE} (ho : SO K r f) (ho' : SO K r' f') (ha : SE K Wx RE ta Ta) (hb : SE K Wx RE tb Tb) (hc : SE K Wx RE tc Tc) : SE K Wx RE (tChain r r' ta tb tc) (chT f f' Ta Tb Tc) := fun F H M σ ρ R Q hr hx hs ht k =>
  ha F H M σ ρ _ _ hr hx hs ht fun v H1 F1 M1 x r1 g1 rx ht1 => hb F1 H1 M1 σ ρ _ _ r1 (hx.mono g1) (hs.mono g1.ff) ht1 fun u H2 F2 M2 y r2 g2 ry ht2 =>
    ho F2 H2 M2 v u x y _ _ r2 (rx.mono g2.ff) ry ht2 fun w H3 F3 M3 z r3 g3 rz hz => by
      obtain ⟨c, rfl, h2⟩ := gB_of hz
      refine ⟨c, rz.bl, ?_⟩
      have g := (g1.trans g2).trans g3
      have h2 := h2.ite
      by_cases hc' : c = true
      · rw [if_pos hc'] at h2 ⊢
        exact hc F3 H3 M3 σ ρ _ _ r3 (hx.mono g) (hs.mono g.ff) h2 fun w4 H4 F4 M4 z4 r4 g4 rz4 h4 =>
          ho' F4 H4 M4 u w4 y z4 R Q r4 (ry.mono (g3.trans g4).ff) rz4 h4 fun w5 H5 F5 M5 z5 r5 g5 rz5 h5 => k w5 H5 F5 M5 z5 r5 ((g.trans g4).trans g5) rz5 h5
      · rw [if_neg hc'] at h2 ⊢
        exact k _ H3 F3 M3 _ r3 g (.d (.bl _)) h2
/-! ### arguments, displays -/
def SAn (K : PySem.W.Frag) (Wx : WX) (RE : REx) (n : Nat) (t : TA) (T : TDA) : Prop :=
  ∀ F H M σ ρ (R : List W → Mem → Prop) (Q : List V → Hp → Prop), Rl K F H M → XOk K F H M Wx RE → RelS K F σ ρ → T ρ M R → (∀ vs H' F' M' xs, Rl K F' H' M' → Gr F H M F' H' M' → RWs K F' vs xs → xs.length = n → R xs M' → Q vs H') → t σ H Q
@[reducible] def nilA : TDA := fun _ M R => R [] M
@[reducible] def consA (T : TDE) (U : TDA) : TDA := fun ρ M R => T ρ M fun x M1 => U ρ M1 fun xs M2 => R (x :: xs) M2
theorem sa_nil : SAn K Wx RE 0 tNil nilA := fun F H M σ ρ R Q hr hx hs ht k => k [] H F M [] hr .refl .nil rfl ht
theorem sa_cons {n : Nat} {t : TE} {u : TA} {T : TDE} {U : TDA} (ha : SE K Wx RE t T) (hb : SAn K Wx RE n u U) : SAn K Wx RE (n + 1) (tCons t u) (consA T U) := fun F H M σ ρ R Q hr hx hs ht k =>
  ha F H M σ ρ _ _ hr hx hs ht fun v H1 F1 M1 x r1 g1 rx h1 => hb F1 H1 M1 σ ρ _ _ r1 (hx.mono g1) (hs.mono g1.ff) h1 fun vs H2 F2 M2 xs r2 g2 rxs hl h2 =>
    k (v :: vs) H2 F2 M2 (x :: xs) r2 (g1.trans g2) (.cons (rx.mono g2.ff) rxs) (by rw [List.length_cons, hl]) h2
/-- all of them data -/
inductive gDs (xs : List W) (k : List PyData → Prop) : Prop where
  | mk (ds : List PyData) (h : xs = ds.map W.d) (q : k ds)
theorem gDs_of {xs : List W} {k : List PyData → Prop} (h : gDs xs k) : ∃ ds, xs = ds.map W.d ∧ k ds := by
  cases h with
  | mk ds h q => exact ⟨ds, h, q⟩
theorem map_injD {α β : Type} {f : α → β} (hf : ∀ a b, f a = f b → a = b) : ∀ {xs ys : List α}, xs.map f = ys.map f → xs = ys
  | [], [], _ => rfl
  | [], _ :: _, h => by cases h
  | _ :: _, [], h => by cases h
  | x :: xs, y :: ys, h => by
    rw [List.map_cons, List.map_cons] at h
    injection h with h1 h2
    rw [hf _ _ h1, map_injD hf h2]
theorem gDs_map {ds : List PyData} {k : List PyData → Prop} : gDs (ds.map W.d) k = k ds := propext ⟨fun h => by
  obtain ⟨es, e, q⟩ := gDs_of h
  rw [map_injD (fun a b h => by injection h) e]
  exact q, fun q => .mk ds rfl q⟩
theorem gDs_n {k : List PyData → Prop} (q : k []) : gDs [] k := .mk [] rfl q
theorem gDs_c {a : PyData} {r : List W} {k : List PyData → Prop} (h : gDs r fun ds => k (a :: ds)) : gDs (.d a :: r) k := by
  obtain ⟨ds, rfl, q⟩ := gDs_of h
  exact .mk (a :: ds) rfl q
@[reducible] def tupT (T : TDA) : TDE := fun ρ M R => T ρ M fun xs M1 => gDs xs fun ds => R (.d (.tuple ds)) M1
@[reducible] def lsfT (T : TDA) : TDE := fun ρ M R => T ρ M fun xs M1 => gDs xs fun ds => R (.d (.list ds)) M1
@[reducible] def lstT (T : TDA) : TDE := fun ρ M R => T ρ M fun xs M1 => ∀ p, M1 p = none → R (.r p) (mset M1 p (.lst xs))
theorem se_tup {n : Nat} {t : TA} {T : TDA} (h : SAn K Wx RE n t T) (hn : n ≤ 1000 := by decide) : SE K Wx RE (tTup t) (tupT T) := fun F H M σ ρ R Q hr hx hs ht k =>
  h F H M σ ρ _ _ hr hx hs ht fun vs H1 F1 M1 xs r1 g1 rxs hl h1 => by
    obtain ⟨ds, rfl, h2⟩ := gDs_of h1
    refine ⟨by rw [rxs.len, hl]; exact sz1000 hn, fun p hp => ?_⟩
    obtain ⟨r2, g2, rz⟩ := r1.tup hp rxs.undat
    exact k _ _ _ _ _ r2 (g1.trans g2) rz h2
theorem se_lsf {n : Nat} {t : TA} {T : TDA} (h : SAn K Wx RE n t T) (hn : n ≤ 1000 := by decide) : SE K Wx RE (tLst t) (lsfT T) := fun F H M σ ρ R Q hr hx hs ht k =>
  h F H M σ ρ _ _ hr hx hs ht fun vs H1 F1 M1 xs r1 g1 rxs hl h1 => by
    obtain ⟨ds, rfl, h2⟩ := gDs_of h1
    refine ⟨by rw [rxs.len, hl]; exact sz1000 hn, fun p hp => ?_⟩
    obtain ⟨r2, g2, rz⟩ := r1.list hp rxs.undat
    exact k _ _ _ _ _ r2 (g1.trans g2) rz h2
theorem se_lst {n : Nat} {t : TA} {T : TDA} (h : SAn K Wx RE n t T) (hn : n ≤ 1000 := by decide) : SE K Wx RE (tLst t) (lstT T) := fun F H M σ ρ R Q hr hx hs ht k =>
  h F H M σ ρ _ _ hr hx hs ht fun vs H1 F1 M1 xs r1 g1 rxs hl h1 => by
    refine ⟨by rw [rxs.len, hl]; exact sz1000 hn, fun p hp => ?_⟩
    obtain ⟨r2, g2⟩ := r1.born (u := .lst vs) (o := .lst xs) hp ⟨vs, rfl, rxs⟩
    exact k _ _ _ _ _ r2 (g1.trans g2) (.r p) (h1 p (r1.new hp))
/-! ### items -/
/-- the items of a list, data or not -/
@[reducible] def gW (M : Mem) (x : W) (k : List W → Prop) : Prop := match x with
  | .d (.list ds) => k (ds.map W.d)
  | .r a => ∃ ws, M a = some (.lst ws) ∧ k ws
  | _ => False
theorem gW_of {F H : Hp} {M : Mem} {v : V} {x : W} {k : List W → Prop} (hr : Rl K F H M) (r : RW K F v x) (h : gW M x k) : ∃ a vs ws, v = .ref a ∧ H a = some (.lst vs) ∧ RWs K F vs ws ∧ k ws := by
  unfold gW at h
  split at h
  · obtain ⟨a, xs, rfl, h1, h2⟩ := r.lst
    exact ⟨a, xs, _, rfl, hr.fh _ _ h1, .dat h2, h⟩
  · obtain ⟨ws, h1, h2⟩ := h
    obtain ⟨vs, h3, h4⟩ := hr.lst h1
    exact ⟨_, vs, ws, r.ref, h3, h4, h2⟩
  · exact h.elim
theorem atI_map {α β : Type} (f : α → β) (xs : List α) (i : Int) : atI (xs.map f) i = (atI xs i).map f := by
  unfold atI
  rw [List.length_map]
  cases ixN xs.length i with
  | none => rfl
  | some j => simp
theorem atI_rw {F : Hp} {vs : List V} {xs : List W} {i : Int} {x : W} (r : RWs K F vs xs) (h : atI xs i = some x) : ∃ v, atI vs i = some v ∧ RW K F v x := by
  unfold atI at h ⊢
  rw [r.len]
  cases c : ixN xs.length i with
  | none => rw [c] at h; cases h
  | some j => rw [c] at h; exact r.got h
theorem atI_dx {F : Hp} {vs : List V} {ds : List PyData} {i : Int} {d : PyData} (r : DxL K F vs ds) (h : atI ds i = some d) : ∃ v, atI vs i = some v ∧ Dx K F v d := by
  unfold atI at h ⊢
  rw [r.len]
  cases c : ixN ds.length i with
  | none => rw [c] at h; cases h
  | some j => rw [c] at h; exact r.got h
@[reducible] def fIxT : F2 := fun x y M R => gT x fun ds => gI y fun i => gO (atI ds i) fun d => R (.d d) M
@[reducible] def fIxL : F2 := fun x y M R => gW M x fun ws => gI y fun i => gO (atI ws i) fun w => R w M
theorem so_ixT : SO K (rIxT K) fIxT := fun F H M v u x y R Q hr rx ry hf k => by
  obtain ⟨ds, rfl, h1⟩ := gT_of hf
  obtain ⟨i, rfl, h2⟩ := gI_of h1
  obtain ⟨d, h3, h4⟩ := gO_of h2
  obtain ⟨a, xs, rfl, h5, h6⟩ := rx.tup
  obtain ⟨w, h7, h8⟩ := atI_dx h6 h3
  exact ⟨a, xs, i, w, rfl, ry.int, same_t hr.fh h5, h7, k _ H F M _ hr .refl (.d h8) h4⟩
theorem so_ixL : SO K (rIxL K) fIxL := fun F H M v u x y R Q hr rx ry hf k => by
  obtain ⟨a, vs, ws, rfl, h1, h2, h3⟩ := gW_of hr rx hf
  obtain ⟨i, rfl, h4⟩ := gI_of h3
  obtain ⟨w, h5, h6⟩ := gO_of h4
  obtain ⟨u2, h7, h8⟩ := atI_rw h2 h5
  exact ⟨a, vs, i, u2, rfl, ry.int, SqL.of h1, h7, k _ H F M _ hr .refl h8 h6⟩
/-! ### slices -/
abbrev TDO := EnvD → Mem → (Option Int → Mem → Prop) → Prop
def SPt (K : PySem.W.Frag) (Wx : WX) (RE : REx) (t : TO) (T : TDO) : Prop :=
  ∀ F H M σ ρ (R : Option Int → Mem → Prop) (Q : Option Int → Hp → Prop), Rl K F H M → XOk K F H M Wx RE → RelS K F σ ρ → T ρ M R → (∀ o H' F' M', Rl K F' H' M' → Gr F H M F' H' M' → R o M' → Q o H') → t σ H Q
@[reducible] def noP : TDO := fun _ M R => R none M
@[reducible] def someP (T : TDE) : TDO := fun ρ M R => T ρ M fun x M1 => gI x fun i => R (some i) M1
theorem sp_no : SPt K Wx RE tNoPart noP := fun F H M σ ρ R Q hr hx hs ht k => k none H F M hr .refl ht
theorem sp_some {t : TE} {T : TDE} (h : SE K Wx RE t T) : SPt K Wx RE (tPart t) (someP T) := fun F H M σ ρ R Q hr hx hs ht k =>
  h F H M σ ρ _ _ hr hx hs ht fun v H1 F1 M1 x r1 g1 rx h1 => by
    obtain ⟨i, rfl, h2⟩ := gI_of h1
    exact ⟨i, rx.int, k _ H1 F1 M1 r1 g1 h2⟩
abbrev FSl := W → Option Int → Option Int → Mem → (W → Mem → Prop) → Prop
def SSl (K : PySem.W.Frag) (r : V → Option Int → Option Int → Hp → VK → Prop) (f : FSl) : Prop := ∀ F H M v x lo hi R Q, Rl K F H M → RW K F v x → f x lo hi M R → Kt K F H M R Q → r v lo hi H Q
@[reducible] def slT (f : FSl) (T : TDE) (Tl Th : TDO) : TDE := fun ρ M R => T ρ M fun x M1 => Tl ρ M1 fun lo M2 => Th ρ M2 fun hi M3 => f x lo hi M3 R
theorem se_sl {r : V → Option Int → Option Int → Hp → VK → Prop} {f : FSl} {te : TE} {tl th : TO} {T : TDE} {Tl Th : TDO} (ho : SSl K r f) (he : SE K Wx RE te T) (hl : SPt K Wx RE tl Tl) (hh : SPt K Wx RE th Th) : SE K Wx RE (tSl r te tl th) (slT f T Tl Th) := fun F H M σ ρ R Q hr hx hs ht k =>
  he F H M σ ρ _ _ hr hx hs ht fun v H1 F1 M1 x r1 g1 rx h1 => hl F1 H1 M1 σ ρ _ _ r1 (hx.mono g1) (hs.mono g1.ff) h1 fun lo H2 F2 M2 r2 g2 h2 =>
    hh F2 H2 M2 σ ρ _ _ r2 (hx.mono (g1.trans g2)) (hs.mono (g1.trans g2).ff) h2 fun hi H3 F3 M3 r3 g3 h3 =>
      ho F3 H3 M3 v x lo hi R Q r3 (rx.mono (g2.trans g3).ff) h3 fun w H4 F4 M4 z r4 g4 rz hz => k w H4 F4 M4 z r4 (((g1.trans g2).trans g3).trans g4) rz hz
def cut {α : Type} (xs : List α) (lo hi : Option Int) : List α := (xs.drop (HT.sIx xs.length 0 lo)).take (HT.sIx xs.length xs.length hi - HT.sIx xs.length 0 lo)
theorem cut_dx {F : Hp} {vs : List V} {ds : List PyData} {lo hi : Option Int} (r : DxL K F vs ds) : DxL K F (cutV vs lo hi) (cut ds lo hi) := by
  unfold cutV cut
  rw [r.len]
  exact (r.drop _).take _
theorem cut_whole {α : Type} {xs : List α} {lo hi : Option Int} (h : HT.sIx xs.length 0 lo = 0 ∧ HT.sIx xs.length xs.length hi = xs.length) : cut xs lo hi = xs := by
  unfold cut
  rw [h.1, h.2, List.drop_zero, Nat.sub_zero, List.take_length]
@[reducible] def fSlT : FSl := fun x lo hi M R => gT x fun ds => R (.d (.tuple (cut ds lo hi))) M
theorem sl_T : SSl K (rSlA K) fSlT := fun F H M v x lo hi R Q hr rx hf k => by
  obtain ⟨ds, rfl, h1⟩ := gT_of hf
  obtain ⟨a, xs, rfl, h2, h3⟩ := rx.tup
  refine ⟨a, xs, rfl, same_t hr.fh h2, fun hw => ?_, fun _ p hp => ?_⟩
  · rw [h3.len] at hw
    rw [cut_whole hw] at h1
    exact k _ H F M _ hr .refl rx h1
  · obtain ⟨r2, g2, rz⟩ := hr.tup hp (cut_dx (lo := lo) (hi := hi) h3)
    exact k _ _ _ _ _ r2 g2 rz h1
@[reducible] def rvF (T : TDE) : TDE := fun ρ M R => T ρ M fun x M1 => gW M1 x fun ws => gDs ws fun ds => R (.d (.list ds.reverse)) M1
theorem se_rvF {t : TE} {T : TDE} (h : SE K Wx RE t T) : SE K Wx RE (tRevL K t) (rvF T) := fun F H M σ ρ R Q hr hx hs ht k =>
  h F H M σ ρ _ _ hr hx hs ht fun v H1 F1 M1 x r1 g1 rx h1 => by
    obtain ⟨a, vs, ws, rfl, h2, h3, h4⟩ := gW_of r1 rx h1
    obtain ⟨ds, rfl, h5⟩ := gDs_of h4
    refine ⟨a, vs, rfl, SqL.of h2, fun p hp => ?_⟩
    obtain ⟨r2, g2, rz⟩ := r1.list hp h3.undat.rev
    exact k _ _ _ _ _ r2 (g1.trans g2) rz h5
/-! ### + and * of rows -/
@[reducible] def fCatT : F2 := fun x y M R => gT x fun a => gT y fun b => a.length + b.length ≤ sizeLine ∧ R (.d (.tuple (a ++ b))) M
theorem so_catT : SO K (rCatA K) fCatT := fun F H M v u x y R Q hr rx ry hf k => by
  obtain ⟨a, rfl, h1⟩ := gT_of hf
  obtain ⟨b, rfl, hz, h2⟩ := gT_of h1
  obtain ⟨p, xs, rfl, h3, h4⟩ := rx.tup
  obtain ⟨q, ys, rfl, h5, h6⟩ := ry.tup
  refine ⟨p, q, xs, ys, rfl, rfl, same_t hr.fh h3, same_t hr.fh h5, by rw [h4.len, h6.len]; exact hz, fun e => ?_, fun _ e => ?_, fun _ _ t ht => ?_⟩
  · have ea : a = [] := by
      apply List.eq_nil_of_length_eq_zero
      rw [← h4.len, e]
      rfl
    subst ea
    exact k _ H F M _ hr .refl ry h2
  · have eb : b = [] := by
      apply List.eq_nil_of_length_eq_zero
      rw [← h6.len, e]
      rfl
    subst eb
    rw [List.append_nil] at h2
    exact k _ H F M _ hr .refl rx h2
  · obtain ⟨r2, g2, rz⟩ := hr.tup ht (h4.app h6)
    exact k _ _ _ _ _ r2 g2 rz h2
/-- list + list: data -/
@[reducible] def fCatF : F2 := fun x y M R => gW M x fun a => gW M y fun b => gDs a fun a => gDs b fun b => a.length + b.length ≤ sizeLine ∧ R (.d (.list (a ++ b))) M
theorem so_catF : SO K rCat fCatF := fun F H M v u x y R Q hr rx ry hf k => by
  obtain ⟨p, vs, ws, rfl, h1, h2, h3⟩ := gW_of hr rx hf
  obtain ⟨q, us, zs, rfl, h4, h5, h6⟩ := gW_of hr ry h3
  obtain ⟨a, rfl, h7⟩ := gDs_of h6
  obtain ⟨b, rfl, hz, h8⟩ := gDs_of h7
  refine ⟨p, q, vs, us, rfl, rfl, h1, h4, by rw [h2.len, h5.len, List.length_map, List.length_map]; exact hz, fun t ht => ?_⟩
  obtain ⟨r2, g2, rz⟩ := hr.list ht (h2.undat.app h5.undat)
  exact k _ _ _ _ _ r2 g2 rz h8
end
end Tl
set_option Elab.async false
set_option linter.all false
set_option maxRecDepth 100000
set_option maxHeartbeats 4000000
namespace Tl
open PySem L2
section
variable {K : PySem.W.Frag} {Wx : WX} {RE : REx}
/-! ### built-in calls -/
@[reducible] def cbT (f : FL) (T : TDA) : TDE := fun ρ M R => T ρ M fun xs M1 => f xs M1 R
theorem se_cb {n : Nat} {r : List V → Hp → VK → Prop} {f : FL} {t : TA} {T : TDA} (ho : SC K r f) (h : SAn K Wx RE n t T) : SE K Wx RE (tCB r t) (cbT f T) := fun F H M σ ρ R Q hr hx hs ht k =>
  h F H M σ ρ _ _ hr hx hs ht fun vs H1 F1 M1 xs r1 g1 rxs hl h1 => ho F1 H1 M1 vs xs R Q r1 rxs h1 fun w H2 F2 M2 z r2 g2 rz hz => k w H2 F2 M2 z r2 (g1.trans g2) rz hz
@[reducible] def g1 (xs : List W) (k : W → Prop) : Prop := match xs with | [x] => k x | _ => False
@[reducible] def g2 (xs : List W) (k : W → W → Prop) : Prop := match xs with | [x, y] => k x y | _ => False
theorem g1_of {xs : List W} {k : W → Prop} (h : g1 xs k) : ∃ x, xs = [x] ∧ k x := by
  unfold g1 at h
  split at h
  · exact ⟨_, rfl, h⟩
  · exact h.elim
theorem g2_of {xs : List W} {k : W → W → Prop} (h : g2 xs k) : ∃ x y, xs = [x, y] ∧ k x y := by
  unfold g2 at h
  split at h
  · exact ⟨_, _, rfl, h⟩
  · exact h.elim
theorem RWs.one {F : Hp} {vs : List V} {x : W} (r : RWs K F vs [x]) : ∃ v, vs = [v] ∧ RW K F v x := by
  cases r with
  | cons a b => cases b; exact ⟨_, rfl, a⟩
theorem RWs.two {F : Hp} {vs : List V} {x y : W} (r : RWs K F vs [x, y]) : ∃ v u, vs = [v, u] ∧ RW K F v x ∧ RW K F u y := by
  cases r with
  | cons a b => cases b with | cons b c => cases c; exact ⟨_, _, rfl, a, b⟩
/-- the length of a row -/
@[reducible] def fLen : FL := fun xs M R => g1 xs fun x => match x with
  | .d (.tuple ds) => R (.d (.int ds.length)) M
  | x => gW M x fun ws => R (.d (.int ws.length)) M
theorem sc_len : SC K (fun xs H Q => ∃ p ys, xs = [V.ref p] ∧ (SqL K H p ys ∨ SqT K H p ys) ∧ Q (.int ys.length) H) fLen := fun F H M vs xs R Q hr rx hf k => by
  obtain ⟨x, rfl, h1⟩ := g1_of hf
  obtain ⟨v, rfl, r⟩ := rx.one
  have hw : (∀ ds, x ≠ .d (.tuple ds)) → gW M x (fun ws => R (.d (.int ws.length)) M) := fun hn => by
    cases x with
    | d a =>
      cases a with
      | tuple ds => exact absurd rfl (hn ds)
      | _ => exact h1
    | r a => exact h1
    | o a => exact h1
    | x a C dd fs => exact h1
  by_cases c : ∃ ds, x = .d (.tuple ds)
  · obtain ⟨ds, rfl⟩ := c
    obtain ⟨a, xs, rfl, h2, h3⟩ := r.tup
    refine ⟨a, xs, rfl, .inr (same_t hr.fh h2), ?_⟩
    rw [h3.len]
    exact k _ H F M _ hr .refl (.d (.int _)) h1
  · obtain ⟨a, us, ws, rfl, h2, h3, h4⟩ := gW_of hr r (hw fun ds e => c ⟨ds, e⟩)
    refine ⟨a, us, rfl, .inl (SqL.of h2), ?_⟩
    rw [h3.len]
    exact k _ H F M _ hr .refl (.d (.int _)) h4
@[reducible] def fLenS : FL := fun xs M R => g1 xs fun x => gS x fun z => z.length ≤ sizeLine ∧ R (.d (.int z.length)) M
theorem sc_lenS : SC K (fun xs H Q => ∃ z, xs = [V.str z] ∧ z.length ≤ sizeLine ∧ Q (.int z.length) H) fLenS := fun F H M vs xs R Q hr rx hf k => by
  obtain ⟨x, rfl, h1⟩ := g1_of hf
  obtain ⟨v, rfl, r⟩ := rx.one
  obtain ⟨z, rfl, hz, h2⟩ := gS_of h1
  exact ⟨z, by rw [r.str], hz, k _ H F M _ hr .refl (.d (.int _)) h2⟩
/-- all truths -/
inductive gBs (xs : List W) (k : List Bool → Prop) : Prop where
  | mk (bs : List Bool) (h : xs = bs.map fun b => W.d (.bool b)) (q : k bs)
theorem gBs_of {xs : List W} {k : List Bool → Prop} (h : gBs xs k) : ∃ bs : List Bool, xs = bs.map (fun b => W.d (.bool b)) ∧ k bs := by
  cases h with
  | mk bs h q => exact ⟨bs, h, q⟩
theorem gBs_map {α : Type} (g : α → Bool) {xs : List α} {k : List Bool → Prop} : gBs (xs.map fun a => W.d (.bool (g a))) k = k (xs.map g) := propext ⟨fun h => by
  obtain ⟨es, e, q⟩ := gBs_of h
  rw [show (xs.map fun a => W.d (.bool (g a))) = (xs.map g).map fun b => W.d (.bool b) by rw [List.map_map]; rfl] at e
  rw [map_injD (fun a b h => by injection h with h; injection h) e]
  exact q, fun q => .mk (xs.map g) (by rw [List.map_map]; rfl) q⟩
theorem gBs_n {k : List Bool → Prop} (q : k []) : gBs [] k := .mk [] rfl q
theorem gBs_c {x : W} {r : List W} {k : List Bool → Prop} (h : gB x fun b => gBs r fun bs => k (b :: bs)) : gBs (x :: r) k := by
  obtain ⟨a, rfl, h⟩ := gB_of h
  obtain ⟨bs, rfl, q⟩ := gBs_of h
  exact .mk (a :: bs) rfl q
inductive gIs (xs : List W) (k : List Int → Prop) : Prop where
  | mk (bs : List Int) (h : xs = bs.map fun b => W.d (.int b)) (q : k bs)
theorem gIs_of {xs : List W} {k : List Int → Prop} (h : gIs xs k) : ∃ bs : List Int, xs = bs.map (fun b => W.d (.int b)) ∧ k bs := by
  cases h with
  | mk bs h q => exact ⟨bs, h, q⟩
theorem gIs_map {α : Type} (g : α → Int) {xs : List α} {k : List Int → Prop} : gIs (xs.map fun a => W.d (.int (g a))) k = k (xs.map g) := propext ⟨fun h => by
  obtain ⟨es, e, q⟩ := gIs_of h
  rw [show (xs.map fun a => W.d (.int (g a))) = (xs.map g).map fun b => W.d (.int b) by rw [List.map_map]; rfl] at e
  rw [map_injD (fun a b h => by injection h with h; injection h) e]
  exact q, fun q => .mk (xs.map g) (by rw [List.map_map]; rfl) q⟩
theorem gIs_n {k : List Int → Prop} (q : k []) : gIs [] k := .mk [] rfl q
theorem gIs_c {x : W} {r : List W} {k : List Int → Prop} (h : gI x fun b => gIs r fun bs => k (b :: bs)) : gIs (x :: r) k := by
  obtain ⟨a, rfl, h⟩ := gI_of h
  obtain ⟨bs, rfl, q⟩ := gIs_of h
  exact .mk (a :: bs) rfl q
inductive gSs (xs : List W) (k : List Str → Prop) : Prop where
  | mk (bs : List Str) (h : xs = bs.map fun b => W.d (.str b)) (q : k bs)
theorem gSs_of {xs : List W} {k : List Str → Prop} (h : gSs xs k) : ∃ bs : List Str, xs = bs.map (fun b => W.d (.str b)) ∧ k bs := by
  cases h with
  | mk bs h q => exact ⟨bs, h, q⟩
theorem gSs_n {k : List Str → Prop} (q : k []) : gSs [] k := .mk [] rfl q
theorem gSs_c {x : W} {r : List W} {k : List Str → Prop} (h : gS x fun b => gSs r fun bs => k (b :: bs)) : gSs (x :: r) k := by
  obtain ⟨a, rfl, h⟩ := gS_of h
  obtain ⟨bs, rfl, q⟩ := gSs_of h
  exact .mk (a :: bs) rfl q
theorem rws_bl {F : Hp} : ∀ {bs : List Bool} {vs : List V}, RWs K F vs (bs.map fun b => W.d (.bool b)) → vs = bs.map V.bl
  | [], _, h => by cases h; rfl
  | b :: bs, _, h => by
    cases h with
    | cons a c => rw [rws_bl c, a.bl]; rfl
theorem rws_int {F : Hp} : ∀ {bs : List Int} {vs : List V}, RWs K F vs (bs.map fun b => W.d (.int b)) → vs = bs.map V.int
  | [], _, h => by cases h; rfl
  | b :: bs, _, h => by
    cases h with
    | cons a c => rw [rws_int c, a.int]; rfl
@[reducible] def fAll : FL := fun xs M R => g1 xs fun x => gW M x fun ws => gBs ws fun bs => R (.d (.bool (bs.all id))) M
theorem sc_all : SC K (rAll K) fAll := fun F H M vs xs R Q hr rx hf k => by
  obtain ⟨x, rfl, h1⟩ := g1_of hf
  obtain ⟨v, rfl, r⟩ := rx.one
  obtain ⟨a, us, ws, rfl, h2, h3, h4⟩ := gW_of hr r h1
  obtain ⟨bs, rfl, h5⟩ := gBs_of h4
  refine ⟨a, bs, rfl, ?_, k _ H F M _ hr .refl (.d (.bl _)) h5⟩
  rw [← rws_bl h3]
  exact SqL.of h2
@[reducible] def fSum : FL := fun xs M R => g1 xs fun x => gW M x fun ws => gIs ws fun bs => R (.d (.int bs.sum)) M
theorem sc_sum : SC K (rSum K) fSum := fun F H M vs xs R Q hr rx hf k => by
  obtain ⟨x, rfl, h1⟩ := g1_of hf
  obtain ⟨v, rfl, r⟩ := rx.one
  obtain ⟨a, us, ws, rfl, h2, h3, h4⟩ := gW_of hr r h1
  obtain ⟨bs, rfl, h5⟩ := gIs_of h4
  refine ⟨a, bs, rfl, ?_, k _ H F M _ hr .refl (.d (.int _)) h5⟩
  rw [← rws_int h3]
  exact SqL.of h2
@[reducible] def fMax2 : FL := fun xs M R => g2 xs fun x y => gI x fun i => gI y fun j => R (.d (.int (max i j))) M
theorem sc_max2 : SC K (fun xs H Q => ∃ i j, xs = [V.int i, .int j] ∧ Q (.int (if j > i then j else i)) H) fMax2 := fun F H M vs xs R Q hr rx hf k => by
  obtain ⟨x, y, rfl, h1⟩ := g2_of hf
  obtain ⟨v, u, rfl, r, r'⟩ := rx.two
  obtain ⟨i, rfl, h2⟩ := gI_of h1
  obtain ⟨j, rfl, h3⟩ := gI_of h2
  refine ⟨i, j, by rw [r.int, r'.int], ?_⟩
  rw [show (if j > i then j else i) = max i j by omega]
  exact (k _ H F M _ hr .refl (.d (.int _)) h3)
/-- tuple(..) -/
@[reducible] def fTuple : FL := fun xs M R => g1 xs fun x => match x with
  | .d (.tuple ds) => R (.d (.tuple ds)) M
  | x => gW M x fun ws => gDs ws fun ds => R (.d (.tuple ds)) M
theorem sc_tuple : SC K (fun xs H Q => ∃ p ys, xs = [V.ref p] ∧ ((SqL K H p ys ∧ ∀ l, H l = none → Q (.ref l) (upd H l (.tup ys))) ∨ (SqT K H p ys ∧ Q (.ref p) H))) fTuple := fun F H M vs xs R Q hr rx hf k => by
  obtain ⟨x, rfl, h1⟩ := g1_of hf
  obtain ⟨v, rfl, r⟩ := rx.one
  have hw : (∀ ds, x ≠ .d (.tuple ds)) → gW M x (fun ws => gDs ws fun ds => R (.d (.tuple ds)) M) := fun hn => by
    cases x with
    | d a =>
      cases a with
      | tuple ds => exact absurd rfl (hn ds)
      | _ => exact h1
    | r a => exact h1
    | o a => exact h1
    | x a C dd fs => exact h1
  by_cases c : ∃ ds, x = .d (.tuple ds)
  · obtain ⟨ds, rfl⟩ := c
    obtain ⟨a, xs, rfl, h2, h3⟩ := r.tup
    exact ⟨a, xs, rfl, .inr ⟨same_t hr.fh h2, k _ H F M _ hr .refl r h1⟩⟩
  · obtain ⟨a, us, ws, rfl, h2, h3, h4⟩ := gW_of hr r (hw fun ds e => c ⟨ds, e⟩)
    obtain ⟨ds, rfl, h5⟩ := gDs_of h4
    refine ⟨a, us, rfl, .inl ⟨SqL.of h2, fun l hl => ?_⟩⟩
    obtain ⟨r2, g2, rz⟩ := hr.tup hl h3.undat
    exact k _ _ _ _ _ r2 g2 rz h5
/-- the items of a row as data -/
@[reducible] def gRow (M : Mem) (x : W) (k : List W → Prop) : Prop := match x with
  | .d (.tuple ds) => k (ds.map W.d)
  | x => gW M x k
theorem gRow_of {F H : Hp} {M : Mem} {v : V} {x : W} {k : List W → Prop} (hr : Rl K F H M) (r : RW K F v x) (h : gRow M x k) : ∃ a vs ws, v = .ref a ∧ (SqL K H a vs ∨ SqT K H a vs) ∧ RWs K F vs ws ∧ k ws := by
  unfold gRow at h
  split at h
  · obtain ⟨a, xs, rfl, h1, h2⟩ := r.tup
    exact ⟨a, xs, _, rfl, .inr (same_t hr.fh h1), .dat h2, h⟩
  · obtain ⟨a, vs, ws, h1, h2, h3, h4⟩ := gW_of hr r h
    exact ⟨a, vs, ws, h1, .inl (SqL.of h2), h3, h4⟩
@[reducible] def fInt : FL := fun xs M R => g1 xs fun x => match x with
  | .d (.bool b) => R (.d (.int (if b then 1 else 0))) M
  | x => gI x fun i => R (.d (.int i)) M
theorem sc_int : SC K (fun xs H Q => (∃ i, xs = [V.int i] ∧ Q (.int i) H) ∨ ∃ k, xs = [.bl k] ∧ Q (.int (if k then 1 else 0)) H) fInt := fun F H M vs xs R Q hr rx hf k => by
  obtain ⟨x, rfl, h1⟩ := g1_of hf
  obtain ⟨v, rfl, r⟩ := rx.one
  have hw : (∀ b, x ≠ .d (.bool b)) → gI x (fun i => R (.d (.int i)) M) := fun hn => by
    cases x with
    | d a =>
      cases a with
      | bool b => exact absurd rfl (hn b)
      | _ => exact h1
    | r a => exact h1
    | o a => exact h1
    | x a C dd fs => exact h1
  by_cases c : ∃ b, x = .d (.bool b)
  · obtain ⟨b, rfl⟩ := c
    exact .inr ⟨b, by rw [r.bl], k _ H F M _ hr .refl (.d (.int _)) h1⟩
  · obtain ⟨i, rfl, h2⟩ := gI_of (hw fun b e => c ⟨b, e⟩)
    exact .inl ⟨i, by rw [r.int], k _ H F M _ hr .refl (.d (.int _)) h2⟩
/-- repr: the text of data -/
def shOk (d : PyData) : Prop := d.showable = true ∧ d.depth ≤ 100 ∧ d.shown.length ≤ sizeLine
@[reducible] def isList : PyData → Bool
  | .list _ => true
  | _ => false
/-! ### isinstance -/
def tyIs (d : PyData) (n : String) : Option Bool :=
  if n = "int" then some (isInt d) else if n = "bool" then some (isBl d) else if n = "str" then some (isStr d) else if n = "tuple" then some (isTup d) else if n = "list" then some (isList d) else none
theorem kit_lst (d : PyData) : kitB (tyName d) "list" = some (isList d) := by cases d <;> (simp only [tyName, isList]; decide +kernel)
theorem tyIs_kit {d : PyData} {n : String} {b : Bool} (h : tyIs d n = some b) : kitB (tyName d) n = some b := by
  unfold tyIs at h
  split at h
  · rename_i e; subst e; rw [← h]; exact kit_int d
  · split at h
    · rename_i e; subst e; rw [← h]; exact kit_bl d
    · split at h
      · rename_i e; subst e; rw [← h]; exact kit_str d
      · split at h
        · rename_i e; subst e; rw [← h]; exact kit_tup d
        · split at h
          · rename_i e; subst e; rw [← h]; exact kit_lst d
          · cases h
theorem ty_dx {H : Hp} {v : V} {d : PyData} (h : Dx K H v d) : TyX K H v (.type (tyName d)) := by
  cases h with
  | non => exact .base .non
  | bl b => exact .base (.bl b)
  | int i => exact .base (.int i)
  | str x => exact .base (.str x)
  | lst hs _ => exact .base (.lst hs)
  | tup hs _ =>
    rcases hs with (h | ⟨o, h⟩) | ⟨o, its, n, h1, h2, _⟩
    · exact .base (.tup h)
    · exact .fTuple h
    · exact .kTuple h1 h2
  | dic h => exact .base (.dK h)
@[reducible] def fIsi : FL := fun xs M R => g2 xs fun x y => match y with
  | .o (.ty n) => (match x with
    | .d a => gO (tyIs a n) fun b => R (.d (.bool b)) M
    | .r a => ∃ ws, M a = some (.lst ws) ∧ gO (tyIs (.list []) n) fun b => R (.d (.bool b)) M
    | _ => False)
  | _ => False
theorem sc_isi : SC K (rIsi K) fIsi := fun F H M vs xs R Q hr rx hf k => by
  obtain ⟨x, y, rfl, h1⟩ := g2_of hf
  obtain ⟨v, u, rfl, r, r'⟩ := rx.two
  cases y with
  | d a => exact h1.elim
  | r a => exact h1.elim
  | x a C dd fs => exact h1.elim
  | o z =>
    cases r'
    cases u with
    | ty n =>
      cases x with
      | o a => exact h1.elim
      | x a C dd fs => exact h1.elim
      | d a =>
        obtain ⟨b, h2, h3⟩ := gO_of h1
        exact ⟨v, .ty n, _, _, b, rfl, .ty n, ty_dx (Dx.mono hr.fh _ _ r.dx), kit_ty (tyIs_kit h2), k _ H F M _ hr .refl (.d (.bl _)) h3⟩
      | r a =>
        obtain ⟨ws, h0, h2⟩ := h1
        obtain ⟨b, h3, h4⟩ := gO_of h2
        obtain ⟨us, h5, h6⟩ := hr.lst h0
        rw [r.ref]
        have hk : kitB "list" n = some b := tyIs_kit (d := .list []) h3
        exact ⟨.ref a, .ty n, .type "list", _, b, rfl, .ty n, .base (.lst h5), kit_ty hk, k _ H F M _ hr .refl (.d (.bl _)) h4⟩
    | _ => exact h1.elim
/-! ### methods of a list that may change -/
/-- a method of a list -/
def SM (K : PySem.W.Frag) (r : V → List V → Hp → VK → Prop) (f : W → List W → Mem → (W → Mem → Prop) → Prop) : Prop := ∀ F H M v vs x xs R Q, Rl K F H M → RW K F v x → RWs K F vs xs → f x xs M R → Kt K F H M R Q → r v vs H Q
@[reducible] def bmL (f : W → List W → Mem → (W → Mem → Prop) → Prop) (T : TDE) (U : TDA) : TDE := fun ρ M R => T ρ M fun x M1 => gR x fun a => (∃ ws, M1 a = some (.lst ws)) ∧ U ρ M1 fun xs M2 => f (.r a) xs M2 R
theorem se_bmL {n : Nat} {r : V → List V → Hp → VK → Prop} {f : W → List W → Mem → (W → Mem → Prop) → Prop} {to : TE} {t : TA} {T : TDE} {U : TDA} (ho : SM K r f) (h1 : SE K Wx RE to T) (h2 : SAn K Wx RE n t U) :
    SE K Wx RE (tBM K "list" r to t) (bmL f T U) := fun F H M σ ρ R Q hr hx hs ht k =>
  h1 F H M σ ρ _ _ hr hx hs ht fun v H1 F1 M1 x r1 g1 rx q1 => by
    obtain ⟨a, rfl, ⟨ws, hw⟩, q2⟩ := gR_of q1
    rw [rx.ref]
    obtain ⟨vs, h3, h4⟩ := r1.lst hw
    refine ⟨.inl ⟨rfl, _, SqL.of h3⟩, h2 F1 H1 M1 σ ρ _ _ r1 (hx.mono g1) (hs.mono g1.ff) q2 fun us H2 F2 M2 xs r2 g2 rxs hl q3 => ?_⟩
    exact ho F2 H2 M2 _ us _ xs R Q r2 (.r a) rxs q3 fun w H3 F3 M3 z r3 g3 rz hz => k w H3 F3 M3 z r3 ((g1.trans g2).trans g3) rz hz
@[reducible] def fAppend : W → List W → Mem → (W → Mem → Prop) → Prop := fun x xs M R => gR x fun a => g1 xs fun y => ∃ ws, M a = some (.lst ws) ∧ ws.length < sizeLine ∧ R (.d .none) (mset M a (.lst (ws ++ [y])))
theorem sm_append : SM K rAppend fAppend := fun F H M v vs x xs R Q hr rx rxs hf k => by
  obtain ⟨a, rfl, h1⟩ := gR_of hf
  obtain ⟨y, rfl, ws, h2, hz, h3⟩ := g1_of h1
  obtain ⟨u, rfl, ry⟩ := rxs.one
  obtain ⟨us, h4, h5⟩ := hr.lst h2
  rw [rx.ref]
  refine ⟨a, us, u, rfl, rfl, h4, by rw [h5.len]; exact hz, ?_⟩
  obtain ⟨r2, g2⟩ := hr.put (u := .lst (us ++ [u])) (o := .lst (ws ++ [y])) h2 ⟨_, rfl, h5.app (.cons ry .nil)⟩
  exact k _ _ _ _ _ r2 g2 (.d .non) h3
@[reducible] def fExtend : W → List W → Mem → (W → Mem → Prop) → Prop := fun x xs M R => gR x fun a => g1 xs fun y => ∃ ws, M a = some (.lst ws) ∧ gW M y fun zs => ws.length + zs.length ≤ sizeLine ∧ R (.d .none) (mset M a (.lst (ws ++ zs)))
theorem sm_extend : SM K rExtend fExtend := fun F H M v vs x xs R Q hr rx rxs hf k => by
  obtain ⟨a, rfl, h1⟩ := gR_of hf
  obtain ⟨y, rfl, ws, h2, h3⟩ := g1_of h1
  obtain ⟨u, rfl, ry⟩ := rxs.one
  obtain ⟨us, h4, h5⟩ := hr.lst h2
  obtain ⟨b, zv, zs, rfl, h6, h7, hz, h8⟩ := gW_of hr ry h3
  rw [rx.ref]
  refine ⟨a, b, us, zv, rfl, rfl, h4, h6, by rw [h5.len, h7.len]; exact hz, ?_⟩
  obtain ⟨r2, g2⟩ := hr.put (u := .lst (us ++ zv)) (o := .lst (ws ++ zs)) h2 ⟨_, rfl, h5.app h7⟩
  exact k _ _ _ _ _ r2 g2 (.d .non) h8
/-! ### calls of defs -/
abbrev TF := List W → Mem → (W → Mem → Prop) → (Ex → Mem → Prop) → Prop
/-- the promise of a def by the second layer -/
def spD (K : PySem.W.Frag) (n : Nat) (f : TF) : Sp := fun vs H Q E => ∃ F M ws R RX, Rl K F H M ∧ RWs K F vs ws ∧ ws.length = n ∧ f ws M R RX ∧ Kt K F H M R Q ∧
  ∀ cls d H' F' M' x, Rl K F' H' M' → Gr F H M F' H' M' → XRel K F' cls d x → RX x M' → E cls d H'
@[reducible] def callT (f : TF) (T : TDA) : TDE := fun ρ M R => T ρ M fun xs M1 => f xs M1 R fun _ _ => False
@[reducible] def callX (RE : REx) (f : TF) (T : TDA) : TDE := fun ρ M R => T ρ M fun xs M1 => f xs M1 R fun x M' => RE x ρ M'
theorem se_call {n : Nat} {f : TF} {E : XK} {t : TA} {T : TDA} (h : SAn K Wx RE n t T) : SE K Wx RE (tCall (spD K n f) [] E t) (callT f T) := fun F H M σ ρ R Q hr hx hs ht k =>
  h F H M σ ρ _ _ hr hx hs ht fun vs H1 F1 M1 xs r1 g1 rxs hl h1 => by
    show spD K n f (vs ++ []) H1 Q E
    rw [List.append_nil]
    exact ⟨F1, M1, xs, R, _, r1, rxs, hl, h1, fun w H2 F2 M2 z r2 g2 rz hz => k w H2 F2 M2 z r2 (g1.trans g2) rz hz, fun cls d H' F' M' x _ _ _ z => z.elim⟩
theorem se_callX {n : Nat} {f : TF} {t : TA} {T : TDA} (h : SAn K Wx RE n t T) : SE K Wx RE (tCallS (spD K n f) (WE Wx) t) (callX RE f T) := fun F H M σ ρ R Q hr hx hs ht k =>
  h F H M σ ρ _ _ hr hx hs ht fun vs H1 F1 M1 xs r1 g1 rxs hl h1 =>
    ⟨F1, M1, xs, R, _, r1, rxs, hl, h1, fun w H2 F2 M2 z r2 g2 rz hz => k w H2 F2 M2 z r2 (g1.trans g2) rz hz, fun cls d H' F' M' x r2 g2 xr z => hx F' H' M' σ ρ cls d x (g1.trans g2) r2 (hs.mono (g1.trans g2).ff) xr z⟩
end
end Tl
set_option Elab.async false
set_option linter.all false
set_option maxRecDepth 100000
set_option maxHeartbeats 4000000
namespace Tl
open PySem L2
/-! ### what is walked -/
/-- one turn's item: one thing as it stands, or a pair that is made for it -/
def Yd (K : PySem.W.Frag) (F H : Hp) (x : V) (H' : Hp) (row : List W) (pair : Bool) : Prop :=
  if pair = true then ∃ T v1 v2 w1 w2, row = [w1, w2] ∧ x = .ref T ∧ H T = none ∧ H' = upd H T (.tup [v1, v2]) ∧ RW K F v1 w1 ∧ RW K F v2 w2
  else ∃ w, row = [w] ∧ H' = H ∧ RW K F x w
def ItOk (K : PySem.W.Frag) (F H : Hp) (M : Mem) (J : It) (rows : List (List W)) (keep : Mem → Prop) (pair : Bool) : Prop :=
  ∃ (G : Hp → Prop) (Y : Nat → Hp → V → Hp → Prop), Walk J rows.length G Y ∧ (∀ F2 H2 M2, Rl K F2 H2 M2 → Gr F H M F2 H2 M2 → keep M2 → G H2) ∧
    ∀ i x H2 H3 F2 M2 row, rows[i]? = some row → Rl K F2 H2 M2 → Gr F H M F2 H2 M2 → keep M2 → Y i H2 x H3 → Yd K F2 H2 x H3 row pair
theorem ItOk.of {K : PySem.W.Frag} {F H : Hp} {M : Mem} {J : It} {rows : List (List W)} {keep : Mem → Prop} {pair : Bool} {n : Nat} {G : Hp → Prop} {Y : Nat → Hp → V → Hp → Prop} (wk : Walk J n G Y) (hn : rows.length = n)
    (hG : ∀ F2 H2 M2, Rl K F2 H2 M2 → Gr F H M F2 H2 M2 → keep M2 → G H2) (hY : ∀ i x H2 H3 F2 M2 row, rows[i]? = some row → Rl K F2 H2 M2 → Gr F H M F2 H2 M2 → keep M2 → Y i H2 x H3 → Yd K F2 H2 x H3 row pair) : ItOk K F H M J rows keep pair :=
  ⟨G, Y, by rw [hn]; exact wk, hG, hY⟩
abbrev TDI := EnvD → Mem → (List (List W) → (Mem → Prop) → Mem → Prop) → Prop
def SI (K : PySem.W.Frag) (Wx : WX) (RE : REx) (wi : TI) (pair : Bool) (T : TDI) : Prop :=
  ∀ F H M σ ρ (R : List (List W) → (Mem → Prop) → Mem → Prop) (Q : It → Hp → Prop), Rl K F H M → XOk K F H M Wx RE → RelS K F σ ρ → T ρ M R →
    (∀ J H' F' M' rows keep, Rl K F' H' M' → Gr F H M F' H' M' → ItOk K F' H' M' J rows keep pair → R rows keep M' → Q J H') → wi σ H Q
abbrev TDG := List W → EnvD → Mem → (EnvD → Mem → Prop) → Prop
/-- binding a turn's item: the slots vs alone are changed -/
def SG (K : PySem.W.Frag) (g : TG) (pair : Bool) (vs : List Nat) (b : TDG) : Prop :=
  ∀ F H M x H' row σ ρ (R : EnvD → Mem → Prop) (Q : L2.St → Hp → Prop), Rl K F H M → Yd K F H x H' row pair → RelS K F σ ρ → b row ρ M R →
    (∀ σ' H2 F2 M2 ρ', Rl K F2 H2 M2 → Gr F H M F2 H2 M2 → RelS K F2 σ' ρ' → (wipe σ' vs = wipe σ vs) → R ρ' M2 → Q σ' H2) → g x σ H' Q
section
variable {K : PySem.W.Frag} {Wx : WX} {RE : REx}
@[reducible] def any1 : Mem → Prop := fun _ => True
@[reducible] def rows1 (ws : List W) : List (List W) := ws.map fun w => [w]
/-- over a tuple -/
@[reducible] def itTup (T : TDE) : TDI := fun ρ M R => T ρ M fun x M1 => gT x fun ds => R (rows1 (ds.map W.d)) any1 M1
/-- over a list of data -/
@[reducible] def itLst (T : TDE) : TDI := fun ρ M R => T ρ M fun x M1 => match x with
  | .d (.list ds) => R (rows1 (ds.map W.d)) any1 M1
  | .r a => ∃ ws, M1 a = some (.lst ws) ∧ R (rows1 ws) (fun M => M a = some (.lst ws)) M1
  | _ => False
theorem rows1_get {ws : List W} {i : Nat} {row : List W} (h : (rows1 ws)[i]? = some row) : ∃ w, ws[i]? = some w ∧ row = [w] := by
  unfold rows1 at h
  rw [List.getElem?_map] at h
  obtain ⟨w, h1, h2⟩ := Option.map_eq_some_iff.mp h
  exact ⟨w, h1, h2.symm⟩
theorem si_tup {t : TE} {T : TDE} (h : SE K Wx RE t T) : SI K Wx RE (iTup K t) false (itTup T) := fun F H M σ ρ R Q hr hx hs ht k =>
  h F H M σ ρ _ _ hr hx hs ht fun v H1 F1 M1 x r1 g1 rx h1 => by
    obtain ⟨ds, rfl, h2⟩ := gT_of h1
    obtain ⟨a, xs, rfl, h3, h4⟩ := rx.tup
    refine ⟨a, rfl, ⟨xs, same_t r1.fh h3⟩, k _ H1 F1 M1 _ _ r1 g1 ?_ h2⟩
    refine ItOk.of (walk_tup (K := K) (a := a) (xs := xs)) (by unfold rows1; rw [List.length_map, List.length_map, h4.len]) (fun F2 H2 M2 r2 g2 _ => same_t (g2.ff.trans r2.fh) h3) (fun i x H2 H3 F2 M2 row hrow r2 g2 _ y => ?_)
    · obtain ⟨w, hw, rfl⟩ := rows1_get hrow
      rw [List.getElem?_map] at hw
      obtain ⟨d, hd, rfl⟩ := Option.map_eq_some_iff.mp hw
      obtain ⟨v, hv, dv⟩ := h4.got hd
      obtain ⟨rfl, hy⟩ := y
      rw [hv] at hy
      cases hy
      exact ⟨_, rfl, rfl, .d (Dx.mono g2.ff _ _ dv)⟩
theorem si_lst {t : TE} {T : TDE} (h : SE K Wx RE t T) : SI K Wx RE (iList K t) false (itLst T) := fun F H M σ ρ R Q hr hx hs ht k =>
  h F H M σ ρ _ _ hr hx hs ht fun v H1 F1 M1 x r1 g1 rx h1 => by
    cases x with
    | o a => exact h1.elim
    | x a C dd fs => exact h1.elim
    | d a =>
      cases a with
      | list ds =>
        obtain ⟨a, xs, rfl, h3, h4⟩ := rx.lst
        refine ⟨a, rfl, ⟨xs, SqL.of (r1.fh _ _ h3)⟩, k _ H1 F1 M1 _ _ r1 g1 ?_ h1⟩
        refine ItOk.of (walk_list (K := K) (a := a) (xs := xs)) (by unfold rows1; rw [List.length_map, List.length_map, h4.len]) (fun F2 H2 M2 r2 g2 _ => SqL.of ((g2.ff.trans r2.fh) _ _ h3)) (fun i x H2 H3 F2 M2 row hrow r2 g2 _ y => ?_)
        · obtain ⟨w, hw, rfl⟩ := rows1_get hrow
          rw [List.getElem?_map] at hw
          obtain ⟨d, hd, rfl⟩ := Option.map_eq_some_iff.mp hw
          obtain ⟨v, hv, dv⟩ := h4.got hd
          obtain ⟨rfl, hy⟩ := y
          rw [hv] at hy
          cases hy
          exact ⟨_, rfl, rfl, .d (Dx.mono g2.ff _ _ dv)⟩
      | _ => exact h1.elim
    | r a =>
      obtain ⟨ws, hw, h2⟩ := h1
      rw [rx.ref]
      obtain ⟨xs, h3, h4⟩ := r1.lst hw
      refine ⟨a, rfl, ⟨xs, SqL.of h3⟩, k _ H1 F1 M1 _ _ r1 g1 ?_ h2⟩
      refine ⟨fun H => ∃ vs, H a = some (.lst vs) ∧ vs.length = ws.length, fun i H x H' => H' = H ∧ ∀ vs, H a = some (.lst vs) → vs[i]? = some x, ?_, fun F2 H2 M2 r2 g2 hk => ?_, fun i x H2 H3 F2 M2 row hrow r2 g2 hk y => ?_⟩
      · have el : (rows1 ws).length = ws.length := by unfold rows1; rw [List.length_map]
        rw [el]
        refine ⟨fun i H hi ⟨vs, q1, q2⟩ => ⟨vs, vs[i]'(by omega), SqL.of q1, List.getElem?_eq_getElem _⟩, fun H ⟨vs, q1, q2⟩ => ⟨vs, SqL.of q1, by omega⟩, fun i H x H' hi ⟨vs, q1, q2⟩ y => ⟨y.1, fun us hu => y.2 us (SqL.of hu)⟩⟩
      · obtain ⟨vs, q1, q2⟩ := r2.lst hk
        exact ⟨vs, q1, q2.len⟩
      · obtain ⟨w, hw, rfl⟩ := rows1_get hrow
        obtain ⟨vs, q1, q2⟩ := r2.lst hk
        obtain ⟨v, hv, rv⟩ := q2.got hw
        obtain ⟨rfl, hy⟩ := y
        have := hy vs q1
        rw [hv] at this
        cases this
        exact ⟨_, rfl, rfl, rv⟩
/-- over a text -/
def signs (z : Str) : List W := z.cps.toList.map fun c => W.d (.str ⟨#[c]⟩)
@[reducible] def itStr (T : TDE) : TDI := fun ρ M R => T ρ M fun x M1 => gS x fun z => R (rows1 (signs z)) any1 M1
theorem si_str {t : TE} {T : TDE} (h : SE K Wx RE t T) : SI K Wx RE (iStr t) false (itStr T) := fun F H M σ ρ R Q hr hx hs ht k =>
  h F H M σ ρ _ _ hr hx hs ht fun v H1 F1 M1 x r1 g1 rx h1 => by
    obtain ⟨z, rfl, h2⟩ := gS_of h1
    refine ⟨z, rx.str, k _ H1 F1 M1 _ _ r1 g1 ?_ h2⟩
    refine ItOk.of (walk_str (z := z)) (by unfold rows1 signs; rw [List.length_map, List.length_map]; rfl) (fun F2 H2 M2 r2 g2 _ => True.intro) (fun i x H2 H3 F2 M2 row hrow r2 g2 _ y => ?_)
    · obtain ⟨w, hw, rfl⟩ := rows1_get hrow
      unfold signs at hw
      rw [List.getElem?_map] at hw
      obtain ⟨c, hc, rfl⟩ := Option.map_eq_some_iff.mp hw
      obtain ⟨rfl, c', hc', rfl⟩ := y
      rw [Array.getElem?_toList, hc'] at hc
      cases hc
      exact ⟨_, rfl, rfl, .d (.str _)⟩
/-- over a range -/
def rng (lo : Int) (n : Nat) : List W := (List.range n).map fun i => W.d (.int (lo + (i : Nat)))
def rngC (lo c : Int) (n : Nat) : List W := (List.range n).map fun i => W.d (.int (lo + (i : Nat) * c))
/-- small enough for a range -/
def Sm (i : Int) : Prop := -(2 ^ 62) ≤ i ∧ i < 2 ^ 62
theorem sm_of {i : Int} (h1 : -1000000000 ≤ i) (h2 : i ≤ 1000000000) : Sm i := ⟨by omega, by omega⟩
@[reducible] def itR1 (T : TDA) : TDI := fun ρ M R => T ρ M fun xs M1 => g1 xs fun x => gI x fun j => Sm j ∧ R (rows1 (rng 0 j.toNat)) any1 M1
@[reducible] def itR2 (T : TDA) : TDI := fun ρ M R => T ρ M fun xs M1 => g2 xs fun x y => gI x fun i => gI y fun j => (Sm i ∧ Sm j) ∧ R (rows1 (rng i (j - i).toNat)) any1 M1
theorem rng_ok {F H : Hp} {M : Mem} {lo : Int} {n : Nat} : ItOk K F H M (Itr lo n) (rows1 (rng lo n)) any1 false := by
  refine ItOk.of (walk_range (lo := lo) (n := n)) (by unfold rows1 rng; rw [List.length_map, List.length_map, List.length_range]) (fun F2 H2 M2 r2 g2 _ => True.intro) (fun i x H2 H3 F2 M2 row hrow r2 g2 _ y => ?_)
  · obtain ⟨w, hw, rfl⟩ := rows1_get hrow
    unfold rng at hw
    rw [List.getElem?_map] at hw
    obtain ⟨c, hc, rfl⟩ := Option.map_eq_some_iff.mp hw
    have e : c = i := by
      obtain ⟨h1, h2⟩ := List.getElem?_eq_some_iff.mp hc
      rw [← h2]
      simp
    subst e
    obtain ⟨rfl, rfl⟩ := y
    exact ⟨_, rfl, rfl, .d (.int _)⟩
theorem si_r1 {t : TA} {T : TDA} {n : Nat} (h : SAn K Wx RE n t T) : SI K Wx RE (iRng1 t) false (itR1 T) := fun F H M σ ρ R Q hr hx hs ht k =>
  h F H M σ ρ _ _ hr hx hs ht fun vs H1 F1 M1 xs r1 g1 rxs hl h1 => by
    obtain ⟨x, rfl, h2⟩ := g1_of h1
    obtain ⟨j, rfl, ⟨c1, c2⟩, h3⟩ := gI_of h2
    obtain ⟨v, rfl, rv⟩ := rxs.one
    exact ⟨j, by rw [rv.int], c1, c2, k _ H1 F1 M1 _ _ r1 g1 rng_ok h3⟩
theorem si_r2 {t : TA} {T : TDA} {n : Nat} (h : SAn K Wx RE n t T) : SI K Wx RE (iRng2 t) false (itR2 T) := fun F H M σ ρ R Q hr hx hs ht k =>
  h F H M σ ρ _ _ hr hx hs ht fun vs H1 F1 M1 xs r1 g1 rxs hl h1 => by
    obtain ⟨x, y, rfl, h2⟩ := g2_of h1
    obtain ⟨i, rfl, h3⟩ := gI_of h2
    obtain ⟨j, rfl, c, h4⟩ := gI_of h3
    obtain ⟨v, u, rfl, rv, ru⟩ := rxs.two
    exact ⟨i, j, by rw [rv.int, ru.int], ⟨c.1.1, c.1.2, c.2.1, c.2.2⟩, k _ H1 F1 M1 _ _ r1 g1 rng_ok h4⟩
/-- enumerate(..) -/
def enumR (n : Nat) : List W → List (List W)
  | [] => []
  | w :: r => [.d (.int (n : Nat)), w] :: enumR (n + 1) r
theorem enumR_len : ∀ (n : Nat) (ws : List W), (enumR n ws).length = ws.length
  | _, [] => rfl
  | n, w :: r => by rw [enumR, List.length_cons, enumR_len (n + 1) r, List.length_cons]
theorem enumR_get : ∀ {n : Nat} {ws : List W} {i : Nat} {row : List W}, (enumR n ws)[i]? = some row → ∃ w, ws[i]? = some w ∧ row = [.d (.int ((n + i : Nat) : Int)), w]
  | _, [], _, _, h => by simp [enumR] at h
  | n, w :: r, 0, row, h => ⟨w, rfl, by simp [enumR] at h; exact h.symm⟩
  | n, w :: r, i + 1, row, h => by
    obtain ⟨w', h1, h2⟩ := enumR_get (n := n + 1) (ws := r) (i := i) (row := row) (by simpa [enumR] using h)
    exact ⟨w', by simpa using h1, by rw [h2, show n + 1 + i = n + (i + 1) by omega]⟩
@[reducible] def itEnT (T : TDA) : TDI := fun ρ M R => T ρ M fun xs M1 => g1 xs fun x => gT x fun ds => R (enumR 0 (ds.map W.d)) any1 M1
@[reducible] def itEnL (T : TDA) : TDI := fun ρ M R => T ρ M fun xs M1 => g1 xs fun x => match x with
  | .d (.list ds) => R (enumR 0 (ds.map W.d)) any1 M1
  | .r a => ∃ ws, M1 a = some (.lst ws) ∧ R (enumR 0 ws) (fun M => M a = some (.lst ws)) M1
  | _ => False
theorem si_enT {n : Nat} {t : TA} {T : TDA} (h : SAn K Wx RE n t T) : SI K Wx RE (iEnumT K t) true (itEnT T) := fun F H M σ ρ R Q hr hx hs ht k =>
  h F H M σ ρ _ _ hr hx hs ht fun vs H1 F1 M1 xs r1 g1 rxs hl h1 => by
    obtain ⟨x, rfl, h2⟩ := g1_of h1
    obtain ⟨v, rfl, rx⟩ := rxs.one
    obtain ⟨ds, rfl, h5⟩ := gT_of h2
    obtain ⟨a, xs, rfl, h3, h4⟩ := rx.tup
    refine ⟨a, xs, rfl, same_t r1.fh h3, k _ H1 F1 M1 _ _ r1 g1 ?_ h5⟩
    refine ItOk.of (walk_enumT (K := K) (a := a) (xs := xs)) (by rw [enumR_len, List.length_map, ← h4.len]) (fun F2 H2 M2 r2 g2 _ => same_t (g2.ff.trans r2.fh) h3) (fun i x H2 H3 F2 M2 row hrow r2 g2 _ y => ?_)
    · obtain ⟨w, hw, rfl⟩ := enumR_get hrow
      rw [List.getElem?_map] at hw
      obtain ⟨d, hd, rfl⟩ := Option.map_eq_some_iff.mp hw
      obtain ⟨v, hv, dv⟩ := h4.got hd
      obtain ⟨T', x', rfl, hT, rfl, hy⟩ := y
      rw [hv] at hy
      cases hy
      refine ⟨T', _, _, _, _, rfl, rfl, hT, rfl, ?_, .d (Dx.mono g2.ff _ _ dv)⟩
      rw [Nat.zero_add]
      exact .d (.int _)
theorem si_enL {n : Nat} {t : TA} {T : TDA} (h : SAn K Wx RE n t T) : SI K Wx RE (iEnum K t) true (itEnL T) := fun F H M σ ρ R Q hr hx hs ht k =>
  h F H M σ ρ _ _ hr hx hs ht fun vs H1 F1 M1 xs r1 g1 rxs hl h1 => by
    obtain ⟨x, rfl, h2⟩ := g1_of h1
    obtain ⟨v, rfl, rx⟩ := rxs.one
    have wk : ∀ (a : Addr) (n : Nat), Walk (Ite K a) n (fun H => ∃ vs, H a = some (.lst vs) ∧ vs.length = n) (fun i H v H' => ∃ T x, v = .ref T ∧ H T = none ∧ H' = upd H T (.tup [.int (i : Nat), x]) ∧ ∀ vs, H a = some (.lst vs) → vs[i]? = some x) := fun a n =>
      ⟨fun i H hi ⟨vs, q1, q2⟩ => ⟨vs, vs[i]'(by omega), SqL.of q1, List.getElem?_eq_getElem _⟩, fun H ⟨vs, q1, q2⟩ => ⟨vs, SqL.of q1, by omega⟩, fun i H x H' hi ⟨vs, q1, q2⟩ y => by
        obtain ⟨T, x', e1, e2, e3, e4⟩ := y
        exact ⟨T, x', e1, e2, e3, fun us hu => e4 us (SqL.of hu)⟩⟩
    cases x with
    | o a => exact h2.elim
    | x a C dd fs => exact h2.elim
    | d a =>
      cases a with
      | list ds =>
        obtain ⟨a, xs, rfl, h3, h4⟩ := rx.lst
        refine ⟨a, xs, rfl, SqL.of (r1.fh _ _ h3), k _ H1 F1 M1 _ _ r1 g1 ?_ h2⟩
        refine ItOk.of (wk a ds.length) (by rw [enumR_len, List.length_map]) (fun F2 H2 M2 r2 g2 _ => ⟨xs, (g2.ff.trans r2.fh) _ _ h3, h4.len⟩) (fun i x H2 H3 F2 M2 row hrow r2 g2 _ y => ?_)
        obtain ⟨w, hw, rfl⟩ := enumR_get hrow
        rw [List.getElem?_map] at hw
        obtain ⟨d, hd, rfl⟩ := Option.map_eq_some_iff.mp hw
        obtain ⟨v, hv, dv⟩ := h4.got hd
        obtain ⟨T', x', rfl, hT, rfl, hy⟩ := y
        have := hy xs ((g2.ff.trans r2.fh) _ _ h3)
        rw [hv] at this
        cases this
        refine ⟨T', _, _, _, _, rfl, rfl, hT, rfl, ?_, .d (Dx.mono g2.ff _ _ dv)⟩
        rw [Nat.zero_add]
        exact .d (.int _)
      | _ => exact h2.elim
    | r a =>
      obtain ⟨ws, hw, h3⟩ := h2
      rw [rx.ref]
      obtain ⟨xs, h4, h5⟩ := r1.lst hw
      refine ⟨a, xs, rfl, SqL.of h4, k _ H1 F1 M1 _ _ r1 g1 ?_ h3⟩
      refine ItOk.of (wk a ws.length) (by rw [enumR_len]) (fun F2 H2 M2 r2 g2 hk => ?_) (fun i x H2 H3 F2 M2 row hrow r2 g2 hk y => ?_)
      · obtain ⟨vs, q1, q2⟩ := r2.lst hk
        exact ⟨vs, q1, q2.len⟩
      · obtain ⟨w, hw, rfl⟩ := enumR_get hrow
        obtain ⟨vs, q1, q2⟩ := r2.lst hk
        obtain ⟨v, hv, rv⟩ := q2.got hw
        obtain ⟨T', x', rfl, hT, rfl, hy⟩ := y
        have := hy vs q1
        rw [hv] at this
        cases this
        refine ⟨T', _, _, _, _, rfl, rfl, hT, rfl, ?_, rv⟩
        rw [Nat.zero_add]
        exact .d (.int _)
/-! ### binding -/
@[reducible] def bName (i : Nat) : TDG := fun row ρ M R => match row with | [w] => R (put ρ i (some w)) M | _ => False
theorem sg_name {i : Nat} : SG K (gName i) false [i] (bName i) := fun F H M x H' row σ ρ R Q hr hy hs hb k => by
  obtain ⟨w, rfl, rfl, rx⟩ := hy
  refine k _ _ F M _ hr .refl (hs.set rx i) ?_ hb
  show (σ.set i (some x)).set i none = σ.set i none
  rw [List.set_set]
/-- a pair that is made for the turn -/
@[reducible] def bPair (i j : Nat) : TDG := fun row ρ M R => match row with | [w1, w2] => R (put (put ρ i (some w1)) j (some w2)) M | _ => False
theorem wipe2 {σ : L2.St} {i j : Nat} {a b : Option V} : wipe ((σ.set i a).set j b) [i, j] = wipe σ [i, j] := by
  show (((σ.set i a).set j b).set j none).set i none = (σ.set j none).set i none
  rw [List.set_set]
  by_cases h : i = j
  · subst h
    rw [List.set_set, List.set_set, List.set_set]
  · rw [List.set_comm _ _ h, List.set_set]
theorem sg_pair {i j : Nat} : SG K (gTup K 2 (gCons (gName i) (gCons (gName j) gNil))) true [i, j] (bPair i j) := fun F H M x H' row σ ρ R Q hr hy hs hb k => by
  obtain ⟨T, v1, v2, w1, w2, rfl, rfl, hT, rfl, q1, q2⟩ := hy
  obtain ⟨r2, g2⟩ := hr.same (same_new (o := .tup [v1, v2]) hT)
  refine ⟨T, [v1, v2], rfl, .inl (.inl upd_same), rfl, v1, [v2], rfl, v2, [], rfl, rfl, ?_⟩
  exact k _ _ F M _ r2 g2 ((hs.set q1 i).set q2 j) wipe2 hb
/-- a tuple that stands there: two names -/
@[reducible] def bTup2 (i j : Nat) : TDG := fun row ρ M R => match row with | [w] => gT w fun ds => (match ds with | [a, b] => R (put (put ρ i (some (.d a))) j (some (.d b))) M | _ => False) | _ => False
theorem sg_tup2 {i j : Nat} : SG K (gTup K 2 (gCons (gName i) (gCons (gName j) gNil))) false [i, j] (bTup2 i j) := fun F H M x H' row σ ρ R Q hr hy hs hb k => by
  obtain ⟨w, rfl, rfl, rx⟩ := hy
  obtain ⟨ds, rfl, h1⟩ := gT_of hb
  obtain ⟨a, xs, rfl, h2, h3⟩ := rx.tup
  split at h1
  · rename_i c d
    cases h3 with
    | cons q1 h3 =>
    cases h3 with
    | cons q2 h3 =>
    cases h3
    refine ⟨a, _, rfl, same_t hr.fh h2, rfl, _, _, rfl, _, [], rfl, rfl, ?_⟩
    exact k _ _ F M _ hr .refl ((hs.set (.d q1) i).set (.d q2) j) wipe2 h1
  · exact h1.elim
/-! ### list comprehensions -/
/-- one after another; behind all the new list -/
def lcGo (b : TDG) (keep : Mem → Prop) (tt : TDT) (te : TDE) (ρ : EnvD) (fin : List W → Mem → Prop) : List (List W) → List W → Mem → Prop
  | [], acc, M => keep M ∧ fin acc M
  | row :: rest, acc, M => keep M ∧ b row ρ M fun ρ1 M1 => tt ρ1 M1 fun c M2 => IfB c (te ρ1 M2 fun y M3 => acc.length < sizeLine ∧ lcGo b keep tt te ρ fin rest (acc ++ [y]) M3) (lcGo b keep tt te ρ fin rest acc M2)
theorem wipe_wipe : ∀ (vs : List Nat) (σ : L2.St), vs.length ≤ 2 → wipe (wipe σ vs) vs = wipe σ vs
  | [], σ, _ => rfl
  | [a], σ, _ => by
    show (σ.set a none).set a none = σ.set a none
    rw [List.set_set]
  | [a, b], σ, _ => by
    show (((σ.set b none).set a none).set b none).set a none = (σ.set b none).set a none
    by_cases h : a = b
    · subst h
      rw [List.set_set, List.set_set, List.set_set]
    · rw [List.set_comm _ _ h, List.set_set, List.set_set]
  | _ :: _ :: _ :: _, _, h => by simp at h
theorem RelS.wipe {F : Hp} {σ : L2.St} {ρ : EnvD} (h : RelS K F σ ρ) : ∀ (vs : List Nat), (∀ i ∈ vs, slot ρ i = none) → RelS K F (L2.wipe σ vs) ρ
  | [], _ => h
  | v :: vs, hn => by
    have ih := h.wipe vs fun i hi => hn i (.tail _ hi)
    refine ⟨by rw [wipe_length]; exact h.len, fun i x c => ?_⟩
    obtain ⟨u, h1, h2⟩ := ih.at_ i x c
    refine ⟨u, ?_, h2⟩
    show ((L2.wipe σ vs).set v none)[i]? = _
    rw [List.getElem?_set_ne fun z => by rw [z] at hn; have := hn i (.head _); rw [c] at this; cases this]
    exact h1
/-- the slots of a comprehension's own names forgotten -/
@[reducible] def hide (ρ : EnvD) : List Nat → EnvD
  | [] => ρ
  | v :: vs => put (hide ρ vs) v none
theorem hide_rel {F : Hp} {σ : L2.St} {ρ : EnvD} (h : RelS K F σ ρ) : ∀ vs, RelS K F (L2.wipe σ vs) (hide ρ vs)
  | [] => h
  | v :: vs => (hide_rel h vs).del v none
theorem lc_core {wi : TI} {g : TG} {tt : TT} {te : TE} {vs : List Nat} {pair : Bool} {it : TDI} {b : TDG} {Tt : TDT} {Te : TDE} (hi : SI K Wx RE wi pair it) (hg : SG K g pair vs b) (ht : ST K (fun _ _ _ _ => False) (fun _ _ _ => False) tt Tt) (he : SE K (fun _ _ _ _ => False) (fun _ _ _ => False) te Te) (hv : vs.length ≤ 2)
    (fin : (W → Mem → Prop) → List W → Mem → Prop)
    (hf : ∀ F H M R Q D acc vl, Rl K F H M → H D = some (.lst vl) → F D = none → M D = none → RWs K F vl acc → fin R acc M → (∀ F0 H0 M0, Gr F0 H0 M0 F H M → H0 D = none → Kt K F0 H0 M0 R Q → Q (.ref D) H)) :
    SE K Wx RE (tLc wi g tt te vs) (fun ρ M R => it ρ M fun rows keep M1 => lcGo b keep Tt Te (hide ρ vs) (fin R) rows [] M1) := fun F H M σ ρ R Q hr hx hs hT k =>
  hi F H M σ ρ _ _ hr hx hs hT fun J H1 F1 M1 rows keep r1 g1 iok h1 D hD => by
    obtain ⟨G, Y, wk, hG, hY⟩ := iok
    have x0 : ∀ (F H : Hp) (M : Mem), XOk K F H M (fun _ _ _ _ => False) (fun _ _ _ => False) := fun F H M F' H' M' σ ρ cls d x _ _ _ _ z => z
    refine lc_it wk (fun i H2 => ∃ F2 M2 acc vl, Rl K F2 H2 M2 ∧ Gr F1 H1 M1 F2 H2 M2 ∧ H2 D = some (.lst vl) ∧ F2 D = none ∧ M2 D = none ∧ RWs K F2 vl acc ∧ lcGo b keep Tt Te (hide ρ vs) (fin R) (rows.drop i) acc M2)
      ⟨F1, M1, [], [], (r1.hid (r1.fh.free hD) (r1.new hD)), ⟨Same.refl _, fun c u q n => ⟨by rw [upd_ne (ne_of_none q hD)]; exact q, n⟩, fun _ _ _ _ f => f⟩, upd_same, r1.fh.free hD, r1.new hD, .nil, h1⟩
      (fun i H2 hi2 ⟨F2, M2, acc, vl, r2, g2, d1, d2, d3, d4, q⟩ => ?_) (fun i x H2 H3 hi2 ⟨F2, M2, acc, vl, r2, g2, d1, d2, d3, d4, q⟩ y => ?_) (fun H2 ⟨F2, M2, acc, vl, r2, g2, d1, d2, d3, d4, q⟩ => ?_)
    · have hk : keep M2 := by
        cases hd : rows.drop i with
        | nil => rw [hd] at q; exact q.1
        | cons a b => rw [hd] at q; exact q.1
      exact hG F2 H2 M2 r2 g2 hk
    · rw [List.drop_eq_getElem_cons hi2] at q
      obtain ⟨hk, q⟩ := q
      have hrow : rows[i]? = some rows[i] := List.getElem?_eq_getElem hi2
      have yd := hY i x H2 H3 F2 M2 _ hrow r2 g2 hk y
      have rel := (hs.mono (g1.trans g2).ff)
      refine hg F2 H2 M2 x H3 _ (wipe σ vs) (hide ρ vs) _ _ r2 yd (hide_rel rel vs) q fun σ4 H4 F4 M4 ρ4 r4 g4 s4 w4 q4 => ⟨by rw [w4]; exact wipe_wipe vs σ hv, ?_⟩
      have D4 : H4 D = some (.lst vl) ∧ M4 D = none := g4.un D _ d1 d3
      have F4D : F4 D = none := g4.nf D _ d1 d3 d2
      refine ht F4 H4 M4 σ4 ρ4 _ _ r4 (x0 _ _ _) s4 q4 fun c H5 F5 M5 r5 g5 q5 => ?_
      have D5 := g5.un D _ D4.1 D4.2
      have F5D := g5.nf D _ D4.1 D4.2 F4D
      have q5 := q5.ite
      by_cases hc : c = true
      · rw [if_pos hc] at q5 ⊢
        refine he F5 H5 M5 σ4 ρ4 _ _ r5 (x0 _ _ _) (s4.mono g5.ff) q5 fun v6 H6 F6 M6 z6 r6 g6 rz6 q6 => ?_
        have D6 := g6.un D _ D5.1 D5.2
        have F6D := g6.nf D _ D5.1 D5.2 F5D
        have gg := ((g4.trans g5).trans g6)
        refine ⟨vl, D6.1, by rw [d4.len]; exact q6.1, F6, M6, acc ++ [z6], vl ++ [v6], r6.hid F6D D6.2, ?_, upd_same, F6D, D6.2, (d4.mono gg.ff).app (.cons rz6 .nil), q6.2⟩
        have g7 := g2.trans gg
        refine ⟨g7.ff, fun c u q n => ?_, g7.nf⟩
        have z : c ≠ D := ne_of_none q hD
        rw [upd_ne z]
        exact g7.un c u q n
      · rw [if_neg hc] at q5 ⊢
        exact ⟨F5, M5, acc, vl, r5, (g2.trans (g4.trans g5)), D5.1, F5D, D5.2, d4.mono (g4.trans g5).ff, q5⟩
    · rw [List.drop_length] at q
      exact hf F2 H2 M2 R Q D acc vl r2 d1 d2 d3 d4 q.2 F1 H1 M1 g2 hD fun v H' F' M' x a b c d => k v H' F' M' x a (g1.trans b) c d
/-- a list that is data -/
@[reducible] def lcF (it : TDI) (b : TDG) (tt : TDT) (te : TDE) (vs : List Nat) : TDE := fun ρ M R => it ρ M fun rows keep M1 => lcGo b keep tt te (hide ρ vs) (fun acc M2 => gDs acc fun ds => R (.d (.list ds)) M2) rows [] M1
/-- a list that may change -/
@[reducible] def lcL (it : TDI) (b : TDG) (tt : TDT) (te : TDE) (vs : List Nat) : TDE := fun ρ M R => it ρ M fun rows keep M1 => lcGo b keep tt te (hide ρ vs) (fun acc M2 => ∀ p, M2 p = none → R (.r p) (mset M2 p (.lst acc))) rows [] M1
theorem se_lcF {wi : TI} {g : TG} {tt : TT} {te : TE} {vs : List Nat} {pair : Bool} {it : TDI} {b : TDG} {Tt : TDT} {Te : TDE} (hi : SI K Wx RE wi pair it) (hg : SG K g pair vs b) (ht : ST K (fun _ _ _ _ => False) (fun _ _ _ => False) tt Tt) (he : SE K (fun _ _ _ _ => False) (fun _ _ _ => False) te Te) (hv : vs.length ≤ 2 := by decide) :
    SE K Wx RE (tLc wi g tt te vs) (lcF it b Tt Te vs) :=
  lc_core hi hg ht he hv (fun R acc M2 => gDs acc fun ds => R (.d (.list ds)) M2) fun F H M R Q D acc vl hr h1 h2 h3 h4 hq F0 H0 M0 g hD k => by
    obtain ⟨ds, rfl, h5⟩ := gDs_of hq
    have e : Same F (upd F D (.lst vl)) := same_new h2
    have r' : Rl K (upd F D (.lst vl)) H M := by
      refine ⟨fun b u q => ?_, fun a o c => ?_, fun a o c => ?_⟩
      · by_cases z : b = D
        · subst z
          rw [upd_same] at q
          rw [h1]
          exact q
        · rw [upd_ne z] at q
          exact hr.fh b u q
      · rw [upd_ne (fun z => by rw [z, h3] at c; cases c)]
        exact hr.mf a o c
      · obtain ⟨u, q1, q2⟩ := hr.at_ a o c
        exact ⟨u, q1, q2.mono e⟩
    refine k _ H _ M _ r' ⟨g.ff.trans e, g.un, fun b u q n f => ?_⟩ (.d (.lst upd_same (DxL.mono e _ _ h4.undat))) h5
    rw [upd_ne (ne_of_none q hD)]
    exact g.nf b u q n f
theorem se_lcL {wi : TI} {g : TG} {tt : TT} {te : TE} {vs : List Nat} {pair : Bool} {it : TDI} {b : TDG} {Tt : TDT} {Te : TDE} (hi : SI K Wx RE wi pair it) (hg : SG K g pair vs b) (ht : ST K (fun _ _ _ _ => False) (fun _ _ _ => False) tt Tt) (he : SE K (fun _ _ _ _ => False) (fun _ _ _ => False) te Te) (hv : vs.length ≤ 2 := by decide) :
    SE K Wx RE (tLc wi g tt te vs) (lcL it b Tt Te vs) :=
  lc_core hi hg ht he hv (fun R acc M2 => ∀ p, M2 p = none → R (.r p) (mset M2 p (.lst acc))) fun F H M R Q D acc vl hr h1 h2 h3 h4 hq F0 H0 M0 g hD k => by
    have r' : Rl K F H (mset M D (.lst acc)) := by
      refine ⟨hr.fh, fun a o c => ?_, fun a o c => ?_⟩
      · by_cases z : a = D
        · rw [z]; exact h2
        · rw [mset_ne z] at c; exact hr.mf a o c
      · by_cases z : a = D
        · subst z
          rw [mset_same] at c
          cases c
          exact ⟨_, h1, vl, rfl, h4⟩
        · rw [mset_ne z] at c; exact hr.at_ a o c
    refine k _ H _ _ _ r' ⟨g.ff, fun b u q n => ?_, g.nf⟩ (.r D) (hq D h3)
    rw [mset_ne (ne_of_none q hD)]
    exact g.un b u q n
end
end Tl
set_option Elab.async false
set_option linter.all false
set_option maxRecDepth 100000
set_option maxHeartbeats 4000000
namespace Tl
open PySem L2
/-! ### statements -/
structure EndD where
  nx : EnvD → Mem → Prop
  rt : W → Mem → Prop
  bk : EnvD → Mem → Prop := fun _ _ => False
  ct : EnvD → Mem → Prop := fun _ _ => False
abbrev TDS := EndD → EnvD → Mem → Prop
abbrev Nk (K : PySem.W.Frag) (F H : Hp) (M : Mem) (R : EnvD → Mem → Prop) (Q : L2.St → Hp → Prop) : Prop := ∀ σ' H' F' M' ρ', Rl K F' H' M' → Gr F H M F' H' M' → RelS K F' σ' ρ' → R ρ' M' → Q σ' H'
structure EK (K : PySem.W.Frag) (F H : Hp) (M : Mem) (D : EndD) (E : Ends) : Prop where
  nx : Nk K F H M D.nx E.nx
  rt : Kt K F H M D.rt E.rt
  bk : Nk K F H M D.bk E.bk
  ct : Nk K F H M D.ct E.ct
theorem EK.mono {K : PySem.W.Frag} {F H F' H' : Hp} {M M' : Mem} {D : EndD} {E : Ends} (k : EK K F H M D E) (g : Gr F H M F' H' M') : EK K F' H' M' D E :=
  ⟨fun σ H2 F2 M2 ρ r g2 => k.nx σ H2 F2 M2 ρ r (g.trans g2), fun v H2 F2 M2 x r g2 => k.rt v H2 F2 M2 x r (g.trans g2), fun σ H2 F2 M2 ρ r g2 => k.bk σ H2 F2 M2 ρ r (g.trans g2), fun σ H2 F2 M2 ρ r g2 => k.ct σ H2 F2 M2 ρ r (g.trans g2)⟩
def SSt (K : PySem.W.Frag) (Wx : WX) (RE : REx) (t : TS) (T : TDS) : Prop :=
  ∀ F H M σ ρ D E, Rl K F H M → XOk K F H M Wx RE → RelS K F σ ρ → T D ρ M → EK K F H M D E → t E σ H
section
variable {K : PySem.W.Frag} {Wx : WX} {RE : REx}
@[reducible] def nextS : TDS := fun D ρ M => D.nx ρ M
@[reducible] def seqS (T U : TDS) : TDS := fun D ρ M => T { D with nx := U D } ρ M
@[reducible] def retS (T : TDE) : TDS := fun D ρ M => T ρ M D.rt
@[reducible] def retN : TDS := fun D _ M => D.rt (.d .none) M
@[reducible] def dropS (T : TDE) : TDS := fun D ρ M => T ρ M fun _ M1 => D.nx ρ M1
@[reducible] def ifS (c : TDT) (T U : TDS) : TDS := fun D ρ M => c ρ M fun b M1 => IfB b (T D ρ M1) (U D ρ M1)
@[reducible] def setS (i : Nat) (T : TDE) : TDS := fun D ρ M => T ρ M fun x M1 => D.nx (put ρ i (some x)) M1
theorem ss_nil : SSt K Wx RE tNext nextS := fun F H M σ ρ D E hr hx hs ht k => k.nx σ H F M ρ hr .refl hs ht
theorem ss_cons {t u : TS} {T U : TDS} (h1 : SSt K Wx RE t T) (h2 : SSt K Wx RE u U) : SSt K Wx RE (tSeq t u) (seqS T U) := fun F H M σ ρ D E hr hx hs ht k =>
  h1 F H M σ ρ { D with nx := U D } { E with nx := u E } hr hx hs ht ⟨fun σ' H' F' M' ρ' r g s q => h2 F' H' M' σ' ρ' D E r (hx.mono g) s q (k.mono g), k.rt, k.bk, k.ct⟩
/-- as seqS, where a cut is made -/
def seqC (T U : TDS) : TDS := seqS T U
theorem ss_cut {t u : TS} {T U : TDS} (h1 : SSt K Wx RE t T) (h2 : SSt K Wx RE u U) : SSt K Wx RE (tSeq t u) (seqC T U) := by unfold seqC; exact ss_cons h1 h2
theorem seq_cut {T U : TDS} {D : EndD} {ρ : EnvD} {M : Mem} (C : EnvD → Mem → Prop) (h1 : ∀ N : EnvD → Mem → Prop, (∀ ρ' M', C ρ' M' → N ρ' M') → T { D with nx := N } ρ M) (h2 : ∀ ρ' M', C ρ' M' → U D ρ' M') : seqC T U D ρ M := by unfold seqC; exact h1 _ h2
theorem ss_ret {t : TE} {T : TDE} (h : SE K Wx RE t T) : SSt K Wx RE (tRet t) (retS T) := fun F H M σ ρ D E hr hx hs ht k => h F H M σ ρ _ _ hr hx hs ht k.rt
theorem ss_retN : SSt K Wx RE tRetN retN := fun F H M σ ρ D E hr hx hs ht k => k.rt _ H F M _ hr .refl (.d .non) ht
theorem ss_drop {t : TE} {T : TDE} (h : SE K Wx RE t T) : SSt K Wx RE (tDrop t) (dropS T) := fun F H M σ ρ D E hr hx hs ht k =>
  h F H M σ ρ _ _ hr hx hs ht fun v H1 F1 M1 x r1 g1 rx h1 => k.nx σ H1 F1 M1 ρ r1 g1 (hs.mono g1.ff) h1
theorem ss_if {c : TT} {t u : TS} {C : TDT} {T U : TDS} (hc : ST K Wx RE c C) (h1 : SSt K Wx RE t T) (h2 : SSt K Wx RE u U) : SSt K Wx RE (tIfS c t u) (ifS C T U) := fun F H M σ ρ D E hr hx hs ht k =>
  hc F H M σ ρ _ _ hr hx hs ht fun b H1 F1 M1 r1 g1 q1 => by
    have q1 := q1.ite
    by_cases hb : b = true
    · rw [if_pos hb] at q1 ⊢
      exact h1 F1 H1 M1 σ ρ D E r1 (hx.mono g1) (hs.mono g1.ff) q1 (k.mono g1)
    · rw [if_neg hb] at q1 ⊢
      exact h2 F1 H1 M1 σ ρ D E r1 (hx.mono g1) (hs.mono g1.ff) q1 (k.mono g1)
theorem ss_set {i : Nat} {t : TE} {T : TDE} (h : SE K Wx RE t T) : SSt K Wx RE (tAsg t (gName i)) (setS i T) := fun F H M σ ρ D E hr hx hs ht k =>
  h F H M σ ρ _ _ hr hx hs ht fun v H1 F1 M1 x r1 g1 rx h1 => k.nx _ H1 F1 M1 _ r1 g1 ((hs.mono g1.ff).set rx i) h1
/-- a, b = e -/
@[reducible] def unpS (b : TDG) (T : TDE) : TDS := fun D ρ M => T ρ M fun x M1 => b [x] ρ M1 D.nx
theorem ss_unp {g : TG} {vs : List Nat} {b : TDG} {t : TE} {T : TDE} (hg : SG K g false vs b) (h : SE K Wx RE t T) : SSt K Wx RE (tAsg t g) (unpS b T) := fun F H M σ ρ D E hr hx hs ht k =>
  h F H M σ ρ _ _ hr hx hs ht fun v H1 F1 M1 x r1 g1 rx h1 => hg F1 H1 M1 v H1 [x] σ ρ _ _ r1 ⟨x, rfl, rfl, rx⟩ (hs.mono g1.ff) h1 fun σ' H2 F2 M2 ρ' r2 g2 s2 _ q2 => k.nx σ' H2 F2 M2 ρ' r2 (g1.trans g2) s2 q2
/-- for -/
def forGo (b : TDG) (keep : Mem → Prop) (body : TDS) (D : EndD) : List (List W) → EnvD → Mem → Prop
  | [], ρ, M => keep M ∧ D.nx ρ M
  | row :: rest, ρ, M => keep M ∧ b row ρ M fun ρ1 M1 => body ⟨forGo b keep body D rest, D.rt, D.nx, forGo b keep body D rest⟩ ρ1 M1
@[reducible] def forS (it : TDI) (b : TDG) (body : TDS) : TDS := fun D ρ M => it ρ M fun rows keep M1 => forGo b keep body D rows ρ M1
theorem ss_for {wi : TI} {g : TG} {tb : TS} {pair : Bool} {vs : List Nat} {it : TDI} {b : TDG} {Tb : TDS} (hi : SI K Wx RE wi pair it) (hg : SG K g pair vs b) (hb : SSt K Wx RE tb Tb) : SSt K Wx RE (tFor wi g tb) (forS it b Tb) := fun F H M σ ρ D E hr hx hs ht k =>
  hi F H M σ ρ _ _ hr hx hs ht fun J H1 F1 M1 rows keep r1 g1 iok h1 => by
    obtain ⟨G, Y, wk, hG, hY⟩ := iok
    refine for_it wk (fun i σ2 H2 => ∃ F2 M2 ρ2, Rl K F2 H2 M2 ∧ Gr F1 H1 M1 F2 H2 M2 ∧ RelS K F2 σ2 ρ2 ∧ forGo b keep Tb D (rows.drop i) ρ2 M2)
      ⟨F1, M1, ρ, r1, .refl, hs.mono g1.ff, h1⟩ (fun i σ2 H2 hi2 ⟨F2, M2, ρ2, r2, g2, s2, q⟩ => ?_) (fun i x σ2 H2 H3 hi2 ⟨F2, M2, ρ2, r2, g2, s2, q⟩ y => ?_) (fun σ2 H2 ⟨F2, M2, ρ2, r2, g2, s2, q⟩ => ?_)
    · have hk : keep M2 := by
        cases hd : rows.drop i with
        | nil => rw [hd] at q; exact q.1
        | cons a b => rw [hd] at q; exact q.1
      exact hG F2 H2 M2 r2 g2 hk
    · rw [List.drop_eq_getElem_cons hi2] at q
      obtain ⟨hk, q⟩ := q
      have yd := hY i x H2 H3 F2 M2 _ (List.getElem?_eq_getElem hi2) r2 g2 hk y
      refine hg F2 H2 M2 x H3 _ σ2 ρ2 _ _ r2 yd s2 q fun σ4 H4 F4 M4 ρ4 r4 g4 s4 _ q4 => ?_
      have gg := g2.trans g4
      refine hb F4 H4 M4 σ4 ρ4 _ _ r4 (hx.mono (g1.trans gg)) s4 q4 ⟨fun σ5 H5 F5 M5 ρ5 r5 g5 s5 q5 => ⟨F5, M5, ρ5, r5, gg.trans g5, s5, q5⟩, fun v H5 F5 M5 x5 r5 g5 => k.rt v H5 F5 M5 x5 r5 ((g1.trans gg).trans g5), fun σ5 H5 F5 M5 ρ5 r5 g5 => k.nx σ5 H5 F5 M5 ρ5 r5 ((g1.trans gg).trans g5), fun σ5 H5 F5 M5 ρ5 r5 g5 s5 q5 => ⟨F5, M5, ρ5, r5, gg.trans g5, s5, q5⟩⟩
    · rw [List.drop_length] at q
      exact k.nx σ2 H2 F2 M2 ρ2 r2 (g1.trans g2) s2 q.2
/-- while, by an invariant and a measure -/
@[reducible] def whileS (c : TDT) (body : TDS) : TDS := fun D ρ M => ∃ I : Nat → EnvD → Mem → Prop, (∃ m, I m ρ M) ∧ ∀ m ρ M, I m ρ M → c ρ M fun b M1 => IfB b (body ⟨fun ρ' M' => ∃ m', m' < m ∧ I m' ρ' M', D.rt, D.nx, fun ρ' M' => ∃ m', m' < m ∧ I m' ρ' M'⟩ ρ M1) (D.nx ρ M1)
theorem ss_while {c : TT} {tb : TS} {C : TDT} {Tb : TDS} (hc : ST K Wx RE c C) (hb : SSt K Wx RE tb Tb) : SSt K Wx RE (tWhile c tb) (whileS C Tb) := fun F H M σ ρ D E hr hx hs ht k => by
  obtain ⟨I, ⟨m0, h0⟩, turn⟩ := ht
  refine ⟨fun m σ2 H2 => ∃ F2 M2 ρ2, Rl K F2 H2 M2 ∧ Gr F H M F2 H2 M2 ∧ RelS K F2 σ2 ρ2 ∧ I m ρ2 M2, ⟨m0, F, M, ρ, hr, .refl, hs, h0⟩, fun m σ2 H2 ⟨F2, M2, ρ2, r2, g2, s2, q⟩ => ?_⟩
  refine hc F2 H2 M2 σ2 ρ2 _ _ r2 (hx.mono g2) s2 (turn m ρ2 M2 q) fun b H3 F3 M3 r3 g3 q3 => ?_
  have gg := g2.trans g3
  have q3 := q3.ite
  by_cases h : b = true
  · rw [if_pos h] at q3 ⊢
    refine ⟨fun σ4 H4 => ∃ m', m' < m ∧ ∃ F4 M4 ρ4, Rl K F4 H4 M4 ∧ Gr F H M F4 H4 M4 ∧ RelS K F4 σ4 ρ4 ∧ I m' ρ4 M4, fun σ4 H4 h4 => h4, ?_⟩
    refine hb F3 H3 M3 σ2 ρ2 _ _ r3 (hx.mono gg) (s2.mono g3.ff) q3 ⟨fun σ5 H5 F5 M5 ρ5 r5 g5 s5 ⟨m', hm, q5⟩ => ⟨m', hm, F5, M5, ρ5, r5, gg.trans g5, s5, q5⟩, fun v H5 F5 M5 x5 r5 g5 => k.rt v H5 F5 M5 x5 r5 (gg.trans g5), fun σ5 H5 F5 M5 ρ5 r5 g5 => k.nx σ5 H5 F5 M5 ρ5 r5 (gg.trans g5), fun σ5 H5 F5 M5 ρ5 r5 g5 s5 ⟨m', hm, q5⟩ => ⟨m', hm, F5, M5, ρ5, r5, gg.trans g5, s5, q5⟩⟩
  · rw [if_neg h] at q3 ⊢
    exact k.nx σ2 H3 F3 M3 ρ2 r3 gg (s2.mono g3.ff) q3
/-- raise -/
@[reducible] def raiseS (RE : REx) (x : Ex) : TDS := fun _ ρ M => RE x ρ M
theorem ss_raise0 {C : Addr} : SSt K Wx RE (fun _ σ H => (fun _ H Q => Q (.ref C) none H : L2.St → Hp → XK → Prop) σ H fun cls d H' => Wx cls d σ H') (raiseS RE ⟨.ref C, []⟩) := fun F H M σ ρ D E hr hx hs ht k =>
  hx F H M σ ρ _ _ ⟨.ref C, []⟩ .refl hr hs ⟨rfl, rfl⟩ ht
end
/-! ### defs -/
section
variable {P : Program} {w : World} {K : PySem.W.Frag} {mg : Str → Option Value} {base : Heap}
/-- the slots as a def begins -/
@[reducible] def start0 (n : Nat) (ws : List W) : EnvD := ws.map some ++ List.replicate (n - ws.length) none
theorem slot_rep (m i : Nat) : slot (List.replicate m none) i = none := by
  induction m generalizing i with
  | zero => rfl
  | succ m ih =>
    rw [List.replicate_succ]
    cases i with
    | zero => rfl
    | succ i => exact ih i
theorem slot_start : ∀ {ws : List W} {m i : Nat} {x : W}, slot (ws.map some ++ List.replicate m none) i = some x → ws[i]? = some x
  | [], m, i, x, h => by
    rw [List.map_nil, List.nil_append, slot_rep] at h
    cases h
  | w :: ws, m, 0, x, h => h
  | w :: ws, m, i + 1, x, h => by
    have := slot_start (ws := ws) (m := m) (i := i) h
    simpa using this
theorem rel_start {F : Hp} {N : List Str} {vs : List V} {ws : List W} (r : RWs K F vs ws) : RelS K F (L2.start N vs) (start0 N.length ws) := by
  refine ⟨?_, fun i x c => ?_⟩
  · unfold L2.start start0
    rw [List.length_append, List.length_append, List.length_map, List.length_map, List.length_replicate, List.length_replicate, r.len]
  · obtain ⟨v, h1, h2⟩ := r.got (slot_start c)
    refine ⟨v, ?_, h2⟩
    unfold L2.start
    rw [List.getElem?_append_left (by rw [List.length_map]; exact (List.getElem?_eq_some_iff.mp h1).1), List.getElem?_map, h1]
    rfl
/-- what is wanted behind a def -/
abbrev endD (R : W → Mem → Prop) : EndD := ⟨fun _ M => R (.d .none) M, R, fun _ _ => False, fun _ _ => False⟩
theorem ek_def {F H : Hp} {M : Mem} {R : W → Mem → Prop} {Q : VK} (k : Kt K F H M R Q) : EK K F H M (endD R) { nx := fun _ H' => Q .non H', rt := Q } :=
  ⟨fun σ H' F' M' ρ r g s q => k _ H' F' M' _ r g (.d .non) q, k, fun _ _ _ _ _ _ _ _ z => z.elim, fun _ _ _ _ _ _ _ _ z => z.elim⟩
/-- a def that lets nothing out -/
theorem okD {f : Addr} {fd : FuncData} {k n : Nat} {x qual : Str} {st : Stmt} {N ps : List Str} {tf : TF} (F : Fun K x qual st f fd) (S : FnScope N ps (defScope st)) (hp : ps.length = n)
    (hb : ∀ (cdv : Value) (A : Around) (outer : List Env) (s : Shared) (H : Hp) (E : XK), Room k (A.deeper (PyProof.Rows.envOfC qual (defScope st) s.heap.objs.size f cdv)) →
      ∃ (t : TS) (T : TDS), PSs (cxOf CX0 P w K mg base N qual (defScope st) f cdv A outer s H E).nox (defBody st) t ∧ SSt K (fun _ _ _ _ => False) (fun _ _ _ => False) t T ∧
        ∀ ws M R RX, ws.length = n → tf ws M R RX → T (endD R) (start0 N.length ws) M) : FnOk P w K mg base CX0 (k + 1) f fd ps (spD K n tf) := by
  refine F.ok S (fun vs H Q E h => ?_) (fun cdv A outer s H vs Q E hr h => ?_)
  · obtain ⟨F0, M, ws, R, RX, r, rs, hl, _⟩ := h
    rw [rs.len, hl, hp]
  · obtain ⟨F0, M, ws, R, RX, r, rs, hl, hf, hk, _⟩ := h
    obtain ⟨t, T, h1, h2, h3⟩ := hb cdv A outer s H E hr
    refine ⟨t, h1, h2 F0 H M _ _ _ _ r (fun F' H' M' σ ρ cls d x _ _ _ _ z => z) (rel_start rs) (h3 ws M R RX hl hf) (ek_def hk)⟩
/-- a def that errors may leave -/
theorem okDX {f : Addr} {fd : FuncData} {k n : Nat} {x qual : Str} {st : Stmt} {N ps : List Str} {tf : TF} (F : Fun K x qual st f fd) (S : FnScope N ps (defScope st)) (hp : ps.length = n)
    (hb : ∀ (cdv : Value) (A : Around) (outer : List Env) (s : Shared) (H : Hp) (E : XK), Room k (A.deeper (PyProof.Rows.envOfC qual (defScope st) s.heap.objs.size f cdv)) →
      ∃ (t : TS) (T : REx → TDS), PSs (cxOf (L2.CX P w) P w K mg base N qual (defScope st) f cdv A outer s H E) (defBody st) t ∧ (∀ RE, SSt K (fun cls d _ H => E cls d H) RE t (T RE)) ∧
        ∀ ws M R RX, ws.length = n → tf ws M R RX → T (fun x _ M => RX x M) (endD R) (start0 N.length ws) M) : FnOk P w K mg base (L2.CX P w) (k + 1) f fd ps (spD K n tf) := by
  refine F.okX S (fun vs H Q E h => ?_) (fun cdv A outer s H vs Q E hr h => ?_)
  · obtain ⟨F0, M, ws, R, RX, r, rs, hl, _⟩ := h
    rw [rs.len, hl, hp]
  · obtain ⟨F0, M, ws, R, RX, r, rs, hl, hf, hk, hx⟩ := h
    obtain ⟨t, T, h1, h2, h3⟩ := hb cdv A outer s H E hr
    refine ⟨t, h1, h2 (fun x _ M => RX x M) F0 H M _ _ _ _ r (fun F' H' M' σ ρ cls d x g r' _ xr z => hx cls d H' F' M' x r' g xr z) (rel_start rs) (h3 ws M R RX hl hf) (ek_def hk)⟩
end
end Tl
set_option Elab.async false
set_option linter.all false
set_option maxRecDepth 100000
set_option maxHeartbeats 4000000
namespace Tl
open PySem L2 RZ
theorem PS.nox {X : Cx} {st : Stmt} {t : TS} (h : PS X.nox st t) : PS X st t := ⟨fun pins s σ H D I hw =>
  wpAny_mono (h.run pins s σ H D (I.wish _) hw) (fun _ _ q => q.unwish) fun _ _ z => False.elim z⟩
section
variable {K : PySem.W.Frag} {Wx : WX} {RE : REx}
@[reducible] def yesT : TDT := fun _ M R => R true M
theorem st_yes : ST K Wx RE tYes yesT := fun F H M σ ρ R Q hr hx hs ht k => k true H F M hr .refl ht
/-- x += e, numbers -/
@[reducible] def augI (g : Int → Int → Int) (i : Nat) (T : TDE) : TDS := fun D ρ M => match slot ρ i with | some x => T ρ M fun y M1 => gI x fun a => gI y fun b => D.nx (put ρ i (some (.d (.int (g a b))))) M1 | none => False
theorem ss_augI {g : Int → Int → Int} {i : Nat} {t : TE} {T : TDE} (h : SE K Wx RE t T) : SSt K Wx RE (tAug i t (ipI g)) (augI g i T) := fun F H M σ ρ D E hr hx hs ht k => by
  unfold augI at ht
  cases c : slot ρ i with
  | none => rw [c] at ht; exact ht.elim
  | some x =>
    rw [c] at ht
    obtain ⟨v, h1, h2⟩ := hs.at_ i x c
    refine ⟨v, h1, h F H M σ ρ _ _ hr hx hs ht fun u H1 F1 M1 y r1 g1 ry q1 => ?_⟩
    obtain ⟨a, rfl, q2⟩ := gI_of q1
    obtain ⟨b, rfl, q3⟩ := gI_of q2
    exact ⟨a, b, h2.int, ry.int, k.nx _ H1 F1 M1 _ r1 g1 ((hs.mono g1.ff).set (.d (.int _)) i) q3⟩
/-- x in a row of plain things -/
def flatP : PyData → Bool
  | .none => true
  | .bool _ => true
  | .int _ => true
  | .str _ => true
  | _ => false
def eqP : PyData → PyData → Bool
  | .none, .none => true
  | .bool a, .bool b => a == b
  | .bool a, .int b => (if a then 1 else 0) == b
  | .int a, .bool b => a == (if b then 1 else 0)
  | .int a, .int b => a == b
  | .str a, .str b => a == b
  | _, _ => false
theorem flat_dx {F : Hp} {v : V} {d : PyData} (h : Dx K F v d) : flatV v = flatP d := by cases h <;> rfl
theorem eqP_dx {F : Hp} {v u : V} {d e : PyData} (h : Dx K F v d) (h' : Dx K F u e) : eqV v u = eqP d e := by cases h <;> cases h' <;> rfl
theorem flats_dx {F : Hp} : ∀ {vs : List V} {ds : List PyData}, DxL K F vs ds → vs.all flatV = ds.all flatP
  | _, _, .nil => rfl
  | _, _, .cons a b => by rw [List.all_cons, List.all_cons, flat_dx a, flats_dx b]
theorem inV_dx {F : Hp} {v : V} {d : PyData} (h : Dx K F v d) : ∀ {vs : List V} {ds : List PyData}, DxL K F vs ds → inV v vs = ds.any fun e => eqP e d
  | _, _, .nil => rfl
  | _, _, .cons a b => by
    have := inV_dx h b
    unfold inV at this ⊢
    rw [List.any_cons, List.any_cons, eqP_dx a h, this]
@[reducible] def fInQ (neg : Bool) : F2 := fun x y M R => gD x fun d => gRow M y fun ws => gDs ws fun ds => (flatP d = true ∧ ds.all flatP = true) ∧ R (.d (.bool (ng neg (ds.any fun e => eqP e d)))) M
theorem so_inQ0 {neg : Bool} : SO K (rIn K neg) (fInQ neg) := fun F H M v u x y R Q hr rx ry hf k => by
  obtain ⟨d, rfl, h1⟩ := gD_of hf
  obtain ⟨p, vs, ws, rfl, e1, e2, h2⟩ := gRow_of hr ry h1
  obtain ⟨ds, rfl, ⟨c1, c2⟩, h3⟩ := gDs_of h2
  refine ⟨p, vs, rfl, e1, by rw [flat_dx rx.dx]; exact c1, by rw [flats_dx e2.undat]; exact c2, ?_⟩
  rw [inV_dx rx.dx e2.undat]
  have e : (if neg then !(ds.any fun e => eqP e d) else ds.any fun e => eqP e d) = ng neg (ds.any fun e => eqP e d) := by cases neg <;> rfl
  rw [e]
  exact k _ H F M _ hr .refl (.d (.bl _)) h3
theorem so_inQ : SO K (rIn K false) (fInQ false) := so_inQ0
/-- repr -/
@[reducible] def fRepr : FL := fun xs M R => g1 xs fun x => asD M x fun d => ((d.hasDict = false ∨ d = .dict []) ∧ shOk d) ∧ R (.d (.str d.shown)) M
theorem sc_repr : SC K (rReprD K) fRepr := fun F H M vs xs R Q hr rx hf k => by
  obtain ⟨x, rfl, h1⟩ := g1_of hf
  obtain ⟨v, rfl, r⟩ := rx.one
  obtain ⟨d, F', e1, e2, dv, ⟨hd, h2, h3, h4⟩, h5⟩ := asD_of hr r h1
  refine ⟨v, d, rfl, ?_, h2, h3, h4, k _ H F M _ hr .refl (.d (.str _)) h5⟩
  rcases hd with hd | rfl
  · exact .d (Dx.dp _ _ (Dx.mono e2 _ _ dv) hd)
  · cases dv with
    | dic h => exact .e (e2 _ _ h)
end
end Tl
set_option Elab.async false
set_option linter.all false
set_option maxRecDepth 100000
set_option maxHeartbeats 4000000
namespace Tl
open PySem L2
theorem rows1_map {α : Type} (f : α → W) (xs : List α) : rows1 (xs.map f) = xs.map fun a => [f a] := by
  unfold rows1
  rw [List.map_map]
  rfl
section
variable {b : TDG} {keep : Mem → Prop} {tt : TDT} {te : TDE} {ρ : EnvD} {fin : List W → Mem → Prop} {M : Mem}
/-- each of some rows gives an item -/
theorem lc_map {α : Type} {row : α → List W} (g : α → W) (hk : keep M) : ∀ (xs : List α) (acc : List W), (∀ a ∈ xs, ∀ (Rk : W → Mem → Prop) (Rn : Mem → Prop), Rk (g a) M → b (row a) ρ M fun ρ1 M1 => IfB true (te ρ1 M1 Rk) (Rn M1)) → acc.length + xs.length ≤ sizeLine → fin (acc ++ xs.map g) M → lcGo b keep yesT te ρ fin (xs.map row) acc M
  | [], acc, hb, hl, h => by
    rw [List.map_nil, lcGo]
    rw [List.map_nil, List.append_nil] at h
    exact ⟨hk, h⟩
  | a :: xs, acc, hb, hl, h => by
    rw [List.map_cons, lcGo]
    rw [List.length_cons] at hl
    refine ⟨hk, hb a (.head _) _ _ ⟨by omega, lc_map g hk xs (acc ++ [g a]) (fun x hx => hb x (.tail _ hx)) (by rw [List.length_append]; simp; omega) (by rw [List.append_assoc]; exact h)⟩⟩
/-- each of some rows gives an item, or none -/
theorem lc_filter {α : Type} {row : α → List W} (p : α → Bool) (g : α → W) (hk : keep M) : ∀ (xs : List α) (acc : List W), (∀ a ∈ xs, ∀ (Rk : W → Mem → Prop) (Rn : Mem → Prop), (p a = true → Rk (g a) M) → (p a = false → Rn M) → b (row a) ρ M fun ρ1 M1 => tt ρ1 M1 fun c M2 => IfB c (te ρ1 M2 Rk) (Rn M2)) → acc.length + xs.length ≤ sizeLine → fin (acc ++ (xs.filter p).map g) M → lcGo b keep tt te ρ fin (xs.map row) acc M
  | [], acc, hb, hl, h => by
    rw [List.map_nil, lcGo]
    rw [List.filter_nil, List.map_nil, List.append_nil] at h
    exact ⟨hk, h⟩
  | a :: xs, acc, hb, hl, h => by
    rw [List.map_cons, lcGo]
    rw [List.length_cons] at hl
    refine ⟨hk, hb a (.head _) _ _ (fun c => ⟨by omega, lc_filter p g hk xs (acc ++ [g a]) (fun x hx => hb x (.tail _ hx)) (by rw [List.length_append]; simp; omega) ?_⟩) (fun c => lc_filter p g hk xs acc (fun x hx => hb x (.tail _ hx)) (by omega) ?_)⟩
    · rw [List.filter_cons_of_pos c, List.map_cons] at h
      rw [List.append_assoc]
      exact h
    · rw [List.filter_cons_of_neg (by rw [c]; exact Bool.false_ne_true)] at h
      exact h
/-- one name, over a list of data -/
theorem lc1 {α : Type} {i : Nat} {f : α → W} (g : α → W) (hk : keep M) {xs : List α} (hb : ∀ a ∈ xs, ∀ Rk : W → Mem → Prop, Rk (g a) M → te (put ρ i (some (f a))) M Rk) (hl : xs.length ≤ sizeLine) (h : fin (xs.map g) M) : lcGo (bName i) keep yesT te ρ fin (rows1 (xs.map f)) [] M := by
  rw [rows1_map]
  exact lc_map g hk xs [] (fun a ha Rk Rn q => .t rfl (hb a ha Rk q)) (by simpa using hl) h
end
/-- a for, by what holds at each turn -/
theorem for_ix {b : TDG} {keep : Mem → Prop} {body : TDS} {D : EndD} {rows : List (List W)} {ρ : EnvD} {M : Mem} (Pv : Nat → EnvD → Mem → Prop) (h0 : Pv 0 ρ M) (hk : ∀ i ρ M, i ≤ rows.length → Pv i ρ M → keep M)
    (hs : ∀ i row ρ M (N : EnvD → Mem → Prop), rows[i]? = some row → Pv i ρ M → (∀ ρ' M', Pv (i + 1) ρ' M' → N ρ' M') → b row ρ M fun ρ1 M1 => body ⟨N, D.rt, D.nx, N⟩ ρ1 M1) (hd : ∀ ρ M, Pv rows.length ρ M → D.nx ρ M) : forGo b keep body D rows ρ M := by
  have go : ∀ (n i : Nat) (ρ : EnvD) (M : Mem), n = rows.length - i → i ≤ rows.length → Pv i ρ M → forGo b keep body D (rows.drop i) ρ M := by
    intro n
    induction n with
    | zero =>
      intro i ρ M hn hi p
      have e : i = rows.length := by omega
      subst e
      rw [List.drop_length, forGo]
      exact ⟨hk _ _ _ (Nat.le_refl _) p, hd ρ M p⟩
    | succ n ih =>
      intro i ρ M hn hi p
      have hi2 : i < rows.length := by omega
      rw [List.drop_eq_getElem_cons hi2, forGo]
      exact ⟨hk _ _ _ hi p, hs i _ ρ M _ (List.getElem?_eq_getElem hi2) p fun ρ' M' p' => ih (i + 1) ρ' M' (by omega) (by omega) p'⟩
  exact go _ 0 ρ M rfl (Nat.zero_le _) h0
/-- over a list of things, one name -/
theorem for1 {α : Type} {i : Nat} {f : α → W} {keep : Mem → Prop} {body : TDS} {D : EndD} {xs : List α} {ρ : EnvD} {M : Mem} (Pv : Nat → EnvD → Mem → Prop) (h0 : Pv 0 ρ M) (hk : ∀ i ρ M, i ≤ xs.length → Pv i ρ M → keep M)
    (hs : ∀ j a ρ M (N : EnvD → Mem → Prop), xs[j]? = some a → Pv j ρ M → (∀ ρ' M', Pv (j + 1) ρ' M' → N ρ' M') → body ⟨N, D.rt, D.nx, N⟩ (put ρ i (some (f a))) M) (hd : ∀ ρ M, Pv xs.length ρ M → D.nx ρ M) : forGo (bName i) keep body D (rows1 (xs.map f)) ρ M := by
  have el : (rows1 (xs.map f)).length = xs.length := by rw [rows1_map, List.length_map]
  refine for_ix Pv h0 (fun i ρ M hi p => hk i ρ M (by rw [← el]; exact hi) p) (fun j row ρ M N hrow p hN => ?_) (fun ρ M p => hd ρ M (by rw [← el]; exact p))
  rw [rows1_map, List.getElem?_map] at hrow
  obtain ⟨a, ha, e⟩ := Option.map_eq_some_iff.mp hrow
  subst e
  exact hs j a ρ M N ha p hN
/-- over numbers -/
theorem forR {i : Nat} {lo : Int} {n : Nat} {keep : Mem → Prop} {body : TDS} {D : EndD} {ρ : EnvD} {M : Mem} (Pv : Nat → EnvD → Mem → Prop) (h0 : Pv 0 ρ M) (hk : ∀ i ρ M, i ≤ n → Pv i ρ M → keep M)
    (hs : ∀ j ρ M (N : EnvD → Mem → Prop), j < n → Pv j ρ M → (∀ ρ' M', Pv (j + 1) ρ' M' → N ρ' M') → body ⟨N, D.rt, D.nx, N⟩ (put ρ i (some (.d (.int (lo + (j : Nat)))))) M) (hd : ∀ ρ M, Pv n ρ M → D.nx ρ M) : forGo (bName i) keep body D (rows1 (rng lo n)) ρ M := by
  unfold rng
  refine for1 Pv h0 (fun i ρ M hi p => hk i ρ M (by simpa using hi) p) (fun j a ρ M N ha p hN => ?_) (fun ρ M p => hd ρ M (by simpa using p))
  have e : a = j ∧ j < n := by
    obtain ⟨h1, h2⟩ := List.getElem?_eq_some_iff.mp ha
    rw [List.length_range] at h1
    simp at h2
    exact ⟨h2.symm, h1⟩
  obtain ⟨rfl, hj⟩ := e
  exact hs a ρ M N hj p hN
/-- pairs with their numbers -/
theorem forE {i j : Nat} {keep : Mem → Prop} {body : TDS} {D : EndD} {ws : List W} {ρ : EnvD} {M : Mem} (Pv : Nat → EnvD → Mem → Prop) (h0 : Pv 0 ρ M) (hk : ∀ i ρ M, i ≤ ws.length → Pv i ρ M → keep M)
    (hs : ∀ n a ρ M (N : EnvD → Mem → Prop), ws[n]? = some a → Pv n ρ M → (∀ ρ' M', Pv (n + 1) ρ' M' → N ρ' M') → body ⟨N, D.rt, D.nx, N⟩ (put (put ρ i (some (.d (.int (n : Nat))))) j (some a)) M) (hd : ∀ ρ M, Pv ws.length ρ M → D.nx ρ M) : forGo (bPair i j) keep body D (enumR 0 ws) ρ M := by
  refine for_ix Pv h0 (fun i ρ M hi p => hk i ρ M (by rw [← enumR_len 0 ws]; exact hi) p) (fun n row ρ M N hrow p hN => ?_) (fun ρ M p => hd ρ M (by rw [← enumR_len 0 ws]; exact p))
  obtain ⟨a, ha, rfl⟩ := enumR_get hrow
  rw [Nat.zero_add]
  exact hs n a ρ M N ha p hN
end Tl
set_option Elab.async false
set_option linter.all false
set_option maxRecDepth 100000
set_option maxHeartbeats 4000000
namespace Tl
open PySem L2
/-- what nobody looks at any more is left out -/
def lax (R : W → Mem → Prop) : W → Mem → Prop := fun x M => ∃ M0, (∀ a o, M0 a = some o → M a = some o) ∧ R x M0
theorem Rl.less {K : PySem.W.Frag} {F H : Hp} {M M0 : Mem} (h : Rl K F H M) (e : ∀ a o, M0 a = some o → M a = some o) : Rl K F H M0 :=
  ⟨h.fh, fun a o c => h.mf a o (e a o c), fun a o c => h.at_ a o (e a o c)⟩
theorem none_less {M M0 : Mem} (e : ∀ a o, M0 a = some o → M a = some o) {b : Addr} (h : M b = none) : M0 b = none := by
  cases c : M0 b with
  | none => rfl
  | some o => rw [e b o c] at h; cases h
theorem kt_lax {K : PySem.W.Frag} {F H : Hp} {M : Mem} {R : W → Mem → Prop} {Q : VK} (k : Kt K F H M R Q) : Kt K F H M (lax R) Q := fun v H' F' M' x r g rx ⟨M0, e, h⟩ =>
  k v H' F' M0 x (r.less e) ⟨g.ff, fun b u h1 h2 => ⟨(g.un b u h1 h2).1, none_less e (g.un b u h1 h2).2⟩, g.nf⟩ rx h
section
variable {P : Program} {w : World} {K : PySem.W.Frag} {mg : Str → Option Value} {base : Heap}
theorem okDL {f : Addr} {fd : FuncData} {k n : Nat} {x qual : Str} {st : Stmt} {N ps : List Str} {tf : TF} (F : Fun K x qual st f fd) (S : FnScope N ps (defScope st)) (hp : ps.length = n)
    (hb : ∀ (cdv : Value) (A : Around) (outer : List Env) (s : Shared) (H : Hp) (E : XK), Room k (A.deeper (PyProof.Rows.envOfC qual (defScope st) s.heap.objs.size f cdv)) →
      ∃ (t : TS) (T : TDS), PSs (cxOf CX0 P w K mg base N qual (defScope st) f cdv A outer s H E).nox (defBody st) t ∧ SSt K (fun _ _ _ _ => False) (fun _ _ _ => False) t T ∧
        ∀ ws M R RX, ws.length = n → tf ws M R RX → T (endD (lax R)) (start0 N.length ws) M) : FnOk P w K mg base CX0 (k + 1) f fd ps (spD K n tf) := by
  refine F.ok S (fun vs H Q E h => ?_) (fun cdv A outer s H vs Q E hr h => ?_)
  · obtain ⟨F0, M, ws, R, RX, r, rs, hl, _⟩ := h
    rw [rs.len, hl, hp]
  · obtain ⟨F0, M, ws, R, RX, r, rs, hl, hf, hk, _⟩ := h
    obtain ⟨t, T, h1, h2, h3⟩ := hb cdv A outer s H E hr
    refine ⟨t, h1, h2 F0 H M _ _ _ _ r (fun F' H' M' σ ρ cls d x _ _ _ _ z => z) (rel_start rs) (h3 ws M R RX hl hf) (ek_def (kt_lax hk))⟩
end
section
variable {K : PySem.W.Frag} {Wx : WX} {RE : REx}
/-- a range with a step -/
@[reducible] def itR3 (T : TDA) : TDI := fun ρ M R => T ρ M fun xs M1 => match xs with
  | [x, y, z] => gI x fun i => gI y fun j => gI z fun c => ∃ n, RgC i j c n ∧ R (rows1 (rngC i c n)) any1 M1
  | _ => False
theorem rngC_ok {F H : Hp} {M : Mem} {lo c : Int} {n : Nat} : ItOk K F H M (Itc lo c n) (rows1 (rngC lo c n)) any1 false := by
  refine ItOk.of (walk_rangeC (lo := lo) (c := c) (n := n)) (by unfold rows1 rngC; rw [List.length_map, List.length_map, List.length_range]) (fun F2 H2 M2 r2 g2 _ => True.intro) (fun i x H2 H3 F2 M2 row hrow r2 g2 _ y => ?_)
  obtain ⟨w, hw, rfl⟩ := rows1_get hrow
  unfold rngC at hw
  rw [List.getElem?_map] at hw
  obtain ⟨e, he, rfl⟩ := Option.map_eq_some_iff.mp hw
  have e' : e = i := by
    obtain ⟨h1, h2⟩ := List.getElem?_eq_some_iff.mp he
    rw [← h2]
    simp
  subst e'
  obtain ⟨rfl, rfl⟩ := y
  exact ⟨_, rfl, rfl, .d (.int _)⟩
theorem si_r3 {t : TA} {T : TDA} {n : Nat} (h : SAn K Wx RE n t T) : SI K Wx RE (iRng3 t) false (itR3 T) := fun F H M σ ρ R Q hr hx hs ht k =>
  h F H M σ ρ _ _ hr hx hs ht fun vs H1 F1 M1 xs r1 g1 rxs hl h1 => by
    split at h1
    · obtain ⟨i, rfl, h2⟩ := gI_of h1
      obtain ⟨j, rfl, h3⟩ := gI_of h2
      obtain ⟨c, rfl, m, hc, h4⟩ := gI_of h3
      cases rxs with
      | cons a rxs =>
      cases rxs with
      | cons b rxs =>
      cases rxs with
      | cons d rxs =>
      cases rxs
      exact ⟨i, j, c, m, by rw [a.int, b.int, d.int], hc, k _ H1 F1 M1 _ _ r1 g1 rngC_ok h4⟩
    · exact h1.elim
theorem RWs.erase {F : Hp} : ∀ {vs : List V} {xs : List W} (n : Nat), RWs K F vs xs → RWs K F (vs.eraseIdx n) (xs.eraseIdx n)
  | _, _, _, .nil => .nil
  | _, _, 0, .cons _ t => t
  | _, _, n + 1, .cons a t => .cons a (RWs.erase n t)
end
/-- some new lists -/
theorem lc_new {ρ : EnvD} {i : Nat} {fin : List W → Mem → Prop} : ∀ (rows : List W) (acc : List Addr) (M M' : Mem), acc.length + rows.length ≤ sizeLine → acc.Nodup → (∀ a ∈ acc, M a = none ∧ M' a = some (.lst [])) → (∀ b, ¬ b ∈ acc → M' b = M b) →
    (∀ (as : List Addr) (M2 : Mem), as.length = acc.length + rows.length → as.Nodup → (∀ a ∈ as, M a = none ∧ M2 a = some (.lst [])) → (∀ b, ¬ b ∈ as → M2 b = M b) → fin (as.map W.r) M2) → lcGo (bName i) any1 yesT (lstT nilA) ρ fin (rows1 rows) (acc.map W.r) M'
  | [], acc, M, M', hl, hn, ha, hb, h => by
    show any1 M' ∧ fin _ M'
    exact ⟨trivial, h acc M' rfl hn ha hb⟩
  | r :: rows, acc, M, M', hl, hn, ha, hb, h => by
    show any1 M' ∧ IfB true (∀ p, M' p = none → (acc.map W.r).length < sizeLine ∧ lcGo (bName i) any1 yesT (lstT nilA) ρ fin (rows1 rows) (acc.map W.r ++ [W.r p]) (mset M' p (.lst []))) _
    rw [List.length_cons] at hl
    refine ⟨trivial, .t rfl fun p hp => ⟨by rw [List.length_map]; omega, ?_⟩⟩
    have np : ¬ p ∈ acc := fun z => by rw [(ha p z).2] at hp; cases hp
    have e : acc.map W.r ++ [W.r p] = (acc ++ [p]).map W.r := by rw [List.map_append]; rfl
    rw [e]
    have hMp : M p = none := by rw [← hb p np]; exact hp
    refine lc_new rows (acc ++ [p]) M _ (by rw [List.length_append]; simp; omega) ?_ (fun a h1 => ?_) (fun b h1 => ?_) (fun as M2 h1 h2 h3 h4 => h as M2 (by rw [h1, List.length_append, List.length_cons]; simp; omega) h2 h3 h4)
    · rw [List.nodup_append]
      exact ⟨hn, by simp, fun x hx y hy => by
        rw [List.mem_singleton.mp hy]
        exact fun z => np (by rw [← z]; exact hx)⟩
    · rcases List.mem_append.mp h1 with h1 | h1
      · have : a ≠ p := fun z => np (by rw [← z]; exact h1)
        rw [mset_ne this]
        exact ha a h1
      · rw [List.mem_singleton.mp h1]
        exact ⟨hMp, mset_same⟩
    · have h2 : b ≠ p := fun z => h1 (by rw [z]; exact List.mem_append_right _ (List.mem_singleton.mpr rfl))
      rw [mset_ne h2]
      exact hb b fun z => h1 (List.mem_append_left _ z)
/-- numbers with a step -/
theorem forRC {i : Nat} {lo c : Int} {n : Nat} {keep : Mem → Prop} {body : TDS} {D : EndD} {ρ : EnvD} {M : Mem} (Pv : Nat → EnvD → Mem → Prop) (h0 : Pv 0 ρ M) (hk : ∀ i ρ M, i ≤ n → Pv i ρ M → keep M)
    (hs : ∀ j ρ M (N : EnvD → Mem → Prop), j < n → Pv j ρ M → (∀ ρ' M', Pv (j + 1) ρ' M' → N ρ' M') → body ⟨N, D.rt, D.nx, N⟩ (put ρ i (some (.d (.int (lo + (j : Nat) * c))))) M) (hd : ∀ ρ M, Pv n ρ M → D.nx ρ M) : forGo (bName i) keep body D (rows1 (rngC lo c n)) ρ M := by
  unfold rngC
  refine for1 Pv h0 (fun i ρ M hi p => hk i ρ M (by simpa using hi) p) (fun j a ρ M N ha p hN => ?_) (fun ρ M p => hd ρ M (by simpa using p))
  have e : a = j ∧ j < n := by
    obtain ⟨h1, h2⟩ := List.getElem?_eq_some_iff.mp ha
    rw [List.length_range] at h1
    simp at h2
    exact ⟨h2.symm, h1⟩
  obtain ⟨rfl, hj⟩ := e
  exact hs a ρ M N hj p hN
end Tl
set_option Elab.async false
set_option linter.all false
set_option maxRecDepth 100000
set_option maxHeartbeats 4000000
/-! Elders and levels, lists of kids by their weights and places. -/
namespace Tl
open PySem L2
structure RelEL (es ls : List Nat) : Prop where
  first : ls[0]? = some 1
  lev : ∀ (j l : Nat), ls[j]? = some l → 1 ≤ l ∧ l ≤ 10
  eld : ∀ (j e : Nat), 1 ≤ j → es[j]? = some e → e < j ∧ ∀ (l l' : Nat), ls[e]? = some l → ls[j]? = some l' → l' = l + 1
theorem get_snoc {α : Type} {xs : List α} {x y : α} {j : Nat} (h : (xs ++ [x])[j]? = some y) : (j < xs.length ∧ xs[j]? = some y) ∨ (j = xs.length ∧ y = x) := by
  by_cases c : j < xs.length
  · rw [List.getElem?_append_left c] at h
    exact .inl ⟨c, h⟩
  · rw [List.getElem?_append_right (by omega)] at h
    have e : j - xs.length = 0 := by
      by_cases z : j - xs.length = 0
      · exact z
      · rw [List.getElem?_eq_none (by show 1 ≤ _; omega)] at h
        cases h
    rw [e] at h
    exact .inr ⟨by omega, (Option.some.inj h).symm⟩
theorem RelEL.app {es ls : List Nat} (r : RelEL es ls) {e l : Nat} (hlen : es.length = ls.length) (he : ls[e]? = some l) (hl : l ≤ 9) : RelEL (es ++ [e]) (ls ++ [l + 1]) := by
  have hel : e < ls.length := (List.getElem?_eq_some_iff.mp he).1
  refine ⟨?_, fun j m h => ?_, fun j e' hj h => ?_⟩
  · rw [List.getElem?_append_left (by omega)]
    exact r.first
  · rcases get_snoc h with ⟨_, h⟩ | ⟨_, rfl⟩
    · exact r.lev j m h
    · omega
  · rcases get_snoc h with ⟨c, h⟩ | ⟨rfl, rfl⟩
    · obtain ⟨h1, h2⟩ := r.eld j e' hj h
      refine ⟨h1, fun a b ha hb => ?_⟩
      rw [List.getElem?_append_left (by omega)] at ha hb
      exact h2 a b ha hb
    · refine ⟨by omega, fun a b ha hb => ?_⟩
      rw [List.getElem?_append_left hel] at ha
      rw [hlen, List.getElem?_append_right (Nat.le_refl _), Nat.sub_self] at hb
      rw [he] at ha
      cases ha
      exact (Option.some.inj hb).symm
theorem RelEL.one : RelEL [0] [1] := by
  refine ⟨rfl, fun j l h => ?_, fun j e hj h => ?_⟩
  · match j, h with
    | 0, h => have := Option.some.inj h; omega
    | j + 1, h => simp at h
  · match j, h with
    | 0, _ => omega
    | j + 1, h => simp at h
/-- the weights of the first m lists together -/
def sw (m : Nat) (tss : List (List PyData)) : Nat := ((tss.take m).map wtAll).sum
theorem sw_succ {m : Nat} {tss : List (List PyData)} {ts : List PyData} (h : tss[m]? = some ts) : sw (m + 1) tss = sw m tss + wtAll ts := by
  unfold sw
  rw [List.take_add_one, h, List.map_append, List.sum_append]
  simp
theorem sw_set : ∀ {m e : Nat} {tss : List (List PyData)} {ts : List PyData} {T : PyData}, e < m → tss[e]? = some ts → sw m (tss.set e (ts ++ [T])) = sw m tss + (wt T + 2)
  | 0, _, _, _, _, h, _ => by omega
  | m + 1, 0, a :: r, ts, T, _, h => by
    have e : a = ts := Option.some.inj h
    subst e
    show ((a ++ [T]) :: r.take m |>.map wtAll).sum = ((a :: r.take m).map wtAll).sum + _
    rw [List.map_cons, List.map_cons, List.sum_cons, List.sum_cons, wtAll_app, wtAll, wtAll]
    omega
  | m + 1, e + 1, a :: r, ts, T, h, h2 => by
    have ih := sw_set (m := m) (e := e) (tss := r) (ts := ts) (T := T) (by omega) h2
    unfold sw at ih ⊢
    show ((a :: (r.set e (ts ++ [T])).take m).map wtAll).sum = ((a :: r.take m).map wtAll).sum + _
    rw [List.map_cons, List.map_cons, List.sum_cons, List.sum_cons, ih]
    omega
  | _ + 1, _, [], _, _, _, h => by simp at h
theorem wt_sw : ∀ {m e : Nat} {tss : List (List PyData)} {ts : List PyData}, e < m → tss[e]? = some ts → wtAll ts ≤ sw m tss
  | 0, _, _, _, h, _ => by omega
  | m + 1, 0, a :: r, ts, _, h => by
    have e : a = ts := Option.some.inj h
    subst e
    show wtAll a ≤ ((a :: r.take m).map wtAll).sum
    rw [List.map_cons, List.sum_cons]
    omega
  | m + 1, e + 1, a :: r, ts, h, h2 => by
    have ih := wt_sw (m := m) (e := e) (tss := r) (ts := ts) (by omega) h2
    unfold sw at ih ⊢
    show _ ≤ ((a :: r.take m).map wtAll).sum
    rw [List.map_cons, List.sum_cons]
    omega
  | _ + 1, _, [], _, _, h => by simp at h
theorem sw_rep (m n : Nat) : sw m (List.replicate n []) = 0 := by
  unfold sw
  rw [List.take_replicate, List.map_replicate]
  generalize min m n = k
  induction k with
  | zero => rfl
  | succ k ih => rw [List.replicate_succ, List.sum_cons, ih]; rfl
mutual
def nn : PyData → Nat
  | .tuple [_, .tuple ks] => 1 + nnAll ks
  | _ => 1
def nnAll : List PyData → Nat
  | [] => 0
  | k :: ks => nn k + nnAll ks
end
theorem nnAll_app : ∀ (a b : List PyData), nnAll (a ++ b) = nnAll a + nnAll b
  | [], b => by rw [List.nil_append, nnAll]; omega
  | k :: a, b => by
    rw [List.cons_append, nnAll, nnAll, nnAll_app a b]
    omega
theorem nnAll_rev : ∀ (a : List PyData), nnAll a.reverse = nnAll a
  | [] => rfl
  | k :: a => by
    rw [List.reverse_cons, nnAll_app, nnAll_rev a, nnAll, nnAll, nnAll]
    omega
/-- how many places the first m lists have together -/
def sn (m : Nat) (tss : List (List PyData)) : Nat := ((tss.take m).map nnAll).sum
theorem sn_succ {m : Nat} {tss : List (List PyData)} {ts : List PyData} (h : tss[m]? = some ts) : sn (m + 1) tss = sn m tss + nnAll ts := by
  unfold sn
  rw [List.take_add_one, h, List.map_append, List.sum_append]
  simp
theorem sn_set : ∀ {m e : Nat} {tss : List (List PyData)} {ts : List PyData} {T : PyData}, e < m → tss[e]? = some ts → sn m (tss.set e (ts ++ [T])) = sn m tss + nn T
  | 0, _, _, _, _, h, _ => by omega
  | m + 1, 0, a :: r, ts, T, _, h => by
    have e : a = ts := Option.some.inj h
    subst e
    show ((a ++ [T]) :: r.take m |>.map nnAll).sum = ((a :: r.take m).map nnAll).sum + _
    rw [List.map_cons, List.map_cons, List.sum_cons, List.sum_cons, nnAll_app, nnAll, nnAll]
    omega
  | m + 1, e + 1, a :: r, ts, T, h, h2 => by
    have ih := sn_set (m := m) (e := e) (tss := r) (ts := ts) (T := T) (by omega) h2
    unfold sn at ih ⊢
    show ((a :: (r.set e (ts ++ [T])).take m).map nnAll).sum = ((a :: r.take m).map nnAll).sum + _
    rw [List.map_cons, List.map_cons, List.sum_cons, List.sum_cons, ih]
    omega
  | _ + 1, _, [], _, _, _, h => by simp at h
theorem sn_rep (m n : Nat) : sn m (List.replicate n []) = 0 := by
  unfold sn
  rw [List.take_replicate, List.map_replicate]
  generalize min m n = k
  induction k with
  | zero => rfl
  | succ k ih => rw [List.replicate_succ, List.sum_cons, ih]; rfl
theorem wtAll_rev (ts : List PyData) : wtAll ts.reverse = wtAll ts := by
  induction ts with
  | nil => rfl
  | cons a r ih => rw [List.reverse_cons, wtAll_app, ih, wtAll, wtAll, wtAll]; omega
end Tl
set_option Elab.async false
set_option linter.all false
set_option maxRecDepth 100000
set_option maxHeartbeats 4000000
/-! What the program's own looks answer, as Lean functions; promises. -/
namespace Tl
open PySem L2
/-! ### what they answer -/
def isCount : PyData → Bool
  | .int i => decide (0 ≤ i)
  | _ => false
def isNum (m : Int) : PyData → Bool
  | .int i => decide (0 ≤ i) && decide (i ≤ m)
  | _ => false
def small (c : Nat) : Bool := decide (97 ≤ c) && decide (c ≤ 122)
def isTag : PyData → Bool
  | .str s => decide (1 ≤ s.length) && decide (s.length ≤ 8) && s.cps.toList.all small
  | _ => false
def isPath : PyData → Bool
  | .tuple ds => decide (ds.length < 12) && ds.all (isNum 59)
  | _ => false
def tagKids : PyData → Bool
  | .tuple [a, b] => isTag a && isTup b
  | _ => false
/-- the program's own numbers -/
structure Cs (mg : Str → Option Value) : Prop where
  SIZE : ∃ t, mg "SIZE" = some (.int 60 t)
  DEPTH : ∃ t, mg "DEPTH" = some (.int 12 t)
  SIGNS : ∃ t, mg "SIGNS" = some (.int 8 t)
theorem c_SIZE {X : Cx} (C : Cs X.mg) {p : Pos} (hg : Gl X "SIZE" := by rfl) : PE X (.Name "SIZE" p) (tC (.int 60)) := by
  obtain ⟨t, e⟩ := C.SIZE
  exact pe_glob hg e ⟨t, rfl⟩
theorem c_DEPTH {X : Cx} (C : Cs X.mg) {p : Pos} (hg : Gl X "DEPTH" := by rfl) : PE X (.Name "DEPTH" p) (tC (.int 12)) := by
  obtain ⟨t, e⟩ := C.DEPTH
  exact pe_glob hg e ⟨t, rfl⟩
theorem c_SIGNS {X : Cx} (C : Cs X.mg) {p : Pos} (hg : Gl X "SIGNS" := by rfl) : PE X (.Name "SIGNS" p) (tC (.int 8)) := by
  obtain ⟨t, e⟩ := C.SIGNS
  exact pe_glob hg e ⟨t, rfl⟩
/-- a truth about one thing -/
@[reducible] def tfB (f : PyData → Bool) : TF := fun ws M R _ => g1 ws fun x => gD x fun d => txt d = true ∧ R (.d (.bool (f d))) M
@[reducible] def tfB2 (f : Int → PyData → Bool) : TF := fun ws M R _ => g2 ws fun x y => gD x fun d => gI y fun m => txt d = true ∧ R (.d (.bool (f m d))) M
theorem lex1 (a b : Nat) : ([a] : List Nat) < [b] ↔ a < b := by
  constructor
  · intro h
    cases h with
    | rel h => exact h
    | cons h => cases h
  · intro h
    exact List.Lex.rel h
theorem le_a (c : Nat) : (!decide ((⟨#[c]⟩ : Str).cps.toList < ("a" : Str).cps.toList)) = decide (97 ≤ c) := by
  show (!decide ([c] < [97])) = _
  rw [decide_eq_decide.mpr (lex1 c 97)]
  by_cases h : c < 97
  · rw [decide_eq_true h, decide_eq_false (by omega)]; rfl
  · rw [decide_eq_false h, decide_eq_true (by omega)]; rfl
theorem le_z (c : Nat) : (!decide (("z" : Str).cps.toList < (⟨#[c]⟩ : Str).cps.toList)) = decide (c ≤ 122) := by
  show (!decide ([122] < [c])) = _
  rw [decide_eq_decide.mpr (lex1 122 c)]
  by_cases h : 122 < c
  · rw [decide_eq_true h, decide_eq_false (by omega)]; rfl
  · rw [decide_eq_false h, decide_eq_true (by omega)]; rfl
/-! ### trees -/
def kidsD : PyData → List PyData
  | .tuple [_, .tuple ks] => ks
  | _ => []
/-- the room behind a tree, its kids one behind another -/
def roomB : Nat → PyData → Nat → Option Nat
  | 0, _, _ => none
  | _ + 1, _, 0 => none
  | l + 1, d, r + 1 => if tagKids d = true then (kidsD d).foldl (fun o kd => o.bind (roomB l kd)) (some r) else none
@[reducible] def optD : Option Nat → PyData
  | none => .none
  | some n => .int n
def isTreeD (d : PyData) : Bool := (roomB 12 d 60).isSome
theorem fold_none {α : Type} (f : α → Nat → Option Nat) : ∀ ks : List α, ks.foldl (fun o kd => o.bind (f kd)) none = none
  | [] => rfl
  | _ :: r => by rw [List.foldl_cons]; exact fold_none f r
@[reducible] def tfRoom (n : Nat) : TF := fun ws M R _ => ∃ (d : PyData) (l r : Nat), ws = [.d d, .d (.int l), .d (.int r)] ∧ txt d = true ∧ l < n ∧ R (.d (optD (roomB l d r))) M
theorem no0 {tf : TF} {P : Program} {w : World} {K : PySem.W.Frag} {mg : Str → Option Value} {base : Heap} {CX : CXT} {f : Addr} {fd : FuncData} {k n : Nat} {ps : List Str} (h : ∀ ws M R RX, ¬ tf ws M R RX) : FnOk P w K mg base CX k f fd ps (spD K n tf) :=
  ⟨fun vs H Q E ⟨F0, M, ws, R, RX, r, rs, hl, hf, _⟩ => absurd hf (h _ _ _ _), fun A outer s H args us vs Q E _ _ _ _ ⟨F0, M, ws, R, RX, r, rs, hl, hf, _⟩ => absurd hf (h _ _ _ _)⟩
/-! ### refusals -/
/-- an own error without a word, as the top has left its class -/
structure Er (K : PySem.W.Frag) (mg : Str → Option Value) (x : Str) (C : Addr) : Prop where
  g : mg x = some (.ref C)
  x : PySem.W.excIn K C [.type "ValueError", .type "Exception", .type "BaseException", .type "object"] "ValueError.__new__" = true
  k : PySem.W.keepIn K (.ref C) = true
  b : PySem.W.subIn K (.ref C) (.type "BaseException") = some true
  t : PySem.W.typeIn K (.ref C) = some (.type "type")
/-- a def that errors may leave -/
structure UseX (P : Program) (w : World) (K : PySem.W.Frag) (mg : Str → Option Value) (base : Heap) (x : Str) (ps : List Str) (k : Nat) (sp : Sp) where
  f : Addr
  fd : FuncData
  ok : FnOk P w K mg base (L2.CX P w) k f fd ps sp
  m : mg x = some (.ref f)
  kp : PySem.W.keepIn K (.ref f) = true
  b : Binds K fd ps []
/-- one thing is refused, or not -/
@[reducible] def tfChk (f : PyData → Bool) (C : Addr) : TF := fun ws M R RX => g1 ws fun x => gD x fun d => txt d = true ∧ (f d = true → R (.d .none) M) ∧ (f d = false → RX ⟨.ref C, []⟩ M)
/-! ### trees by their form -/
def TrT : Nat → PyData → Prop
  | 0, _ => False
  | h + 1, d => ∃ (s : Str) (ks : List PyData), d = .tuple [.str s, .tuple ks] ∧ isTag (.str s) = true ∧ ∀ k ∈ ks, TrT h k
theorem TrT.mono : ∀ {h h' : Nat} {d : PyData}, h ≤ h' → TrT h d → TrT h' d
  | 0, _, _, _, t => t.elim
  | h + 1, 0, _, e, _ => by omega
  | h + 1, h' + 1, d, e, t => by
    obtain ⟨s, ks, rfl, a, b⟩ := t
    exact ⟨s, ks, rfl, a, fun k hk => TrT.mono (by omega) (b k hk)⟩
theorem tags6_tag : ∀ s ∈ tags6, isTag (.str s) = true := by decide +kernel
theorem TrD.t : ∀ {h : Nat} {d : PyData}, TrD h d → TrT h d
  | 0, _, t => t.elim
  | h + 1, d, t => by
    obtain ⟨s, ks, rfl, a, b⟩ := t
    exact ⟨s, ks, rfl, tags6_tag s a.2.2.2, fun k hk => TrD.t (b k hk)⟩
theorem nn_pos (d : PyData) : 1 ≤ nn d := by
  unfold nn
  split <;> omega
theorem tagKids_node {s : Str} {ks : List PyData} (h : isTag (.str s) = true) : tagKids (.tuple [.str s, .tuple ks]) = true := by
  rw [tagKids, h]
  rfl
theorem fold_room {l : Nat} : ∀ (ks : List PyData) (r : Nat), (∀ k ∈ ks, ∀ r, nn k ≤ r → roomB l k r = some (r - nn k)) → nnAll ks ≤ r → ks.foldl (fun o kd => o.bind (roomB l kd)) (some r) = some (r - nnAll ks)
  | [], r, _, _ => rfl
  | k :: ks, r, h, hr => by
    rw [nnAll] at hr
    rw [List.foldl_cons]
    show ks.foldl _ (roomB l k r) = _
    rw [h k (.head _) r (by omega), fold_room ks (r - nn k) (fun x hx => h x (.tail _ hx)) (by omega), nnAll]
    congr 1
    omega
theorem room_nn : ∀ {l : Nat} {d : PyData}, TrT l d → ∀ r, nn d ≤ r → roomB l d r = some (r - nn d)
  | 0, _, t, _, _ => t.elim
  | l + 1, _, ⟨s, ks, rfl, a, b⟩, r, hr => by
    rw [nn] at hr
    obtain ⟨r, rfl⟩ : ∃ r', r = r' + 1 := ⟨r - 1, by omega⟩
    rw [roomB, if_pos (tagKids_node a), kidsD, fold_room ks r (fun k hk => room_nn (b k hk)) (by omega), nn]
    congr 1
    omega
theorem fold_back {l : Nat} : ∀ (ks : List PyData) (r m : Nat), (∀ k ∈ ks, ∀ r m, roomB l k r = some m → TrT l k ∧ m + nn k = r) → ks.foldl (fun o kd => o.bind (roomB l kd)) (some r) = some m → (∀ k ∈ ks, TrT l k) ∧ m + nnAll ks = r
  | [], r, m, _, h => by
    cases h
    exact ⟨fun k hk => absurd hk List.not_mem_nil, rfl⟩
  | k :: ks, r, m, hk, h => by
    rw [List.foldl_cons] at h
    have h' : ks.foldl (fun o kd => o.bind (roomB l kd)) (roomB l k r) = some m := h
    cases c : roomB l k r with
    | none =>
      rw [c, fold_none] at h'
      cases h'
    | some m' =>
      rw [c] at h'
      obtain ⟨q1, q2⟩ := hk k (.head _) r m' c
      obtain ⟨q3, q4⟩ := fold_back ks m' m (fun x hx => hk x (.tail _ hx)) h'
      rw [nnAll]
      exact ⟨fun x hx => (List.mem_cons.mp hx).elim (fun z => by rw [z]; exact q1) (q3 x), by omega⟩
theorem tagKids_of {d : PyData} (h : tagKids d = true) : ∃ (s : Str) (ks : List PyData), d = .tuple [.str s, .tuple ks] ∧ isTag (.str s) = true := by
  unfold tagKids at h
  split at h
  · rename_i a b
    rw [Bool.and_eq_true] at h
    cases b with
    | tuple ks =>
      cases a with
      | str s => exact ⟨s, ks, rfl, h.1⟩
      | _ => exact absurd h.1 (by simp [isTag])
    | _ => exact absurd h.2 (by simp [isTup])
  · cases h
theorem room_back : ∀ {l : Nat} {d : PyData} {r m : Nat}, roomB l d r = some m → TrT l d ∧ m + nn d = r
  | 0, _, _, _, h => by rw [roomB] at h; cases h
  | l + 1, _, 0, _, h => by rw [roomB] at h; cases h
  | l + 1, d, r + 1, m, h => by
    rw [roomB] at h
    split at h
    · rename_i c
      obtain ⟨s, ks, rfl, hs⟩ := tagKids_of c
      rw [kidsD] at h
      obtain ⟨q1, q2⟩ := fold_back ks r m (fun k hk r m => room_back) h
      rw [nn]
      exact ⟨⟨s, ks, rfl, hs, q1⟩, by omega⟩
    · cases h
theorem tree_iff {d : PyData} : isTreeD d = true ↔ TrT 12 d ∧ nn d ≤ 60 := by
  unfold isTreeD
  constructor
  · intro h
    cases c : roomB 12 d 60 with
    | none => rw [c] at h; cases h
    | some m =>
      obtain ⟨q1, q2⟩ := room_back c
      exact ⟨q1, by omega⟩
  · intro h
    rw [room_nn h.1 60 h.2]
    rfl
theorem TrT.node {n : Nat} {d : PyData} (h : TrT n d) : ∃ (s : Str) (ks : List PyData), d = .tuple [.str s, .tuple ks] ∧ isTag (.str s) = true ∧ ∀ k ∈ ks, TrT (n - 1) k := by
  cases n with
  | zero => exact h.elim
  | succ n => exact h
theorem tag_small {s : Str} (h : isTag (.str s) = true) : 1 ≤ s.length ∧ s.length ≤ 8 ∧ PyData.strOk s = true := by
  rw [isTag, Bool.and_eq_true, Bool.and_eq_true] at h
  refine ⟨of_decide_eq_true h.1.1, of_decide_eq_true h.1.2, ?_⟩
  rw [PyData.strOk, ← Array.all_toList, List.all_eq_true]
  intro c hc
  have := List.all_eq_true.mp h.2 c hc
  unfold small at this
  rw [Bool.and_eq_true] at this
  have h2 := of_decide_eq_true this.2
  exact decide_eq_true (Nat.lt_of_le_of_lt h2 (by decide))
mutual
theorem TrT.gd : ∀ {h : Nat} {d : PyData}, TrT h d → Tl.gd d = true ∧ d.depth ≤ 2 * h ∧ wt d + 2 ≤ 96 * nn d ∧ noL d = true
  | 0, _, t => t.elim
  | h + 1, d, t => by
    obtain ⟨s, ks, rfl, a, b⟩ := t
    obtain ⟨a1, a2, a3⟩ := tag_small a
    obtain ⟨q1, q2, q3, q4⟩ := TrT.gds b
    refine ⟨?_, ?_, ?_, ?_⟩
    · rw [Tl.gd, gdAll, gdAll, gdAll, Tl.gd, Tl.gd, q1, a3, decide_eq_true (by omega)]
      rfl
    · simp only [PyData.depth, PyData.depthAll]
      omega
    · rw [wt_node, nn]
      omega
    · simp [noL, noLs, q4]
theorem TrT.gds : ∀ {h : Nat} {ks : List PyData}, (∀ k ∈ ks, TrT h k) → gdAll ks = true ∧ PyData.depthAll ks ≤ 2 * h ∧ wtAll ks ≤ 96 * nnAll ks ∧ noLs ks = true
  | h, [], _ => ⟨rfl, Nat.zero_le _, Nat.le_refl _, rfl⟩
  | h, k :: ks, hk => by
    obtain ⟨p1, p2, p3, p4⟩ := TrT.gd (hk k (.head _))
    obtain ⟨q1, q2, q3, q4⟩ := TrT.gds fun x hx => hk x (.tail _ hx)
    refine ⟨by rw [gdAll, p1, q1]; rfl, ?_, ?_, by rw [noLs, p4, q4]; rfl⟩
    · rw [PyData.depthAll]
      omega
    · rw [wtAll, nnAll]
      have := nn_pos k
      omega
end
end Tl
set_option Elab.async false
set_option linter.all false
set_option maxRecDepth 100000
set_option maxHeartbeats 4000000
/-! Flat rows of trees: the row, where parts end, where kids begin, and back. -/
set_option Elab.async false
set_option linter.all false
set_option maxRecDepth 100000
set_option maxHeartbeats 4000000
/-! Errors: raised with fields, caught, looked at. -/
set_option Elab.async false
set_option linter.all false
set_option maxRecDepth 100000
set_option maxHeartbeats 4000000
/-! Further rules: a list extended by a tuple. -/
set_option Elab.async false
set_option linter.all false
set_option maxRecDepth 100000
set_option maxHeartbeats 4000000
/-! t[::-1] of a tuple; rows by their places. -/
set_option Elab.async false
set_option linter.all false
set_option maxRecDepth 100000
set_option maxHeartbeats 4000000
/-! What the readings are unfolded by. -/
namespace Tl
open PySem L2
theorem tyIs_int {d : PyData} : tyIs d "int" = some (isInt d) := by simp [tyIs]
theorem tyIs_bool {d : PyData} : tyIs d "bool" = some (isBl d) := by simp [tyIs]
theorem tyIs_str {d : PyData} : tyIs d "str" = some (isStr d) := by simp [tyIs]
theorem tyIs_tuple {d : PyData} : tyIs d "tuple" = some (isTup d) := by simp [tyIs]
theorem tyIs_list {d : PyData} : tyIs d "list" = some (isList d) := by simp [tyIs]
theorem map_c {α β : Type} {f : α → β} {a : α} {l : List α} : (a :: l).map f = f a :: l.map f := rfl
theorem map_n {α β : Type} {f : α → β} : ([] : List α).map f = [] := rfl
theorem app_c {α : Type} {a : α} {l r : List α} : (a :: l) ++ r = a :: (l ++ r) := rfl
theorem app_n {α : Type} {r : List α} : ([] : List α) ++ r = r := rfl
theorem len_c {α : Type} {a : α} {l : List α} : (a :: l).length = l.length + 1 := rfl
theorem len_n {α : Type} : ([] : List α).length = 0 := rfl
theorem rep_0 {α : Type} {a : α} : List.replicate 0 a = [] := rfl
theorem rep_s {α : Type} {a : α} {n : Nat} : List.replicate (n + 1) a = a :: List.replicate n a := rfl
theorem isE_c {α : Type} {a : α} {l : List α} : (a :: l).isEmpty = false := rfl
theorem isE_n {α : Type} : ([] : List α).isEmpty = true := rfl
theorem IfB.nil {ds : List PyData} {A B : Prop} (h : IfB ds.isEmpty A B) : IfB (PyData.eqv (.list ds) (.list [])) A B := by
  cases ds <;> exact h
theorem IfB.nilT {ds : List PyData} {A B : Prop} (h : IfB ds.isEmpty A B) : IfB (PyData.eqv (.tuple ds) (.tuple [])) A B := by
  cases ds <;> exact h
theorem at_0 {α : Type} {x0 : α} {r : List α} : atI (x0 :: r) 0 = some x0 := atI_nat (j := 0) rfl
theorem at_m0 {α β : Type} {f : α → β} {x0 : α} {r : List α} : atI ((x0 :: r).map f) 0 = some (f x0) := atI_nat (j := 0) rfl
theorem at_1 {α : Type} {x0 x1 : α} {r : List α} : atI (x0 :: x1 :: r) 1 = some x1 := atI_nat (j := 1) rfl
theorem at_m1 {α β : Type} {f : α → β} {x0 x1 : α} {r : List α} : atI ((x0 :: x1 :: r).map f) 1 = some (f x1) := atI_nat (j := 1) rfl
theorem at_2 {α : Type} {x0 x1 x2 : α} {r : List α} : atI (x0 :: x1 :: x2 :: r) 2 = some x2 := atI_nat (j := 2) rfl
theorem at_m2 {α β : Type} {f : α → β} {x0 x1 x2 : α} {r : List α} : atI ((x0 :: x1 :: x2 :: r).map f) 2 = some (f x2) := atI_nat (j := 2) rfl
theorem at_3 {α : Type} {x0 x1 x2 x3 : α} {r : List α} : atI (x0 :: x1 :: x2 :: x3 :: r) 3 = some x3 := atI_nat (j := 3) rfl
theorem at_m3 {α β : Type} {f : α → β} {x0 x1 x2 x3 : α} {r : List α} : atI ((x0 :: x1 :: x2 :: x3 :: r).map f) 3 = some (f x3) := atI_nat (j := 3) rfl
theorem at_4 {α : Type} {x0 x1 x2 x3 x4 : α} {r : List α} : atI (x0 :: x1 :: x2 :: x3 :: x4 :: r) 4 = some x4 := atI_nat (j := 4) rfl
theorem at_m4 {α β : Type} {f : α → β} {x0 x1 x2 x3 x4 : α} {r : List α} : atI ((x0 :: x1 :: x2 :: x3 :: x4 :: r).map f) 4 = some (f x4) := atI_nat (j := 4) rfl
theorem at_5 {α : Type} {x0 x1 x2 x3 x4 x5 : α} {r : List α} : atI (x0 :: x1 :: x2 :: x3 :: x4 :: x5 :: r) 5 = some x5 := atI_nat (j := 5) rfl
theorem at_m5 {α β : Type} {f : α → β} {x0 x1 x2 x3 x4 x5 : α} {r : List α} : atI ((x0 :: x1 :: x2 :: x3 :: x4 :: x5 :: r).map f) 5 = some (f x5) := atI_nat (j := 5) rfl
theorem at_6 {α : Type} {x0 x1 x2 x3 x4 x5 x6 : α} {r : List α} : atI (x0 :: x1 :: x2 :: x3 :: x4 :: x5 :: x6 :: r) 6 = some x6 := atI_nat (j := 6) rfl
theorem at_m6 {α β : Type} {f : α → β} {x0 x1 x2 x3 x4 x5 x6 : α} {r : List α} : atI ((x0 :: x1 :: x2 :: x3 :: x4 :: x5 :: x6 :: r).map f) 6 = some (f x6) := atI_nat (j := 6) rfl
theorem at_7 {α : Type} {x0 x1 x2 x3 x4 x5 x6 x7 : α} {r : List α} : atI (x0 :: x1 :: x2 :: x3 :: x4 :: x5 :: x6 :: x7 :: r) 7 = some x7 := atI_nat (j := 7) rfl
theorem at_m7 {α β : Type} {f : α → β} {x0 x1 x2 x3 x4 x5 x6 x7 : α} {r : List α} : atI ((x0 :: x1 :: x2 :: x3 :: x4 :: x5 :: x6 :: x7 :: r).map f) 7 = some (f x7) := atI_nat (j := 7) rfl
theorem exW {o : Option MO} {ws : List W} {k : List W → Prop} (h : o = some (.lst ws)) (q : k ws) : ∃ ws, o = some (.lst ws) ∧ k ws := ⟨ws, h, q⟩
theorem gDs_i {ds : List PyData} {k : List PyData → Prop} (q : k ds) : gDs (ds.map W.d) k := by rw [gDs_map]; exact q
end Tl
set_option Elab.async false
set_option linter.all false
set_option maxRecDepth 100000
set_option maxHeartbeats 4000000
namespace Tl
open PySem L2
theorem eqv_nil (ds : List PyData) : PyData.eqv (.list ds) (.list []) = ds.isEmpty := by
  cases ds with
  | nil => rfl
  | cons a r => rfl
mutual
theorem gd_nd : ∀ d : PyData, gd d = true → d.hasDict = false
  | .none, _ => rfl
  | .bool _, _ => rfl
  | .int _, _ => rfl
  | .str _, _ => rfl
  | .list ds, h => by rw [gd] at h; rw [PyData.hasDict]; exact gds_nd ds h
  | .tuple ds, h => by rw [gd] at h; rw [PyData.hasDict]; exact gds_nd ds h
  | .dict _, h => Bool.noConfusion h
theorem gds_nd : ∀ ds : List PyData, gdAll ds = true → PyData.hasDictAll ds = false
  | [], _ => rfl
  | d :: ds, h => by
    rw [gdAll, Bool.and_eq_true] at h
    rw [PyData.hasDictAll, gd_nd d h.1, gds_nd ds h.2]
    rfl
end
end Tl
set_option Elab.async false
set_option linter.all false
set_option maxRecDepth 100000
set_option maxHeartbeats 4000000
/-! The empty dict; one of some; rows that are good to be shown, cut and put together. -/
namespace Tl
open PySem L2
theorem at_mem {α : Type} {xs : List α} {r : Int} (h0 : 0 ≤ r) (h1 : r < (xs.length : Nat)) : ∃ x, atI xs r = some x ∧ x ∈ xs := by
  obtain ⟨n, rfl⟩ : ∃ n : Nat, r = (n : Int) := ⟨r.toNat, by omega⟩
  have hn : n < xs.length := by omega
  exact ⟨xs[n], atI_nat (List.getElem?_eq_getElem hn), List.getElem_mem hn⟩
/-- good to be shown, of a weight and a depth -/
def Gk (m k : Nat) (d : PyData) : Prop := gd d = true ∧ wt d ≤ m ∧ d.depth ≤ k
def Gks (m k : Nat) (ds : List PyData) : Prop := gdAll ds = true ∧ wtAll ds ≤ m ∧ PyData.depthAll ds ≤ k
def GdE (d : PyData) : Prop := Gk 1000000 40 d ∨ d = .dict []
theorem Gk.mono {m k m' k' : Nat} {d : PyData} (h : Gk m k d) (h1 : m ≤ m') (h2 : k ≤ k') : Gk m' k' d := ⟨h.1, Nat.le_trans h.2.1 h1, Nat.le_trans h.2.2 h2⟩
theorem Gks.nil {m k : Nat} : Gks m k [] := ⟨rfl, Nat.zero_le _, Nat.zero_le _⟩
theorem Gks.cons {m k m' m'' : Nat} {d : PyData} {ds : List PyData} (h : Gk m k d) (h' : Gks m' k ds) (e : m + 2 + m' ≤ m'') : Gks m'' k (d :: ds) := by
  refine ⟨by rw [gdAll, h.1, h'.1]; rfl, ?_, ?_⟩
  · rw [wtAll]
    have := h.2.1
    have := h'.2.1
    omega
  · rw [PyData.depthAll]
    have := h.2.2
    have := h'.2.2
    omega
theorem Gks.tup {m k m' : Nat} {ds : List PyData} (h : Gks m k ds) (e : 3 + m ≤ m') : Gk m' (k + 1) (.tuple ds) := ⟨by rw [gd]; exact h.1, by rw [wt]; have := h.2.1; omega, by rw [PyData.depth]; have := h.2.2; omega⟩
theorem Gks.lst {m k m' : Nat} {ds : List PyData} (h : Gks m k ds) (e : 3 + m ≤ m') : Gk m' (k + 1) (.list ds) := ⟨by rw [gd]; exact h.1, by rw [wt]; have := h.2.1; omega, by rw [PyData.depth]; have := h.2.2; omega⟩
theorem Gks.app {m k m' m'' : Nat} {a b : List PyData} (h : Gks m k a) (h' : Gks m' k b) (e : m + m' ≤ m'') : Gks m'' k (a ++ b) := by
  refine ⟨by rw [gdAll_app, h.1, h'.1]; rfl, ?_, ?_⟩
  · rw [wtAll_app]
    have := h.2.1
    have := h'.2.1
    omega
  · rw [depthAll_app]
    have := h.2.2
    have := h'.2.2
    omega
theorem Gks.of_app {m k : Nat} {a b : List PyData} (h : Gks m k (a ++ b)) : Gks m k a ∧ Gks m k b := by
  obtain ⟨h1, h2, h3⟩ := h
  rw [gdAll_app, Bool.and_eq_true] at h1
  rw [wtAll_app] at h2
  rw [depthAll_app] at h3
  exact ⟨⟨h1.1, by omega, by omega⟩, h1.2, by omega, by omega⟩
theorem Gks.take {m k : Nat} {ds : List PyData} (h : Gks m k ds) (n : Nat) : Gks m k (ds.take n) := by
  rw [← List.take_append_drop n ds] at h
  exact h.of_app.1
theorem Gks.drop {m k : Nat} {ds : List PyData} (h : Gks m k ds) (n : Nat) : Gks m k (ds.drop n) := by
  rw [← List.take_append_drop n ds] at h
  exact h.of_app.2
theorem Gks.rev {m k : Nat} {ds : List PyData} (h : Gks m k ds) : Gks m k ds.reverse := by
  induction ds generalizing m with
  | nil => exact h
  | cons a r ih =>
    obtain ⟨h1, h2, h3⟩ := h
    rw [gdAll, Bool.and_eq_true] at h1
    rw [wtAll] at h2
    rw [PyData.depthAll] at h3
    rw [List.reverse_cons]
    exact Gks.app (m := wtAll r) (m' := wt a + 2) (ih ⟨h1.2, Nat.le_refl _, by omega⟩) (Gks.cons (m := wt a) (m' := 0) ⟨h1.1, Nat.le_refl _, by omega⟩ Gks.nil (Nat.le_refl _)) (by omega)
theorem Gks.get {m k : Nat} {ds : List PyData} {d : PyData} (h : Gks m k ds) (hd : d ∈ ds) : Gk m k d := by
  obtain ⟨i, hi, rfl⟩ := List.getElem_of_mem hd
  obtain ⟨q1, q2, q3⟩ := gdAll_get h.1 (List.getElem?_eq_getElem hi)
  have := h.2.1
  have := h.2.2
  exact ⟨q1, by omega, by omega⟩
theorem cut_to {α : Type} {xs : List α} {k : Nat} : cut xs none (some (k : Int)) = xs.take k := by
  unfold cut
  rw [HT.sIx_none, HT.sIx_nat, List.drop_zero, Nat.sub_zero]
  by_cases h : k ≤ xs.length
  · rw [Nat.min_eq_left h]
  · rw [Nat.min_eq_right (by omega), List.take_length, List.take_of_length_le (by omega)]
theorem cut_from {α : Type} {xs : List α} {k : Nat} : cut xs (some (k : Int)) none = xs.drop k := by
  unfold cut
  rw [HT.sIx_none, HT.sIx_nat]
  by_cases h : k ≤ xs.length
  · rw [Nat.min_eq_left h, List.take_of_length_le (by rw [List.length_drop]; omega)]
  · rw [Nat.min_eq_right (by omega), List.drop_length, List.drop_of_length_le (by omega), List.take_nil]
theorem cut_from1 {α : Type} {xs : List α} {k : Nat} : cut xs (some ((k : Int) + 1)) none = xs.drop (k + 1) := cut_from (k := k + 1)
theorem gk_int {i : Int} {m k : Nat} (h : i.natAbs < 10 ^ 41) (hm : 1930 ≤ m) : Gk m k (.int i) := ⟨by rw [gd]; exact decide_eq_true h, by rw [wt]; exact hm, Nat.zero_le _⟩
theorem gO_atD {ds : List PyData} {r : Int} {k : W → Prop} (Pq : PyData → Prop) (h0 : 0 ≤ r) (h1 : r < (ds.length : Nat)) (hp : ∀ d ∈ ds, Pq d) (q : ∀ d, Pq d → k (W.d d)) : gO (atI (ds.map W.d) r) k := by
  obtain ⟨d, e, hm⟩ := at_mem (xs := ds) h0 h1
  refine gO_i (a := W.d d) ?_ (q d (hp d hm))
  rw [atI_map, e]
  rfl
theorem all1 {α : Type} {P : α → Prop} {a : α} {l : List α} (h : P a) (t : ∀ x ∈ l, P x) : ∀ x ∈ a :: l, P x := fun x hx => (List.mem_cons.mp hx).elim (fun z => by rw [z]; exact h) (t x)
theorem all0 {α : Type} {P : α → Prop} : ∀ x ∈ ([] : List α), P x := fun x hx => absurd hx List.not_mem_nil
theorem GdE.txt {d : PyData} (h : GdE d) : txt d = true := by
  rcases h with h | rfl
  · exact gd_txt d h.1
  · rfl
theorem GdE.sh {d : PyData} (h : GdE d) : (d.hasDict = false ∨ d = .dict []) ∧ shOk d := by
  rcases h with h | rfl
  · refine ⟨.inl (gd_nd d h.1), gd_show d h.1, by have := h.2.2; omega, ?_⟩
    have := shown_le d h.1
    have h2 := h.2.1
    exact Nat.le_trans (Nat.le_trans this h2) (by decide)
  · exact ⟨.inr rfl, by decide +kernel, by decide +kernel, by decide +kernel⟩
end Tl
set_option Elab.async false
set_option linter.all false
set_option maxRecDepth 100000
set_option maxHeartbeats 4000000
/-! A def called at one place alone (what stands around it is known), and a law's end by it. -/
set_option Elab.async false
set_option linter.all false
set_option maxRecDepth 100000
set_option maxHeartbeats 4000000
/-! Defs that show things: they are run where no text is being made. -/
namespace Tl
open PySem PySem.Spec PyProof.Rows L2
/-- a promise of a def that is kept where nothing is being shown -/
structure FnG (P : Program) (w : World) (K : PySem.W.Frag) (mg : Str → Option Value) (base : Heap) (k : Nat) (f : Addr) (fd : FuncData) (ps : List Str) (sp : Sp) : Prop where
  len : ∀ vs H Q E, sp vs H Q E → vs.length = ps.length
  run : ∀ (A : Around) (st : List Env) (s : Shared) (H : Hp) (args : Args) (us : List Value) (vs : List V) (Q : VK) (E : XK), A.guards = some [] → Room k A → Env0 P w K mg base A st s H → BindsTo s fd args (ps.zip us) → Vals vs us → sp vs H Q E →
    codeAny (model P w) A (.call (.ref f) args) (CR CX0 st P w H s Q E) s
structure UseG (P : Program) (w : World) (K : PySem.W.Frag) (mg : Str → Option Value) (base : Heap) (x : Str) (ps : List Str) (k : Nat) (sp : Sp) where
  f : Addr
  fd : FuncData
  ok : FnG P w K mg base k f fd ps sp
  m : mg x = some (.ref f)
  kp : PySem.W.keepIn K (.ref f) = true
  b : Binds K fd ps []
end Tl
set_option Elab.async false
set_option linter.all false
set_option maxRecDepth 100000
set_option maxHeartbeats 4000000
/-! A law that makes its source of numbers by its first row. -/
set_option Elab.async false
set_option linter.all false
set_option maxRecDepth 100000
set_option maxHeartbeats 4000000
/-! What a top needs: facts of classes, promises lifted to one level. -/
namespace Tl
open PySem L2
theorem kit_sub0 {K : PySem.W.Frag} {D C : Addr} {b : Bool} (h1 : PySem.W.isClsIn K C = true) (h2 : PySem.W.typeIn K (.ref C) = some (.type "type")) (h : PySem.W.subIn K (.ref D) (.ref C) = some b) (hb : D = C → b = true) : PySem.W.kitOne K (.ref D) (.ref C) = some b := by
  unfold PySem.W.kitOne
  by_cases e : D = C
  · rw [hb e, e, if_pos (by simp)]
  · rw [if_neg (fun z => e (Value.ref.inj (eq_of_beq z)))]
    unfold PySem.W.kitCls
    have h1' : (PySem.W.clsIn K C).isSome = true := h1
    have e2 : ((PySem.W.clsIn K C).isSome && PySem.W.typeIn K (.ref C) == some (.type "type")) = true := by rw [h1', h2] <;> rfl
    show (if ((PySem.W.clsIn K C).isSome && PySem.W.typeIn K (.ref C) == some (.type "type")) = true then PySem.W.subIn K (.ref D) (.ref C) else none) = some b
    rw [if_pos e2]
    exact h
theorem kit_sub {K : PySem.W.Frag} {D C : Addr} (h1 : PySem.W.isClsIn K C = true) (h2 : PySem.W.typeIn K (.ref C) = some (.type "type")) (h : PySem.W.subIn K (.ref D) (.ref C) = some true) : PySem.W.kitOne K (.ref D) (.ref C) = some true := kit_sub0 h1 h2 h fun _ => rfl
theorem kit_no {K : PySem.W.Frag} {D C : Addr} (h1 : PySem.W.isClsIn K C = true) (h2 : PySem.W.typeIn K (.ref C) = some (.type "type")) (hs : PySem.W.subIn K (.ref D) (.ref D) = some true) (h : PySem.W.subIn K (.ref D) (.ref C) = some false) : PySem.W.kitOne K (.ref D) (.ref C) = some false :=
  kit_sub0 h1 h2 h fun e => by
    subst e
    rw [hs] at h
    cases h
theorem kit_ve {K : PySem.W.Frag} {D : Addr} (h : PySem.W.subIn K (.ref D) (.type "ValueError") = some true) : PySem.W.kitOne K (.ref D) (.type "ValueError") = some true := by
  unfold PySem.W.kitOne
  rw [if_neg (by simp)]
  show (if PySem.W.kitMeta "ValueError" = true then PySem.W.subIn K (.ref D) (.type "ValueError") else none) = some true
  rw [if_pos (by decide +kernel)]
  exact h
section
variable {P : Program} {w : World} {K : PySem.W.Frag} {mg : Str → Option Value} {base : Heap} {x : Str} {ps : List Str} {k k' : Nat} {sp : Sp}
def Use.up (u : Use P w K mg base x ps k sp) (h : k ≤ k') : Use P w K mg base x ps k' sp := ⟨u.f, u.fd, u.ok.mono h, u.m, u.kp, u.b⟩
def UseX.up (u : UseX P w K mg base x ps k sp) (h : k ≤ k') : UseX P w K mg base x ps k' sp := ⟨u.f, u.fd, u.ok.mono h, u.m, u.kp, u.b⟩
theorem FnG.mono {f : Addr} {fd : FuncData} (F : FnG P w K mg base k f fd ps sp) (h : k ≤ k') : FnG P w K mg base k' f fd ps sp := ⟨F.len, fun A st s H args us vs Q E g hr => F.run A st s H args us vs Q E g (hr.mono h)⟩
def UseG.up (u : UseG P w K mg base x ps k sp) (h : k ≤ k') : UseG P w K mg base x ps k' sp := ⟨u.f, u.fd, u.ok.mono h, u.m, u.kp, u.b⟩
/-- a def as the top has left it -/
structure At (K : PySem.W.Frag) (mg : Str → Option Value) (x : Str) (st : Stmt) where
  f : Addr
  fd : FuncData
  F : Fun K x x st f fd
  m : mg x = some (.ref f)
def use {st : Stmt} (d : At K mg x st) (b : Binds K d.fd ps []) (ok : FnOk P w K mg base CX0 k d.f d.fd ps sp) : Use P w K mg base x ps k sp := ⟨d.f, d.fd, ok, d.m, d.F.kp, b⟩
def useX {st : Stmt} (d : At K mg x st) (b : Binds K d.fd ps []) (ok : FnOk P w K mg base (L2.CX P w) k d.f d.fd ps sp) : UseX P w K mg base x ps k sp := ⟨d.f, d.fd, ok, d.m, d.F.kp, b⟩
/-- one def, from what the top has written -/
def at_mk {h : Heap} {x : Str} {st : Stmt} (X : K.In h) (G : h.Ns mainGlobals mg) {f : Addr} {od an : Option Addr} {sl : Array (Option Value)} {oc kV dc pm cd ct : Value} (a : PySem.W.nsIn K mainGlobals x = some (some (.ref f)))
    (l : K.lookup f = some ⟨oc, od, .func (PySem.W.fnOf x x (defArgs st) (defBody st) (defScope st) .none kV dc pm an cd ct), sl⟩) (c : PySem.W.codeIn K cd x = true) (k : PySem.W.keepIn K (.ref f) = true) : At K mg x st :=
  ⟨f, _, fun_mk (st := st) l c k, PySem.W.mg_of X G a⟩
end
end Tl
set_option Elab.async false
set_option linter.all false
set_option maxRecDepth 100000
set_option maxHeartbeats 4000000
/-! Places, levels and parts of a tree that is data. -/
namespace Tl
open PySem L2
def pathD (q : List Nat) : PyData := .tuple (q.map fun n : Nat => .int (n : Int))
mutual
def plc : PyData → List (List Nat)
  | .tuple [_, .tuple ks] => [] :: plcAll 0 ks
  | _ => [[]]
def plcAll : Nat → List PyData → List (List Nat)
  | _, [] => []
  | i, k :: ks => (plc k).map (i :: ·) ++ plcAll (i + 1) ks
end
mutual
def lev : PyData → Nat
  | .tuple [_, .tuple ks] => 1 + levAll ks
  | _ => 1
def levAll : List PyData → Nat
  | [] => 0
  | k :: ks => max (lev k) (levAll ks)
end
/-- the part at a path -/
def sub : PyData → List Nat → Option PyData
  | d, [] => some d
  | .tuple [_, .tuple ks], n :: q => (match ks[n]? with | some k => sub k q | none => none)
  | _, _ :: _ => none
def optP : Option PyData → PyData
  | some d => d
  | none => .none
theorem plc_node (s : PyData) (ks : List PyData) : plc (.tuple [s, .tuple ks]) = [] :: plcAll 0 ks := by rw [plc]
theorem sub_node (s : PyData) (ks : List PyData) (n : Nat) (q : List Nat) : sub (.tuple [s, .tuple ks]) (n :: q) = (match ks[n]? with | some k => sub k q | none => none) := by rw [sub]
theorem sub_nil (d : PyData) : sub d [] = some d := by
  rw [sub]
theorem plcAll_app : ∀ (i : Nat) (a b : List PyData), plcAll i (a ++ b) = plcAll i a ++ plcAll (i + a.length) b
  | i, [], b => by rw [plcAll]; rfl
  | i, k :: a, b => by
    rw [List.cons_append, plcAll, plcAll, plcAll_app (i + 1) a b, List.append_assoc, List.length_cons, show i + 1 + a.length = i + (a.length + 1) by omega]
theorem plcAll_one (i : Nat) (k : PyData) : plcAll i [k] = (plc k).map (i :: ·) := by rw [plcAll, plcAll, List.append_nil]
mutual
theorem plc_len : ∀ {n : Nat} {d : PyData}, TrT n d → (plc d).length = nn d
  | 0, _, h => h.elim
  | n + 1, d, h => by
    obtain ⟨s, ks, rfl, _, hk⟩ := h
    rw [plc_node, List.length_cons, plcAll_len 0 hk, nn]
    omega
theorem plcAll_len : ∀ {n : Nat} {ks : List PyData} (i : Nat), (∀ k ∈ ks, TrT n k) → (plcAll i ks).length = nnAll ks
  | _, [], _, _ => by rw [plcAll, nnAll]; rfl
  | n, k :: ks, i, h => by rw [plcAll, List.length_append, List.length_map, plc_len (h k (.head _)), plcAll_len (i + 1) fun x hx => h x (.tail _ hx), nnAll]
end
theorem nnAll_map : ∀ ks : List PyData, ((ks.map fun k => ((nn k : Nat) : Int)).sum) = ((nnAll ks : Nat) : Int)
  | [] => by rw [nnAll]; rfl
  | k :: ks => by
    rw [List.map_cons, List.sum_cons, nnAll_map ks, nnAll]
    omega
theorem sub_tr : ∀ {q : List Nat} {n : Nat} {d e : PyData}, TrT n d → sub d q = some e → TrT (n - q.length) e ∧ q.length < n ∧ nn e ≤ nn d
  | [], n, d, e, h, hs => by
    rw [sub_nil] at hs
    cases hs
    refine ⟨h, ?_, Nat.le_refl _⟩
    cases n with
    | zero => exact h.elim
    | succ n => exact Nat.succ_pos _
  | i :: q, 0, d, e, h, hs => h.elim
  | i :: q, n + 1, d, e, h, hs => by
    obtain ⟨s, ks, rfl, _, hk⟩ := h
    rw [sub_node] at hs
    cases c : ks[i]? with
    | none => rw [c] at hs; cases hs
    | some k =>
      rw [c] at hs
      have hm := List.mem_of_getElem? c
      obtain ⟨h1, h2, h3⟩ := sub_tr (hk k hm) hs
      refine ⟨?_, by rw [List.length_cons]; omega, ?_⟩
      · rw [List.length_cons, show n + 1 - (q.length + 1) = n - q.length by omega]
        exact h1
      · have : ∀ {ks : List PyData} {k : PyData}, k ∈ ks → nn k ≤ nnAll ks := fun {ks k} h => by
          induction ks with
          | nil => cases h
          | cons z r ih =>
            rw [nnAll]
            rcases List.mem_cons.mp h with rfl | h
            · omega
            · have := ih h; omega
        have := this hm
        rw [nn]
        omega
mutual
theorem plc_sub : ∀ {n : Nat} {d : PyData}, TrT n d → ∀ q ∈ plc d, ∃ e, sub d q = some e
  | 0, _, h => h.elim
  | n + 1, d, h => by
    obtain ⟨s, ks, rfl, _, hk⟩ := h
    intro q hq
    rw [plc_node] at hq
    rcases List.mem_cons.mp hq with rfl | hq
    · exact ⟨_, sub_nil _⟩
    · obtain ⟨i, r, k, rfl, _, hi, hr⟩ := plcAll_sub 0 hk q hq
      obtain ⟨e, he⟩ := hr
      exact ⟨e, by rw [sub_node, show ks[i]? = some k by rw [← hi]; rfl]; exact he⟩
theorem plcAll_sub : ∀ {n : Nat} {ks : List PyData} (j : Nat), (∀ k ∈ ks, TrT n k) → ∀ q ∈ plcAll j ks, ∃ i r k, q = i :: r ∧ j ≤ i ∧ ks[i - j]? = some k ∧ ∃ e, sub k r = some e
  | _, [], _, _, q, hq => by rw [plcAll] at hq; cases hq
  | n, k :: ks, j, h, q, hq => by
    rw [plcAll] at hq
    rcases List.mem_append.mp hq with hq | hq
    · obtain ⟨r, hr, rfl⟩ := List.mem_map.mp hq
      obtain ⟨e, he⟩ := plc_sub (h k (.head _)) r hr
      exact ⟨j, r, k, rfl, Nat.le_refl _, by rw [Nat.sub_self]; rfl, e, he⟩
    · obtain ⟨i, r, k', rfl, hi, hk, he⟩ := plcAll_sub (j + 1) (fun x hx => h x (.tail _ hx)) q hq
      exact ⟨i, r, k', rfl, by omega, by rw [show i - j = (i - (j + 1)) + 1 by omega]; exact hk, he⟩
end
/-- a new list, told as data -/
theorem FnOk.dat {P : Program} {w : World} {K : PySem.W.Frag} {mg : Str → Option Value} {base : Heap} {CX : CXT} {f : Addr} {fd : FuncData} {k n : Nat} {ps : List Str} {tf tf' : TF} (F : FnOk P w K mg base CX k f fd ps (spD K n tf))
    (h : ∀ ws M R RX, ws.length = n → tf' ws M R RX → tf ws M (fun x M' => ∃ p ds, x = .r p ∧ M p = none ∧ M' = mset M p (.lst (ds.map W.d)) ∧ R (.d (.list ds)) M) RX) : FnOk P w K mg base CX k f fd ps (spD K n tf') :=
  F.imp fun vs H Q E ⟨F0, M, ws, R, RX, r, rs, hl, hf, hk, hx⟩ => ⟨F0, M, ws, _, RX, r, rs, hl, h ws M R RX hl hf, fun v H' F' M' x r' g rx q => by
    obtain ⟨p, ds, rfl, hp, rfl, hR⟩ := q
    obtain ⟨F2, r2, g2, d2⟩ := r'.freeze (p := p) (ds := ds) mset_same
    rw [mdel_mset, mdel_none hp] at r2 g2
    rw [rx.ref]
    exact hk _ H' F2 M _ r2 (g.trans g2) (.d d2) hR, hx⟩
theorem mapW {α : Type} (g : α → PyData) (xs : List α) : (xs.map g).map W.d = xs.map fun a => W.d (g a) := by rw [List.map_map]; rfl
theorem gIs_ints {bs : List Int} {k : List Int → Prop} (q : k bs) : gIs ((bs.map PyData.int).map W.d) k := by
  rw [mapW, gIs_map (fun a => a), List.map_id']
  exact q
theorem lc1F {α : Type} {b : TDG} {keep : Mem → Prop} {te : TDE} {ρ : EnvD} {k : List PyData → Prop} {M : Mem} {i : Nat} {f : α → W} (g : α → PyData) (hk : keep M) {xs : List α} (hb : ∀ a ∈ xs, ∀ Rk : W → Mem → Prop, Rk (.d (g a)) M → te (put ρ i (some (f a))) M Rk) (hl : xs.length ≤ sizeLine) {fin : List PyData → Mem → Prop} (h : fin (xs.map g) M) : lcGo (bName i) keep yesT te ρ (fun acc M2 => gDs acc fun ds => fin ds M2) (rows1 (xs.map f)) [] M := by
  refine lc1 (fun a => .d (g a)) hk hb hl ?_
  rw [show (xs.map fun a => W.d (g a)) = (xs.map g).map W.d by rw [List.map_map]; rfl]
  exact gDs_i h
end Tl
set_option Elab.async false
set_option linter.all false
set_option maxRecDepth 100000
set_option maxHeartbeats 4000000
/-! The very value told; count papers. -/
namespace Tl
open PySem L2
/-- a row of a count paper -/
def rowD (q : List Nat) (m h : Nat) : PyData := .tuple [pathD q, .int (m : Int), .int (h : Int)]
theorem sub_app : ∀ {q : List Nat} {n : Nat} {d : PyData} (r : List Nat), TrT n d → sub d (q ++ r) = (match sub d q with | some e => sub e r | none => none)
  | [], n, d, r, h => by rw [List.nil_append, sub_nil]
  | i :: q, 0, d, r, h => h.elim
  | i :: q, n + 1, d, r, h => by
    obtain ⟨s, ks, rfl, _, hk⟩ := h
    rw [List.cons_append, sub_node, sub_node]
    cases c : ks[i]? with
    | none => rfl
    | some k => exact sub_app r (hk k (List.mem_of_getElem? c))
end Tl
set_option Elab.async false
set_option linter.all false
set_option maxRecDepth 100000
set_option maxHeartbeats 4000000
/-! More names at once; what is good to be shown, decided. -/
namespace Tl
open PySem L2
theorem wipe_set : ∀ {vs : List Nat} {σ : L2.St} {i : Nat} {a : Option V}, i ∈ vs → wipe (σ.set i a) vs = wipe σ vs
  | [], _, _, _, h => by cases h
  | v :: vs, σ, i, a, h => by
    show (wipe (σ.set i a) vs).set v none = (wipe σ vs).set v none
    by_cases c : i ∈ vs
    · rw [wipe_set c]
    · have e : i = v := by
        rcases List.mem_cons.mp h with h | h
        · exact h
        · exact absurd h c
      subst e
      have go : ∀ (us : List Nat) (τ : L2.St), (wipe (τ.set i a) us).set i none = (wipe τ us).set i none := by
        intro us
        induction us with
        | nil =>
          intro τ
          show (τ.set i a).set i none = τ.set i none
          rw [List.set_set]
        | cons u us ih =>
          intro τ
          show ((wipe (τ.set i a) us).set u none).set i none = ((wipe τ us).set u none).set i none
          by_cases e : u = i
          · subst e
            rw [List.set_set, List.set_set]
            exact ih τ
          · rw [List.set_comm _ _ e, ih τ, List.set_comm _ _ (fun z => e z.symm)]
      exact go vs σ
section
variable {K : PySem.W.Frag} {Wx : WX} {RE : REx}
@[reducible] def bTup3 (i j k : Nat) : TDG := fun row ρ M R => match row with | [w] => gT w fun ds => (match ds with | [a, b, c] => R (put (put (put ρ i (some (.d a))) j (some (.d b))) k (some (.d c))) M | _ => False) | _ => False
theorem sg_tup3 {i j k : Nat} : SG K (gTup K 3 (gCons (gName i) (gCons (gName j) (gCons (gName k) gNil)))) false [i, j, k] (bTup3 i j k) := fun F H M x H' row σ ρ R Q hr hy hs hb kk => by
  obtain ⟨w, rfl, rfl, rx⟩ := hy
  obtain ⟨ds, rfl, h1⟩ := gT_of hb
  obtain ⟨a, xs, rfl, h2, h3⟩ := rx.tup
  split at h1
  · rename_i c d e
    cases h3 with
    | cons q1 h3 =>
    cases h3 with
    | cons q2 h3 =>
    cases h3 with
    | cons q3 h3 =>
    cases h3
    refine ⟨a, _, rfl, same_t hr.fh h2, rfl, _, _, rfl, _, _, rfl, _, [], rfl, rfl, ?_⟩
    refine kk _ _ F M _ hr .refl (((hs.set (.d q1) i).set (.d q2) j).set (.d q3) k) ?_ h1
    rw [wipe_set (by simp), wipe_set (by simp), wipe_set (by simp)]
  · exact h1.elim
end
instance {m k : Nat} {d : PyData} : Decidable (Gk m k d) := inferInstanceAs (Decidable (_ ∧ _ ∧ _))
instance {m k : Nat} {d : List PyData} : Decidable (Gks m k d) := inferInstanceAs (Decidable (_ ∧ _ ∧ _))
theorem Gks.of {m k : Nat} : ∀ {ds : List PyData}, (∀ d ∈ ds, Gk m k d) → Gks ((m + 2) * ds.length) k ds
  | [], _ => ⟨rfl, Nat.zero_le _, Nat.zero_le _⟩
  | d :: ds, h => Gks.cons (h d (.head _)) (Gks.of fun x hx => h x (.tail _ hx)) (by rw [List.length_cons, Nat.mul_succ]; omega)
theorem Gks.mono {m k m' k' : Nat} {ds : List PyData} (h : Gks m k ds) (h1 : m ≤ m') (h2 : k ≤ k') : Gks m' k' ds := ⟨h.1, Nat.le_trans h.2.1 h1, Nat.le_trans h.2.2 h2⟩
theorem Gks.ofL {m k n m' : Nat} {ds : List PyData} (h : ∀ d ∈ ds, Gk m k d) (hl : ds.length ≤ n) (hm : (m + 2) * n ≤ m') : Gks m' k ds := (Gks.of h).mono (Nat.le_trans (Nat.mul_le_mul (Nat.le_refl _) hl) hm) (Nat.le_refl _)
theorem GdE.of {m k : Nat} {d : PyData} (h : Gk m k d) (h1 : m ≤ 1000000) (h2 : k ≤ 40) : GdE d := .inl (h.mono h1 h2)
theorem small41 {i : Int} (h : -100000 ≤ i) (h2 : i ≤ 100000) : i.natAbs < 10 ^ 41 := Nat.lt_of_le_of_lt (show i.natAbs ≤ 100000 by omega) (by decide)
theorem gk_i {i : Int} {k : Nat} (h : -100000 ≤ i) (h2 : i ≤ 100000) : Gk 1930 k (.int i) := gk_int (small41 h h2) (Nat.le_refl _)
/-- good to be shown, up to a greater weight -/
def GdB (d : PyData) : Prop := Gk 8000000 40 d ∨ d = .dict []
theorem GdB.of {m k : Nat} {d : PyData} (h : Gk m k d) (h1 : m ≤ 8000000) (h2 : k ≤ 40) : GdB d := .inl (h.mono h1 h2)
theorem GdB.txt {d : PyData} (h : GdB d) : txt d = true := by
  rcases h with h | rfl
  · exact gd_txt d h.1
  · rfl
/-! ### papers -/
structure ROk (d : PyData) : Prop where
  e : ∃ (q : List Nat) (m h : Nat), d = rowD q m h ∧ q.length ≤ 12 ∧ (∀ i ∈ q, i ≤ 60) ∧ m ≤ 60 ∧ h ≤ 12
theorem ROk.g {d : PyData} (r : ROk d) : Gk 30000 2 d := by
  obtain ⟨q, m, h, rfl, h1, h2, h3, h4⟩ := r.e
  unfold rowD
  have hp : Gk 25000 1 (pathD q) := by
    unfold pathD
    refine (Gks.ofL (m := 1930) (k := 0) (n := 12) (m' := 24000) (fun d hd => ?_) (by rw [List.length_map]; exact h1) (by decide)).tup (by decide)
    obtain ⟨i, hi, rfl⟩ := List.mem_map.mp hd
    have := h2 i hi
    exact gk_i (by omega) (by omega)
  exact (Gks.cons (m' := 3864) (m'' := 28866) hp (.cons (m' := 1932) (gk_i (by omega) (by omega)) (.cons (m' := 0) (gk_i (by omega) (by omega)) .nil (by decide)) (by decide)) (by decide)).tup (by decide)
structure POk (ds : List PyData) : Prop where
  n0 : 1 ≤ ds.length
  n1 : ds.length ≤ 60
  e : ∀ d ∈ ds, ROk d
theorem POk.g {ds : List PyData} (h : POk ds) : Gks 1900000 2 ds := Gks.ofL (m := 30000) (n := 60) (fun d hd => (h.e d hd).g) h.n1 (by decide)
end Tl
set_option Elab.async false
set_option linter.all false
set_option maxRecDepth 100000
set_option maxHeartbeats 4000000
/-! A law whose source of numbers is a list with the script itself. -/
set_option Elab.async false
set_option linter.all false
set_option maxRecDepth 100000
set_option maxHeartbeats 4000000
/-! Places in the walk behind, and the least number within each part. -/
namespace Tl
open PySem L2
mutual
def plb : PyData → List (List Nat)
  | .tuple [_, .tuple ks] => plbAll 0 ks ++ [[]]
  | _ => [[]]
def plbAll : Nat → List PyData → List (List Nat)
  | _, [] => []
  | i, k :: ks => (plb k).map (i :: ·) ++ plbAll (i + 1) ks
end
theorem plb_node (s : PyData) (ks : List PyData) : plb (.tuple [s, .tuple ks]) = plbAll 0 ks ++ [[]] := by rw [plb]
theorem plbAll_app : ∀ (i : Nat) (a b : List PyData), plbAll i (a ++ b) = plbAll i a ++ plbAll (i + a.length) b
  | i, [], b => by rw [plbAll]; rfl
  | i, k :: a, b => by
    rw [List.cons_append, plbAll, plbAll, plbAll_app (i + 1) a b, List.append_assoc, List.length_cons, show i + 1 + a.length = i + (a.length + 1) by omega]
theorem plbAll_one (i : Nat) (k : PyData) : plbAll i [k] = (plb k).map (i :: ·) := by rw [plbAll, plbAll, List.append_nil]
mutual
theorem plb_len : ∀ {n : Nat} {d : PyData}, TrT n d → (plb d).length = nn d
  | 0, _, h => h.elim
  | n + 1, d, h => by
    obtain ⟨s, ks, rfl, _, hk⟩ := h
    rw [plb_node, List.length_append, plbAll_len 0 hk, nn, List.length_singleton]
    omega
theorem plbAll_len : ∀ {n : Nat} {ks : List PyData} (i : Nat), (∀ k ∈ ks, TrT n k) → (plbAll i ks).length = nnAll ks
  | _, [], _, _ => by rw [plbAll, nnAll]; rfl
  | n, k :: ks, i, h => by rw [plbAll, List.length_append, List.length_map, plb_len (h k (.head _)), plbAll_len (i + 1) fun x hx => h x (.tail _ hx), nnAll]
end
/-- the law's rows: a place, its tag, the number at which its part begins -/
abbrev Wk := List Nat × PyData × Nat
mutual
def wk : PyData → List Nat → Nat → List Wk
  | .tuple [s, .tuple ks], q, n => wkAll ks q 0 n ++ [(q, s, n)]
  | d, q, n => [(q, d, n)]
def wkAll : List PyData → List Nat → Nat → Nat → List Wk
  | [], _, _, _ => []
  | k :: ks, q, i, n => wk k (q ++ [i]) n ++ wkAll ks q (i + 1) (n + nn k)
end
theorem wk_node (s : PyData) (ks : List PyData) (q : List Nat) (n : Nat) : wk (.tuple [s, .tuple ks]) q n = wkAll ks q 0 n ++ [(q, s, n)] := by rw [wk]
mutual
/-- the rows tell the places of the walk behind, and their numbers -/
theorem wk_ok : ∀ {n : Nat} {d : PyData} (q : List Nat) (m : Nat), TrT n d → (wk d q m).map (·.1) = (plb d).map (q ++ ·) ∧ ∀ (i : Nat) (r : List Nat) (x : Wk), (plb d)[i]? = some r → (wk d q m)[i]? = some x → ∃ e, sub d r = some e ∧ x.2.2 + nn e = m + i + 1 ∧ x.2.2 ≤ m + i ∧ ∃ ks', e = .tuple [x.2.1, .tuple ks']
  | 0, _, _, _, h => h.elim
  | n + 1, d, q, m, h => by
    obtain ⟨s, ks, rfl, hs, hk⟩ := h
    obtain ⟨h1, h2⟩ := wkAll_ok (n := n) q 0 m hk
    have hl := plbAll_len 0 hk
    have hl2 : (wkAll ks q 0 m).length = nnAll ks := by rw [← hl, ← List.length_map (f := (·.1)) (as := wkAll ks q 0 m), h1, List.length_map]
    rw [wk_node, plb_node]
    refine ⟨by rw [List.map_append, List.map_append, h1]; simp, fun i r x hr hx => ?_⟩
    by_cases c : i < nnAll ks
    · rw [List.getElem?_append_left (by omega)] at hr hx
      obtain ⟨j, r', k, rfl, hj, e, he, h3, h4⟩ := h2 i r x hr hx
      refine ⟨e, ?_, h3, h4⟩
      rw [sub_node, show ks[j]? = some k by rw [← hj]; rfl]
      exact he
    · have hi : i = nnAll ks := by
        have := (List.getElem?_eq_some_iff.mp hr).1
        rw [List.length_append, List.length_singleton] at this
        omega
      subst hi
      rw [List.getElem?_append_right (by omega), hl, Nat.sub_self] at hr
      rw [List.getElem?_append_right (by omega), hl2, Nat.sub_self] at hx
      cases hr
      cases hx
      exact ⟨_, sub_nil _, by rw [nn]; show m + (1 + nnAll ks) = _; omega, by show m ≤ _; omega, _, rfl⟩
theorem wkAll_ok : ∀ {n : Nat} {ks : List PyData} (q : List Nat) (j m : Nat), (∀ k ∈ ks, TrT n k) → (wkAll ks q j m).map (·.1) = (plbAll j ks).map (q ++ ·) ∧ ∀ (i : Nat) (r : List Nat) (x : Wk), (plbAll j ks)[i]? = some r → (wkAll ks q j m)[i]? = some x → ∃ (j' : Nat) (r' : List Nat) (k : PyData), r = j' :: r' ∧ ks[j' - j]? = some k ∧ ∃ e, sub k r' = some e ∧ x.2.2 + nn e = m + i + 1 ∧ x.2.2 ≤ m + i ∧ ∃ ks', e = .tuple [x.2.1, .tuple ks']
  | _, [], _, _, _, _ => by rw [plbAll, wkAll]; exact ⟨rfl, fun i r x h => by simp at h⟩
  | n, k :: ks, q, j, m, h => by
    obtain ⟨a1, a2⟩ := wk_ok (q ++ [j]) m (h k (.head _))
    obtain ⟨b1, b2⟩ := wkAll_ok (n := n) (ks := ks) q (j + 1) (m + nn k) fun x hx => h x (.tail _ hx)
    have hl := plb_len (h k (.head _))
    have hl2 : (wk k (q ++ [j]) m).length = nn k := by rw [← hl, ← List.length_map (f := (·.1)) (as := wk k (q ++ [j]) m), a1, List.length_map]
    rw [plbAll, wkAll]
    refine ⟨?_, fun i r x hr hx => ?_⟩
    · rw [List.map_append, List.map_append, a1, b1, List.map_map]
      congr 1
      refine List.map_congr_left fun r _ => ?_
      show q ++ [j] ++ r = q ++ j :: r
      rw [List.append_assoc]
      rfl
    · by_cases c : i < nn k
      · rw [List.getElem?_append_left (by rw [List.length_map]; omega), List.getElem?_map] at hr
        rw [List.getElem?_append_left (by omega)] at hx
        obtain ⟨r', hr', rfl⟩ := Option.map_eq_some_iff.mp hr
        obtain ⟨e, e1, e2, e3⟩ := a2 i r' x hr' hx
        exact ⟨j, r', k, rfl, by rw [Nat.sub_self]; rfl, e, e1, e2, e3⟩
      · rw [List.getElem?_append_right (by rw [List.length_map]; omega), List.length_map, hl] at hr
        rw [List.getElem?_append_right (by omega), hl2] at hx
        obtain ⟨j', r', k', rfl, hk', e, e1, e2, e3⟩ := b2 (i - nn k) r x hr hx
        have hj : j + 1 ≤ j' := by
          have := List.mem_of_getElem? hr
          clear b2 hx
          have go : ∀ (ks : List PyData) (j0 : Nat) (r : List Nat), r ∈ plbAll j0 ks → ∃ a b, r = a :: b ∧ j0 ≤ a := by
            intro ks
            induction ks with
            | nil => intro j0 r hr; rw [plbAll] at hr; cases hr
            | cons z zs ih =>
              intro j0 r hr
              rw [plbAll] at hr
              rcases List.mem_append.mp hr with hr | hr
              · obtain ⟨b, _, rfl⟩ := List.mem_map.mp hr
                exact ⟨j0, b, rfl, Nat.le_refl _⟩
              · obtain ⟨a, b, e, hab⟩ := ih (j0 + 1) r hr
                exact ⟨a, b, e, by omega⟩
          obtain ⟨a, b, e, hab⟩ := go ks (j + 1) _ this
          cases e
          exact hab
        exact ⟨j', r', k', rfl, by rw [show j' - j = (j' - (j + 1)) + 1 by omega]; exact hk', e, e1, by omega, by omega, e3.2⟩
end
end Tl
set_option Elab.async false
set_option linter.all false
set_option maxRecDepth 100000
set_option maxHeartbeats 4000000
/-! Defs that are handed on by a name: a walk over some of them, a call of one of them. -/
set_option Elab.async false
set_option linter.all false
set_option maxRecDepth 100000
set_option maxHeartbeats 4000000
/-! list.pop() and min of a list. -/
namespace Tl
open PySem L2
section
variable {K : PySem.W.Frag} {Wx : WX} {RE : REx}
/-- list.pop() -/
@[reducible] def popT (T : TDE) : TDE := fun ρ M R => T ρ M fun x M1 => gR x fun a => ∃ ws y, M1 a = some (.lst (ws ++ [y])) ∧ R y (mset M1 a (.lst ws))
theorem RWs.split1 {F : Hp} : ∀ {ws : List W} {y : W} {vs : List V}, RWs K F vs (ws ++ [y]) → ∃ us v, vs = us ++ [v] ∧ RWs K F us ws ∧ RW K F v y
  | [], _, _, h => by
    cases h with
    | cons a b => cases b; exact ⟨[], _, rfl, .nil, a⟩
  | w :: ws, _, _, h => by
    cases h with
    | cons a b =>
      obtain ⟨us, v, rfl, h1, h2⟩ := RWs.split1 b
      exact ⟨_ :: us, v, rfl, .cons a h1, h2⟩
theorem se_pop {to : TE} {T : TDE} (h1 : SE K Wx RE to T) : SE K Wx RE (tBM0 K "list" rPop to) (popT T) := fun F H M σ ρ R Q hr hx hs ht k =>
  h1 F H M σ ρ _ _ hr hx hs ht fun v H1 F1 M1 x r1 g1 rx h2 => by
    obtain ⟨a, rfl, ws, y, h3, h4⟩ := gR_of h2
    obtain ⟨us, h5, h6⟩ := r1.lst h3
    obtain ⟨us, u, rfl, h7, h8⟩ := RWs.split1 h6
    rw [rx.ref]
    refine ⟨?_, a, _, u, rfl, rfl, h5, by simp, ?_⟩
    · exact .inl ⟨rfl, _, SqL.of h5⟩
    · rw [List.dropLast_concat]
      obtain ⟨r2, g2⟩ := r1.put (u := .lst us) (o := .lst ws) h3 ⟨_, rfl, h7⟩
      exact k _ _ _ _ _ r2 (g1.trans g2) h8 h4
/-- the least of some numbers -/
def mnI : List Int → Int
  | [] => 0
  | [x] => x
  | x :: r => min x (mnI r)
theorem mnI_mem : ∀ {l : List Int}, l ≠ [] → mnI l ∈ l ∧ ∀ y ∈ l, mnI l ≤ y
  | [], h => absurd rfl h
  | [x], _ => ⟨List.mem_singleton.mpr rfl, fun y hy => by rw [List.mem_singleton.mp hy]; exact Int.le_refl _⟩
  | x :: z :: r, _ => by
    obtain ⟨h1, h2⟩ := mnI_mem (l := z :: r) (by simp)
    have e : mnI (x :: z :: r) = min x (mnI (z :: r)) := rfl
    rw [e]
    constructor
    · rcases Int.le_total x (mnI (z :: r)) with c | c
      · rw [Int.min_eq_left c]; exact List.mem_cons_self
      · rw [Int.min_eq_right c]; exact List.mem_cons_of_mem _ h1
    · intro y hy
      rcases List.mem_cons.mp hy with rfl | hy
      · exact Int.min_le_left _ _
      · exact Int.le_trans (Int.min_le_right _ _) (h2 y hy)
theorem mnI_eq {l : List Int} {m : Int} (h1 : m ∈ l) (h2 : ∀ y ∈ l, m ≤ y) : mnI l = m := by
  obtain ⟨a, b⟩ := mnI_mem (l := l) (List.ne_nil_of_mem h1)
  exact Int.le_antisymm (b _ h1) (h2 _ a)
@[reducible] def fMin : FL := fun xs M R => g1 xs fun x => gW M x fun ws => gIs ws fun bs => 0 < bs.length ∧ R (.d (.int (mnI bs))) M
theorem sc_min : SC K (rMin K) fMin := fun F H M vs xs R Q hr rx hf k => by
  obtain ⟨x, rfl, h1⟩ := g1_of hf
  obtain ⟨v, rfl, r⟩ := rx.one
  obtain ⟨a, us, ws, rfl, h2, h3, h4⟩ := gW_of hr r h1
  obtain ⟨bs, rfl, h0, h5⟩ := gIs_of h4
  refine ⟨a, bs, rfl, ?_, h0, fun m m1 m2 => ?_⟩
  · rw [← rws_int h3]
    exact SqL.of h2
  · rw [mnI_eq m1 m2] at h5
    exact k _ H F M _ hr .refl (.d (.int _)) h5
end
end Tl
set_option Elab.async false
set_option linter.all false
set_option maxRecDepth 100000
set_option maxHeartbeats 4000000
/-! A list beside the empty list. -/
namespace Tl
open PySem L2
section
variable {X : Cx}
def rNeN : R2 := fun x y H Q => ∃ a b xs, x = .ref a ∧ y = .ref b ∧ H a = some (.lst xs) ∧ H b = some (.lst []) ∧ Q (.bl (!xs.isEmpty)) H
theorem op_neN (hu : X.A.units + 64 < cLine) : OpR X (compareOp .NotEq) rNeN := by
  intro pins s σ H x y v u Q I rx ry h
  obtain ⟨a, b, xs, rfl, rfl, ea, eb, q⟩ := h
  obtain rfl : v = Value.ref a := rx
  obtain rfl : u = Value.ref b := ry
  obtain ⟨za, ia, na, ra, la, ha⟩ := I.lstM ea
  obtain ⟨zb, ib, nb, rb, lb, hb⟩ := I.lstM eb
  have e0 : ib = [] := by cases rb; rfl
  subst e0
  have hl : s.heap.IsList a ia.toArray := ⟨_, ha, rfl, na, rfl⟩
  have hl2 : s.heap.IsList b #[] := ⟨_, hb, rfl, nb, rfl⟩
  cases xs with
  | nil =>
    have e1 : ia = [] := by cases ra; rfl
    subst e1
    exact SeqAt.RcNeAt.lists (e := fun _ => true) hl hl2 rfl (by omega) (fun j h1 _ => absurd h1 (by simp)) X.prog X.w _ _ ⟨.bl _, H, I, rfl, q⟩
  | cons x0 r0 =>
    refine SeqAt.RcNeAt.lists_lengths hl hl2 ?_ (by omega) X.prog X.w _ _ ⟨.bl _, H, I, rfl, q⟩
    rw [List.size_toArray, ← la, List.length_cons]
    simp
end
section
variable {K : PySem.W.Frag}
/-- a list, whatever is in it, beside [] -/
@[reducible] def fEqN (neg : Bool) : F2 := fun x y M R => y = .d (.list []) ∧ gW M x fun ws => R (.d (.bool (ng neg ws.isEmpty))) M
theorem rws_empty {F : Hp} {vs : List V} {ws : List W} (h : RWs K F vs ws) : vs.isEmpty = ws.isEmpty := by cases h <;> rfl
theorem so_neN : SO K rNeN (fEqN true) := fun F H M v u x y R Q hr rx ry hf k => by
  obtain ⟨rfl, h1⟩ := hf
  obtain ⟨a, vs, ws, rfl, h2, h3, h4⟩ := gW_of hr rx h1
  obtain ⟨b, us, rfl, h5, h6⟩ := ry.lst
  cases h6
  refine ⟨a, b, vs, rfl, rfl, h2, hr.fh _ _ h5, ?_⟩
  rw [rws_empty h3]
  exact k _ H F M _ hr .refl (.d (.bl _)) h4
@[reducible] def bTup4 (i j k l : Nat) : TDG := fun row ρ M R => match row with | [w] => gT w fun ds => (match ds with | [a, b, c, d] => R (put (put (put (put ρ i (some (.d a))) j (some (.d b))) k (some (.d c))) l (some (.d d))) M | _ => False) | _ => False
theorem sg_tup4 {i j k l : Nat} : SG K (gTup K 4 (gCons (gName i) (gCons (gName j) (gCons (gName k) (gCons (gName l) gNil))))) false [i, j, k, l] (bTup4 i j k l) := fun F H M x H' row σ ρ R Q hr hy hs hb kk => by
  obtain ⟨w, rfl, rfl, rx⟩ := hy
  obtain ⟨ds, rfl, h1⟩ := gT_of hb
  obtain ⟨a, xs, rfl, h2, h3⟩ := rx.tup
  split at h1
  · rename_i c d e f
    cases h3 with
    | cons q1 h3 =>
    cases h3 with
    | cons q2 h3 =>
    cases h3 with
    | cons q3 h3 =>
    cases h3 with
    | cons q4 h3 =>
    cases h3
    refine ⟨a, _, rfl, same_t hr.fh h2, rfl, _, _, rfl, _, _, rfl, _, _, rfl, _, [], rfl, rfl, ?_⟩
    refine kk _ _ F M _ hr .refl ((((hs.set (.d q1) i).set (.d q2) j).set (.d q3) k).set (.d q4) l) ?_ h1
    rw [wipe_set (by simp), wipe_set (by simp), wipe_set (by simp), wipe_set (by simp)]
  · exact h1.elim
end
end Tl
set_option Elab.async false
set_option linter.all false
set_option maxRecDepth 100000
set_option maxHeartbeats 4000000
/-! Objects of own classes: fields, methods, making one. -/
namespace Tl
open PySem PySem.Spec PyProof.Rows L2
/-! ### fields -/
def putW (f : Str) (v : W) : List (Str × W) → List (Str × W)
  | [] => [(f, v)]
  | (g, x) :: r => if g = f then (g, v) :: r else (g, x) :: putW f v r
inductive gPut (f : Str) (v : W) (fs : List (Str × W)) (k : List (Str × W) → Prop) : Prop where
  | mk (q : k (putW f v fs))
theorem gPut_n {f : Str} {v : W} {k : List (Str × W) → Prop} (q : k [(f, v)]) : gPut f v [] k := .mk q
theorem gPut_0 {f : Str} {v x : W} {r : List (Str × W)} {k : List (Str × W) → Prop} (q : k ((f, v) :: r)) : gPut f v ((f, x) :: r) k := .mk (by rw [putW, if_pos rfl]; exact q)
theorem gPut_s {f g : Str} {v x : W} {r : List (Str × W)} {k : List (Str × W) → Prop} (h : (g == f) = false) (q : gPut f v r fun r' => k ((g, x) :: r')) : gPut f v ((g, x) :: r) k := by
  obtain ⟨q⟩ := q
  exact .mk (by rw [putW, if_neg (fun z => by rw [z] at h; simp at h)]; exact q)
theorem exI {o : Option MO} {C dx : Addr} {fs : List (Str × W)} {k : Addr → Addr → List (Str × W) → Prop} (h : o = some (.ins C dx fs)) (q : k C dx fs) : ∃ C dx fs, o = some (.ins C dx fs) ∧ k C dx fs := ⟨C, dx, fs, h, q⟩
theorem exI2 {o : Option MO} {C dx : Addr} {fs : List (Str × W)} {k : Addr → List (Str × W) → Prop} (h : o = some (.ins C dx fs)) (q : k dx fs) : ∃ dx fs, o = some (.ins C dx fs) ∧ k dx fs := ⟨dx, fs, h, q⟩
section
variable {K : PySem.W.Frag} {F H : Hp} {M : Mem}
theorem prR_lookup {F : Hp} : ∀ {fv : List (Str × V)} {fw : List (Str × W)} {f : Str} {w : W}, PrR K F fv fw → fw.lookup f = some w → ∃ v, fv.lookup f = some v ∧ RW K F v w
  | [], [], _, _, _, h => by cases h
  | [], _ :: _, _, _, h, _ => by have := h.1; simp at this
  | _ :: _, [], _, _, h, _ => by have := h.1; simp at this
  | (a, x) :: fv, (b, y) :: fw, f, w, h, e => by
    obtain ⟨h1, h2⟩ := h
    simp only [List.map_cons, List.cons.injEq] at h1
    obtain ⟨e1, e2⟩ := h1
    subst e1
    cases h2 with
    | cons r1 r2 =>
      rw [List.lookup] at e ⊢
      cases c : f == a with
      | true => rw [c] at e; cases e; exact ⟨x, rfl, r1⟩
      | false => rw [c] at e; exact prR_lookup ⟨e2, r2⟩ e
theorem prR_none {F : Hp} : ∀ {fv : List (Str × V)} {fw : List (Str × W)} {f : Str}, PrR K F fv fw → fw.lookup f = none → fv.lookup f = none
  | [], _, _, _, _ => rfl
  | _ :: _, [], _, h, _ => by have := h.1; simp at this
  | (a, x) :: fv, (b, y) :: fw, f, h, e => by
    obtain ⟨h1, h2⟩ := h
    simp only [List.map_cons, List.cons.injEq] at h1
    obtain ⟨e1, e2⟩ := h1
    subst e1
    cases h2 with
    | cons r1 r2 =>
      rw [List.lookup] at e ⊢
      cases c : f == a with
      | true => rw [c] at e; cases e
      | false => rw [c] at e; exact prR_none ⟨e2, r2⟩ e
theorem prR_put {F : Hp} {f : Str} {v : V} {w : W} (r : RW K F v w) : ∀ {fv : List (Str × V)} {fw : List (Str × W)}, PrR K F fv fw → PrR K F (putF f v fv) (putW f w fw)
  | [], [], _ => ⟨rfl, .cons r .nil⟩
  | [], _ :: _, h => by have := h.1; simp at this
  | _ :: _, [], h => by have := h.1; simp at this
  | (a, x) :: fv, (b, y) :: fw, h => by
    obtain ⟨h1, h2⟩ := h
    simp only [List.map_cons, List.cons.injEq] at h1
    obtain ⟨e1, e2⟩ := h1
    subst e1
    cases h2 with
    | cons r1 r2 =>
      rw [putF, putW]
      by_cases c : a = f
      · rw [if_pos c, if_pos c]
        exact ⟨by simp [e2], .cons r r2⟩
      · rw [if_neg c, if_neg c]
        obtain ⟨q1, q2⟩ := prR_put r (fv := fv) (fw := fw) ⟨e2, r2⟩
        exact ⟨by simp [q1], .cons r1 q2⟩
theorem PrR.len {F : Hp} {fv : List (Str × V)} {fw : List (Str × W)} (h : PrR K F fv fw) : fv.length = fw.length := by
  have := congrArg List.length h.1
  simpa using this
theorem Rl.ins (h : Rl K F H M) {a C dx : Addr} {fw : List (Str × W)} (e : M a = some (.ins C dx fw)) : ∃ fv, H a = some (.ins C dx fv) ∧ PrR K F fv fw := by
  obtain ⟨u, h1, fv, rfl, h2⟩ := h.at_ a _ e
  exact ⟨fv, h1, h2⟩
end
section
variable {K : PySem.W.Frag} {Wx : WX} {RE : REx}
@[reducible] def fldT (K : PySem.W.Frag) (f : Str) (T : TDE) : TDE := fun ρ M R => T ρ M fun x M1 => gR x fun a => ∃ C dx fs, M1 a = some (.ins C dx fs) ∧ (L2.Cls K C ∧ NoAttr K C f) ∧ gO (List.lookup f fs) fun w => R w M1
theorem se_fld {f : Str} {t : TE} {T : TDE} (h : SE K Wx RE t T) : SE K Wx RE (tFld K t f) (fldT K f T) := fun F H M σ ρ R Q hr hx hs ht k =>
  h F H M σ ρ _ _ hr hx hs ht fun v H1 F1 M1 x r1 g1 rx h1 => by
    obtain ⟨a, rfl, C, dx, fs, hM, ⟨hc, hn⟩, h2⟩ := gR_of h1
    obtain ⟨w, hl, h3⟩ := gO_of h2
    obtain ⟨fv, e1, e2⟩ := r1.ins hM
    obtain ⟨u, e3, e4⟩ := prR_lookup e2 hl
    exact ⟨a, C, dx, fv, u, rx.ref, e1, hc, hn, e3, k u H1 F1 M1 w r1 g1 e4 h3⟩
@[reducible] def setF (K : PySem.W.Frag) (f : Str) (T O : TDE) : TDS := fun D ρ M => T ρ M fun y M1 => O ρ M1 fun x M2 => gR x fun a => ∃ C dx fs, M2 a = some (.ins C dx fs) ∧ (L2.Cls K C ∧ NoAttr K C f ∧ fs.length < 1000) ∧ gPut f y fs fun fs' => D.nx ρ (mset M2 a (.ins C dx fs'))
theorem ss_fld {f : Str} {tv to : TE} {T O : TDE} (h1 : SE K Wx RE tv T) (h2 : SE K Wx RE to O) : SSt K Wx RE (sFld K to tv f) (setF K f T O) := fun F H M σ ρ D E hr hx hs ht k =>
  h1 F H M σ ρ _ _ hr hx hs ht fun v H1 F1 M1 y r1 g1 ry q1 => h2 F1 H1 M1 σ ρ _ _ r1 (hx.mono g1) (hs.mono g1.ff) q1 fun o H2 F2 M2 x r2 g2 rx q2 => by
    obtain ⟨a, rfl, C, dx, fs, hM, ⟨hc, hn, hl⟩, ⟨q3⟩⟩ := gR_of q2
    obtain ⟨fv, e1, e2⟩ := r2.ins hM
    have e3 := prR_put (f := f) (ry.mono g2.ff) e2
    obtain ⟨r3, g3⟩ := r2.put (u := .ins C dx (putF f v fv)) (o := .ins C dx (putW f y fs)) hM ⟨_, rfl, e3⟩
    have g := (g1.trans g2).trans g3
    exact ⟨a, C, dx, fv, rx.ref, e1, hc, hn, by rw [e2.len]; exact hl, k.nx σ _ _ _ ρ r3 g (hs.mono g.ff) q3⟩
/-! ### methods -/
@[reducible] def methT (C : Addr) (m : Str) (f : TF) (T : TDE) (U : TDA) : TDE := fun ρ M R => T ρ M fun x M1 => gR x fun a => ∃ dx fs, M1 a = some (.ins C dx fs) ∧ List.lookup m fs = none ∧ U ρ M1 fun xs M2 => f (.r a :: xs) M2 R fun _ _ => False
theorem se_meth {C : Addr} {m : Str} {n : Nat} {f : TF} {E : XK} {to : TE} {t : TA} {T : TDE} {U : TDA} (h1 : SE K Wx RE to T) (h2 : SAn K Wx RE n t U) : SE K Wx RE (tMeth C m (spD K (n + 1) f) [] E to t) (methT C m f T U) := fun F H M σ ρ R Q hr hx hs ht k =>
  h1 F H M σ ρ _ _ hr hx hs ht fun v H1 F1 M1 x r1 g1 rx q1 => by
    obtain ⟨a, rfl, dx, fs, hM, hl, q2⟩ := gR_of q1
    obtain ⟨fv, e1, e2⟩ := r1.ins hM
    refine ⟨a, dx, fv, rx.ref, e1, prR_none e2 hl, h2 F1 H1 M1 σ ρ _ _ r1 (hx.mono g1) (hs.mono g1.ff) q2 fun vs H2 F2 M2 xs r2 g2 rxs hl2 q3 => ?_⟩
    show spD K (n + 1) f (v :: (vs ++ [])) H2 Q E
    rw [List.append_nil]
    exact ⟨F2, M2, _, R, _, r2, .cons (rx.mono g2.ff) rxs, by rw [List.length_cons, hl2], q3, fun w H3 F3 M3 z r3 g3 rz hz => k w H3 F3 M3 z r3 ((g1.trans g2).trans g3) rz hz, fun cls d H' F' M' x _ _ _ z => z.elim⟩
/-- a, b = x, y -/
@[reducible] def parT (i j : Nat) (T : TDA) : TDS := fun D ρ M => T ρ M fun xs M1 => g2 xs fun x y => D.nx (put (put ρ i (some x)) j (some y)) M1
theorem ss_par {i j n : Nat} {t : TA} {T : TDA} (h : SAn K Wx RE n t T) : SSt K Wx RE (tPar i j t) (parT i j T) := fun F H M σ ρ D E hr hx hs ht k =>
  h F H M σ ρ _ _ hr hx hs ht fun vs H1 F1 M1 xs r1 g1 rxs hl q1 => by
    obtain ⟨x, y, rfl, q2⟩ := g2_of q1
    obtain ⟨v, u, rfl, rv, ru⟩ := rxs.two
    exact ⟨v, u, rfl, k.nx _ H1 F1 M1 _ r1 g1 (((hs.mono g1.ff).set rv i).set ru j) q2⟩
/-! ### making one -/
@[reducible] def makeX (RE : REx) (C : Addr) (f : TF) (U : TDA) : TDE := fun ρ M R => U ρ M fun xs M1 => ∀ a dx, M1 a = none → f (.r a :: xs) (mset M1 a (.ins C dx [])) (fun v M2 => v = .d .none ∧ R (.r a) M2) fun x M' => RE x ρ M'
theorem Rl.made {F H : Hp} {M : Mem} (h : Rl K F H M) {x dx C : Addr} (e1 : H x = none) (e2 : H dx = none) (hne : dx ≠ x) : Rl K F (upd (upd H dx (.own x)) x (.ins C dx [])) (mset M x (.ins C dx [])) ∧ Gr F H M F (upd (upd H dx (.own x)) x (.ins C dx [])) (mset M x (.ins C dx [])) := by
  obtain ⟨r1, g1⟩ := h.same (same_new (o := .own x) e2)
  have e3 : upd H dx (.own x) x = none := by rw [upd_ne (fun z => hne z.symm)]; exact e1
  obtain ⟨r2, g2⟩ := r1.born (u := .ins C dx []) (o := .ins C dx []) e3 ⟨[], rfl, rfl, .nil⟩
  exact ⟨r2, g1.trans g2⟩
def tMakeS (C : Addr) (sp : Sp) (E : L2.St → XK) (t : TA) : TE := fun σ H Q => t σ H fun vs H1 => ∀ x dx, H1 x = none → H1 dx = none → dx ≠ x →
  sp (.ref x :: vs) (upd (upd H1 dx (.own x)) x (.ins C dx [])) (fun v H2 => v = .non ∧ Q (.ref x) H2) (E σ)
theorem se_makeX {C : Addr} {n : Nat} {f : TF} {t : TA} {U : TDA} (h : SAn K Wx RE n t U) : SE K Wx RE (tMakeS C (spD K (n + 1) f) (WE Wx) t) (makeX RE C f U) := fun F H M σ ρ R Q hr hx hs ht k =>
  h F H M σ ρ _ _ hr hx hs ht fun vs H1 F1 M1 xs r1 g1 rxs hl q1 x dx e1 e2 hne => by
    obtain ⟨r2, g2⟩ := r1.made (C := C) e1 e2 hne
    refine ⟨F1, _, _, _, _, r2, .cons (.r x) (rxs.mono g2.ff), by rw [List.length_cons, hl], q1 x dx (r1.new e1), fun w H3 F3 M3 z r3 g3 rz hz => ?_, fun cls d H' F' M' y r3 g3 xr z => hx F' H' M' σ ρ cls d y ((g1.trans g2).trans g3) r3 (hs.mono ((g1.trans g2).trans g3).ff) xr z⟩
    obtain ⟨rfl, hz⟩ := hz
    exact ⟨rz.non, k _ H3 F3 M3 _ r3 ((g1.trans g2).trans g3) (.r x) hz⟩
end
end Tl
set_option Elab.async false
set_option linter.all false
set_option maxRecDepth 100000
set_option maxHeartbeats 4000000
/-! Errors with a field, raised. -/
namespace Tl
open PySem PySem.Spec PyProof.Rows L2
def inClsN (s : Stmt) (i : Nat) : Stmt := match s with
  | .ClassDef _ _ _ b _ _ _ _ _ _ _ => b.getD i (.Pass ⟨0, 0, 0, 0⟩)
  | _ => .Pass ⟨0, 0, 0, 0⟩
def spInitF (K : PySem.W.Frag) (C : Addr) (fld : Str) : Sp := fun vs H Q _ => ∃ (a : Addr) (v : V), vs = [.ref a, v] ∧ H a = some (exo a C none) ∧ ∀ dx, H dx = none → dx ≠ a → Q .non (upd (upd H dx (exd dx [(fld, v)])) a (exo a C (some dx)))
/-- an own error with one field, as the top has left it -/
structure ErF (K : PySem.W.Frag) (mg : Str → Option Value) (nm qual fld : Str) (st : Stmt) (C : Addr) : Prop where
  o : OexC K C
  g : mg nm = some (.ref C)
  n : PySem.W.findIn K (.ref C) fld = some none
  i : ∃ fI fdI, PySem.W.findIn K (.ref C) "__init__" = some (some (.ref fI)) ∧ PySem.W.typeIn K (.ref fI) = some (.type "function") ∧ Fun K "__init__" qual st fI fdI
section
variable {K : PySem.W.Frag} {Wx : WX} {RE : REx}
@[reducible] def raiseF (RE : REx) (C : Addr) (fld : Str) (T : TDA) : TDS := fun _ ρ M => T ρ M fun xs M1 => g1 xs fun x => gD x fun d => RE ⟨.ref C, [(fld, d)]⟩ ρ M1
theorem ss_raiseF {C : Addr} {fld : Str} {n : Nat} {t : TA} {T : TDA} (h : SAn K Wx RE n t T) : SSt K Wx RE (fun _ σ H => tMkO C (spInitF K C fld) [] t σ H fun cls d H' => Wx cls d σ H') (raiseF RE C fld T) := fun F H M σ ρ D E hr hx hs ht k =>
  h F H M σ ρ _ _ hr hx hs ht fun vs H1 F1 M1 xs r1 g1 rxs hl q1 => by
    obtain ⟨x, rfl, q2⟩ := g1_of q1
    obtain ⟨d, rfl, q3⟩ := gD_of q2
    obtain ⟨v, rfl, rv⟩ := rxs.one
    refine ⟨by show 1 ≤ 1000; decide, fun a ha => ⟨a, v, rfl, upd_same, fun dx hd1 hd2 => ⟨rfl, dx, [(fld, v)], upd_same, ?_, ?_, ?_⟩⟩⟩
    · rw [upd_ne hd2]
      exact upd_same
    · rw [upd_ne hd2] at hd1
      exact hd1
    · rw [upd_ne hd2] at hd1
      have e : upd (L2.del (upd (upd (upd H1 a (exo a C none)) dx (exd dx [(fld, v)])) a (exo a C (some dx))) a) dx (.xd [(fld, v)]) = upd H1 dx (.xd [(fld, v)]) := by
        funext b
        by_cases c : b = dx
        · rw [c, upd_same, upd_same]
        · rw [upd_ne c, upd_ne c]
          by_cases c2 : b = a
          · subst c2
            show (if b = b then none else _) = _
            rw [if_pos rfl, ha]
          · rw [L2.del_ne c2, upd_ne c2, upd_ne c, upd_ne c2]
      rw [e]
      obtain ⟨r2, g2⟩ := r1.fresh (u := .xd [(fld, v)]) hd1
      have g := g1.trans g2
      refine hx (upd F1 dx (.xd [(fld, v)])) _ M1 σ ρ (.ref C) (some dx) ⟨.ref C, [(fld, d)]⟩ g r2 (hs.mono g.ff) ⟨rfl, [(fld, v)], upd_same, rfl, .cons (Dx.mono g2.ff _ _ rv.dx) .nil⟩ q3
/-! ### isinstance of data, one of some built-in classes -/
def tyAny (d : PyData) : List String → Option Bool
  | [] => some false
  | n :: r => (tyIs d n).bind fun b => if b = true then some true else tyAny d r
inductive gNs (ys : List W) (k : List String → Prop) : Prop where
  | mk (ns : List String) (h : ys = ns.map fun n => W.o (.ty n)) (q : k ns)
theorem gNs_n {k : List String → Prop} (q : k []) : gNs [] k := .mk [] rfl q
theorem gNs_c {n : String} {r : List W} {k : List String → Prop} (h : gNs r fun ns => k (n :: ns)) : gNs (.o (.ty n) :: r) k := by
  obtain ⟨ns, rfl, q⟩ := h
  exact .mk (n :: ns) rfl q
theorem tyAny_lt {d : PyData} : tyAny d ["list", "tuple"] = some (isList d || isTup d) := by
  rw [tyAny, tyAny, tyAny, tyIs_list, tyIs_tuple]
  cases isList d <;> cases isTup d <;> rfl
end
end Tl
set_option Elab.async false
set_option linter.all false
set_option maxRecDepth 100000
set_option maxHeartbeats 4000000
/-! list and tuple of a range; a list taken apart; equal data. -/
namespace Tl
open PySem L2
mutual
theorem eqv_self : ∀ d : PyData, d.hasDict = false → PyData.eqv d d = true
  | .none, _ => rfl
  | .bool b, _ => by rw [PyData.eqv]; exact beq_self_eq_true b
  | .int i, _ => by rw [PyData.eqv]; exact beq_self_eq_true i
  | .str x, _ => by rw [PyData.eqv]; exact beq_self_eq_true x
  | .list ds, h => by rw [PyData.hasDict] at h; rw [PyData.eqv]; exact eqvAll_self ds h
  | .tuple ds, h => by rw [PyData.hasDict] at h; rw [PyData.eqv]; exact eqvAll_self ds h
  | .dict _, h => by rw [PyData.hasDict] at h; cases h
theorem eqvAll_self : ∀ ds : List PyData, PyData.hasDictAll ds = false → PyData.eqvAll ds ds = true
  | [], _ => rfl
  | d :: r, h => by
    rw [PyData.hasDictAll, Bool.or_eq_false_iff] at h
    rw [PyData.eqvAll, eqv_self d h.1, eqvAll_self r h.2]
    rfl
end
end Tl
set_option Elab.async false
set_option linter.all false
set_option maxRecDepth 100000
set_option maxHeartbeats 4000000
/-! Slices of lists stored; tables by words (dicts that the top has left for good). -/
namespace Tl
open PySem PySem.Spec PyProof.Rows L2
/-! ### x in a list, of any data -/
theorem room65 {k : Nat} {A : Around} (r : Room k A) : A.units + 65 < cLine := by have := r.un; omega
/-! ### slices, by places -/
theorem cut_last {α : Type} {xs : List α} : cut xs none (some (-1)) = xs.dropLast := by
  unfold cut
  have e : HT.sIx xs.length xs.length (some (-1)) = xs.length - 1 := by
    unfold HT.sIx
    simp only
    split <;> (try split) <;> omega
  rw [HT.sIx_none, e, Nat.sub_zero, List.drop_zero, List.dropLast_eq_take]
theorem cut_1 {α : Type} {xs : List α} : cut xs (some 1) none = xs.drop 1 := cut_from (k := 1)
/-! ### tables -/
/-- what stands in a table: a def, or data -/
inductive TV where
  | f (a : Addr)
  | d (x : PyData)
@[reducible] def TV.w : TV → W
  | .f a => .o (.ref a)
  | .d x => .d x
end Tl
set_option Elab.async false
set_option linter.all false
set_option maxRecDepth 100000
set_option maxHeartbeats 4000000
namespace Tl
open PySem L2 RZ
local macro_rules
  | `(tactic| decreasing_trivial) => `(tactic| ((with_reducible (conv => whnf)); (repeat ((first | (with_reducible refine gDs_c ?_) | (with_reducible refine gDs_n ?_) | (with_reducible refine gNs_c ?_) | (with_reducible refine gNs_n ?_) | (with_reducible refine gO_i tyAny_lt ?_) | (with_reducible refine gIs_c ?_) | (with_reducible refine gIs_n ?_) | (with_reducible refine gBs_c ?_) | (with_reducible refine gBs_n ?_) | (with_reducible refine gSs_c ?_) | (with_reducible refine gSs_n ?_) | (with_reducible refine gO_i tyIs_int ?_) | (with_reducible refine gO_i tyIs_bool ?_) | (with_reducible refine gO_i tyIs_str ?_) | (with_reducible refine gO_i tyIs_tuple ?_) | (with_reducible refine gO_i tyIs_list ?_) | (with_reducible refine gDs_i ?_) | (with_reducible refine gO_i (Eq.refl _) ?_) | (with_reducible refine gO_i (by assumption) ?_) | (with_reducible refine gO_i at_0 ?_) | (with_reducible refine gO_i at_m0 ?_) | (with_reducible refine gO_i at_1 ?_) | (with_reducible refine gO_i at_m1 ?_) | (with_reducible refine gO_i at_2 ?_) | (with_reducible refine gO_i at_m2 ?_) | (with_reducible refine gO_i at_3 ?_) | (with_reducible refine gO_i at_m3 ?_) | (with_reducible refine gO_i at_4 ?_) | (with_reducible refine gO_i at_m4 ?_) | (with_reducible refine gO_i at_5 ?_) | (with_reducible refine gO_i at_m5 ?_) | (with_reducible refine gO_i at_6 ?_) | (with_reducible refine gO_i at_m6 ?_) | (with_reducible refine gO_i at_7 ?_) | (with_reducible refine gO_i at_m7 ?_) | (with_reducible refine IfB.ngf ?_) | (with_reducible refine IfB.ngt ?_) | (with_reducible refine IfB.not ?_) | (with_reducible refine IfB.nil ?_) | (with_reducible refine IfB.nilT ?_) | (with_reducible refine IfB.f isE_c ?_) | (with_reducible refine IfB.t isE_n ?_) | (with_reducible refine IfB.t ?gha ?_; (case gha => rfl)) | (with_reducible refine IfB.f ?gha ?_; (case gha => rfl)) | (with_reducible refine IfB.t ?gha ?_; (case gha => assumption)) | (with_reducible refine IfB.f ?gha ?_; (case gha => assumption)) | (with_reducible refine IfB.yes (Eq.refl _) ?_) | (with_reducible refine IfB.yes ?gha ?_; (case gha => (first | omega | (simp only [len_c, len_n, List.length_map]; omega)))) | (with_reducible refine IfB.no ?gha ?_; (case gha => (first | omega | (simp only [len_c, len_n, List.length_map]; omega)))) | (with_reducible refine IfB.t ?gha ?_; (case gha => decide +kernel)) | (with_reducible refine IfB.f ?gha ?_; (case gha => decide +kernel))); (with_reducible (conv => whnf))))))
local macro_rules
  | `(tactic| decreasing_trivial_pre_omega) => `(tactic| (decreasing_trivial; (repeat ((first | ((with_reducible refine And.intro ?gha ?_); (case gha => (first | assumption | omega | exact rfl | (exact mset_same) | (exact ⟨_, mset_same⟩) | (exact Exists.intro _ (by first | exact mset_same | assumption | (rw [mset_ne (by assumption)]; first | exact mset_same | assumption))) | (exact sm_of (by omega) (by omega)) | (exact sz1000 (by first | omega | (simp; done) | (simp; omega))) | (exact Or.inl ⟨by decide, by decide⟩) | decide | (simp; done) | (refine ⟨?_, ?_⟩ <;> (first | assumption | omega | exact rfl | (exact mset_same) | (exact ⟨_, mset_same⟩) | (exact Exists.intro _ (by first | exact mset_same | assumption | (rw [mset_ne (by assumption)]; first | exact mset_same | assumption))) | (exact sm_of (by omega) (by omega)) | (exact sz1000 (by first | omega | (simp; done) | (simp; omega))) | (exact Or.inl ⟨by decide, by decide⟩) | decide | (simp; done))) | (refine ⟨?_, ?_, ?_⟩ <;> (first | assumption | omega | exact rfl | (exact mset_same) | (exact ⟨_, mset_same⟩) | (exact Exists.intro _ (by first | exact mset_same | assumption | (rw [mset_ne (by assumption)]; first | exact mset_same | assumption))) | (exact sm_of (by omega) (by omega)) | (exact sz1000 (by first | omega | (simp; done) | (simp; omega))) | (exact Or.inl ⟨by decide, by decide⟩) | decide | (simp; done))) | (refine ⟨?_, ?_, ?_, ?_⟩ <;> (first | assumption | omega | exact rfl | (exact mset_same) | (exact ⟨_, mset_same⟩) | (exact Exists.intro _ (by first | exact mset_same | assumption | (rw [mset_ne (by assumption)]; first | exact mset_same | assumption))) | (exact sm_of (by omega) (by omega)) | (exact sz1000 (by first | omega | (simp; done) | (simp; omega))) | (exact Or.inl ⟨by decide, by decide⟩) | decide | (simp; done)))))) | (with_reducible refine exW (by first | exact mset_same | assumption | (rw [mset_ne (by assumption)]; first | exact mset_same | assumption)) ?_)); decreasing_trivial))))
def top (i : Nat) : Stmt := PySem.Challenge.pw_treelore_k48_whole_top_matchings.main.body.getD i (.Pass ⟨0, 0, 0, 0⟩)
section
variable {P : Program} {w : World} {K : PySem.W.Frag} {mg : Str → Option Value} {base : Heap}
abbrev sIsCount : Stmt := top 12
theorem scCount : FnScope ["thing"] ["thing"] (defScope sIsCount) := ⟨rfl, rfl, rfl, by decide +kernel, rfl, by decide +kernel, by decide +kernel⟩
theorem ok_count {f : Addr} {fd : FuncData} {k : Nat} (F : Fun K "is_count" "is_count" sIsCount f fd) (T : Bl mg) : FnOk P w K mg base CX0 (k + 1) f fd ["thing"] (spD K 1 (tfB isCount)) := by
  refine okD F scCount rfl fun cdv A outer s H E hr => ?_
  refine ⟨_, _, (pss_one (ps_ret (pe_and (pe_callB (r := rIsi K) call_isi (by rfl) T.isi PyProof.Rows.boot_isinstance (pa_cons (pv 0) (pa_cons (b_int T) pa_nil))) (pe_and (pe_not (pe_callB (r := rIsi K) call_isi (by rfl) T.isi PyProof.Rows.boot_isinstance (pa_cons (pv 0) (pa_cons (b_bool T) pa_nil)))) (pe_one (pe_cmpR op_ge (pv 0) pe_int (nomark _))))))),
    (ss_ret (se_and (se_cb sc_isi (sa_cons se_nm (sa_cons se_o sa_nil))) (se_and (se_not (se_cb sc_isi (sa_cons se_nm (sa_cons se_o sa_nil)))) (se_op so_ge se_nm se_int)))), fun ws M R RX hl h => ?_⟩
  obtain ⟨x, rfl, h1⟩ := g1_of h
  obtain ⟨d, rfl, ht, h2⟩ := gD_of h1
  cases d <;> (simp only [start0, len_c, len_n, map_c, map_n, app_c, app_n, rep_0, rep_s, Nat.reduceAdd, Nat.reduceSub]; decreasing_trivial; exact h2)
abbrev sIsNumber : Stmt := top 13
theorem scNumber : FnScope ["thing", "most"] ["thing", "most"] (defScope sIsNumber) := ⟨rfl, rfl, rfl, by decide +kernel, rfl, by decide +kernel, by decide +kernel⟩
theorem ok_number {f : Addr} {fd : FuncData} {k j : Nat} (F : Fun K "is_number" "is_number" sIsNumber f fd) (Uis_count : Use P w K mg base "is_count" ["thing"] j (spD K 1 (tfB isCount))) (hj : j ≤ k) (T : Bl mg) : FnOk P w K mg base CX0 (k + 1) f fd ["thing", "most"] (spD K 2 (tfB2 isNum)) := by
  refine okD F scNumber rfl fun cdv A outer s H E hr => ?_
  refine ⟨_, _, (pss_one (ps_ret (pe_and (pe_call Uis_count.ok (hr.mono (by omega)) rfl Uis_count.m Uis_count.kp Uis_count.b .nil pass0 (pa_cons (pv 0) pa_nil)) (pe_one (pe_cmpR op_le (pv 0) (pv 1) (nomark _)))))),
    (ss_ret (se_and (se_call (sa_cons se_nm sa_nil)) (se_op so_le se_nm se_nm))), fun ws M R RX hl h => ?_⟩
  obtain ⟨x, y, rfl, h1⟩ := g2_of h
  obtain ⟨d, rfl, h2⟩ := gD_of h1
  obtain ⟨m, rfl, ht, h3⟩ := gI_of h2
  simp only [start0, len_c, len_n, map_c, map_n, app_c, app_n, rep_0, rep_s, Nat.reduceAdd, Nat.reduceSub]
  decreasing_trivial_pre_omega
  cases d with
  | int i =>
    rw [isCount]
    rw [isNum] at h3
    refine IfB.d (fun c => ?_) (fun c => ?_)
    · decreasing_trivial_pre_omega
      rw [decide_eq_true c, Bool.true_and] at h3
      exact h3
    · decreasing_trivial_pre_omega
      rw [decide_eq_false c, Bool.false_and] at h3
      exact h3
  | _ => refine IfB.f rfl ?_; decreasing_trivial_pre_omega; exact h3
abbrev sIsTag : Stmt := top 14
theorem scTag : FnScope ["thing", "sign"] ["thing"] (defScope sIsTag) := ⟨rfl, rfl, rfl, by decide +kernel, rfl, by decide +kernel, by decide +kernel⟩
theorem ok_tag {f : Addr} {fd : FuncData} {k : Nat} (F : Fun K "is_tag" "is_tag" sIsTag f fd) (T : Bl mg) (C : Cs mg) : FnOk P w K mg base CX0 (k + 1) f fd ["thing"] (spD K 1 (tfB isTag)) := by
  refine okD F scTag rfl fun cdv A outer s H E hr => ?_
  refine ⟨_, _, (pss_cons (ps_if (PW.pt (pw_or (pt_not (pt_val (pe_callB (r := rIsi K) call_isi (by rfl) T.isi PyProof.Rows.boot_isinstance (pa_cons (pv 0) (pa_cons (b_str T) pa_nil))))) (pw_or1 (pt_not (pt_chain op_le op_le pe_int (pe_callB call_len_str (by rfl) T.len PySem.boot_len (pa_cons (pv 0) pa_nil)) (c_SIGNS C)))))) (pss_one (ps_ret pe_bl)) pss_nil)
    (pss_one (ps_ret (pe_callB (cr_all rfl) (by rfl) T.all PyProof.Rows.boot_all (pa_cons (pe_lc (own := [("sign", 1)]) (g := gName 1) (tt := tYes) (by rfl) scTag.nd (pi_str (pv 0)) (blkOk_by (N := ["thing", "sign"]) (sc := defScope sIsTag) (own := [("sign", 1)]) (by decide +kernel)) (fun _ _ _ _ _ => pg_name (i := 1) scTag.nd rfl (Or.inl rfl)) (fun _ _ _ _ _ => pts_nil) (fun _ _ _ _ _ => (pe_chain op_le_str op_le_str pe_str (pv 1) pe_str))) pa_nil))))),
    (ss_cons (ss_if (st_or (st_not (st_val (se_cb sc_isi (sa_cons se_nm (sa_cons se_o sa_nil))))) (st_not (st_test (se_chain so_le so_le se_int (se_cb sc_lenS (sa_cons se_nm sa_nil)) se_int)))) (ss_ret se_bl) ss_nil)
    (ss_ret (se_cb sc_all (sa_cons (se_lcF (si_str se_nm) sg_name st_yes (se_chain so_leS so_leS se_str se_nm se_str)) sa_nil)))), fun ws M R RX hl h => ?_⟩
  obtain ⟨x, rfl, h1⟩ := g1_of h
  obtain ⟨d, rfl, ht, h2⟩ := gD_of h1
  cases d with
  | str z =>
    have hz : z.length ≤ 1000 := (txt_str ht).1
    simp only [start0, len_c, len_n, map_c, map_n, app_c, app_n, rep_0, rep_s, Nat.reduceAdd, Nat.reduceSub]
    decreasing_trivial_pre_omega
    rw [isTag] at h2
    refine IfB.d (fun c1 => ?_) (fun c1 => ?_)
    · rw [decide_eq_true (p := 1 ≤ z.length) (by omega)] at h2
      decreasing_trivial_pre_omega
      refine IfB.d (fun c2 => ?_) (fun c2 => ?_)
      · rw [decide_eq_true (p := z.length ≤ 8) (by omega)] at h2
        decreasing_trivial_pre_omega
        unfold signs
        refine lc1 (fun c => .d (.bool (small c))) trivial (fun c _ Rk q => ?_) (sz1000 (by show z.length ≤ 1000; omega)) ?_
        · decreasing_trivial_pre_omega
          rw [show decide ((⟨#[c]⟩ : Str).cps.toList < ("a" : Str).cps.toList) = !decide (97 ≤ c) by rw [← le_a, Bool.not_not]]
          unfold small at q
          decreasing_trivial_pre_omega
          refine IfB.d (fun c3 => ?_) (fun c3 => ?_)
          · decreasing_trivial_pre_omega
            rw [decide_eq_true c3, Bool.true_and] at q
            show Rk (W.d (.bool (!decide (("z" : Str).cps.toList < (⟨#[c]⟩ : Str).cps.toList)))) M
            rw [le_z c]
            exact q
          · decreasing_trivial_pre_omega
            rw [decide_eq_false c3] at q
            exact q
        · rw [show (z.cps.toList.map fun c => W.d (.bool (small c))) = (z.cps.toList.map fun c => PyData.bool (small c)).map W.d by rw [List.map_map]; rfl, gDs_map]
          decreasing_trivial_pre_omega
          rw [List.map_map]
          show gBs (z.cps.toList.map fun c => W.d (.bool (small c))) _
          rw [gBs_map]
          simpa using h2
      · rw [decide_eq_false (p := z.length ≤ 8) (by omega)] at h2
        decreasing_trivial_pre_omega
        exact h2
    · rw [decide_eq_false (p := 1 ≤ z.length) (by omega)] at h2
      decreasing_trivial_pre_omega
      exact h2
  | _ => simp only [start0, len_c, len_n, map_c, map_n, app_c, app_n, rep_0, rep_s, Nat.reduceAdd, Nat.reduceSub]; decreasing_trivial_pre_omega; exact h2
abbrev sTagKids : Stmt := top 18
theorem scTagKids : FnScope ["thing"] ["thing"] (defScope sTagKids) := ⟨rfl, rfl, rfl, by decide +kernel, rfl, by decide +kernel, by decide +kernel⟩
theorem ok_tagKids {f : Addr} {fd : FuncData} {k j : Nat} (F : Fun K "is_tag_and_kids" "is_tag_and_kids" sTagKids f fd) (Uis_tag : Use P w K mg base "is_tag" ["thing"] j (spD K 1 (tfB isTag))) (hj : j ≤ k) (T : Bl mg) : FnOk P w K mg base CX0 (k + 1) f fd ["thing"] (spD K 1 (tfB tagKids)) := by
  refine okD F scTagKids rfl fun cdv A outer s H E hr => ?_
  refine ⟨_, _, (pss_one (ps_ret (pe_and (pe_callB (r := rIsi K) call_isi (by rfl) T.isi PyProof.Rows.boot_isinstance (pa_cons (pv 0) (pa_cons (b_tuple T) pa_nil))) (pe_and (pe_cmpR op_eq (pe_callB call_len_seq (by rfl) T.len PySem.boot_len (pa_cons (pv 0) pa_nil)) pe_int (nomark _)) (pe_and (pe_call Uis_tag.ok (hr.mono (by omega)) rfl Uis_tag.m Uis_tag.kp Uis_tag.b .nil pass0 (pa_cons (pe_ix ix_tup (pv 0) pe_int (fun _ _ => rfl)) pa_nil)) (pe_one (pe_callB (r := rIsi K) call_isi (by rfl) T.isi PyProof.Rows.boot_isinstance (pa_cons (pe_ix ix_tup (pv 0) pe_int (fun _ _ => rfl)) (pa_cons (b_tuple T) pa_nil))))))))),
    (ss_ret (se_and (se_cb sc_isi (sa_cons se_nm (sa_cons se_o sa_nil))) (se_and (se_op so_eqS (se_cb sc_len (sa_cons se_nm sa_nil)) se_int) (se_and (se_call (sa_cons (se_op so_ixT se_nm se_int) sa_nil)) (se_cb sc_isi (sa_cons (se_op so_ixT se_nm se_int) (sa_cons se_o sa_nil))))))), fun ws M R RX hl h => ?_⟩
  obtain ⟨x, rfl, h1⟩ := g1_of h
  obtain ⟨d, rfl, ht, h2⟩ := gD_of h1
  cases d with
  | tuple ds =>
    match ds with
    | [] => simp only [start0, len_c, len_n, map_c, map_n, app_c, app_n, rep_0, rep_s, Nat.reduceAdd, Nat.reduceSub]; decreasing_trivial_pre_omega; exact h2
    | [_] => simp only [start0, len_c, len_n, map_c, map_n, app_c, app_n, rep_0, rep_s, Nat.reduceAdd, Nat.reduceSub]; decreasing_trivial_pre_omega; exact h2
    | _ :: _ :: _ :: _ => simp only [start0, len_c, len_n, map_c, map_n, app_c, app_n, rep_0, rep_s, Nat.reduceAdd, Nat.reduceSub]; decreasing_trivial_pre_omega; exact h2
    | [a, b] =>
      have hta : txt a = true := by rw [txt] at ht; exact txtAll_get (i := 0) ht rfl
      rw [tagKids] at h2
      simp only [start0, len_c, len_n, map_c, map_n, app_c, app_n, rep_0, rep_s, Nat.reduceAdd, Nat.reduceSub]
      decreasing_trivial_pre_omega
      cases c : isTag a
      · rw [c] at h2; decreasing_trivial_pre_omega; exact h2
      · rw [c] at h2; decreasing_trivial_pre_omega; exact h2
  | _ => simp only [start0, len_c, len_n, map_c, map_n, app_c, app_n, rep_0, rep_s, Nat.reduceAdd, Nat.reduceSub]; decreasing_trivial_pre_omega; exact h2
abbrev sRoom : Stmt := top 17
theorem scRoom : FnScope ["thing", "levels", "room", "left", "kid"] ["thing", "levels", "room"] (defScope sRoom) := ⟨rfl, rfl, rfl, by decide +kernel, rfl, by decide +kernel, by decide +kernel⟩
theorem ok_room1 {f : Addr} {fd : FuncData} {n j : Nat} (F : Fun K "room_behind" "room_behind" sRoom f fd) (Uroom_behind : Use P w K mg base "room_behind" ["thing", "levels", "room"] (2 + n) (spD K 3 (tfRoom n))) (Uis_tag_and_kids : Use P w K mg base "is_tag_and_kids" ["thing"] j (spD K 1 (tfB tagKids))) (hj : j ≤ 2) (T : Bl mg) :
    FnOk P w K mg base CX0 (2 + n + 1) f fd ["thing", "levels", "room"] (spD K 3 (tfRoom (n + 1))) := by
  refine okD F scRoom rfl fun cdv A outer s H E hr => ?_
  refine ⟨_, _, (pss_cons (ps_if (PW.pt (pw_or (pt_cmpR op_eq (pv 1) pe_int (nomark _)) (pw_or (pt_cmpR op_eq (pv 2) pe_int (nomark _)) (pw_or1 (pt_not (pt_val (pe_call Uis_tag_and_kids.ok (hr.mono (by omega)) rfl Uis_tag_and_kids.m Uis_tag_and_kids.kp Uis_tag_and_kids.b .nil pass0 (pa_cons (pv 0) pa_nil)))))))) (pss_one (ps_ret pe_non)) pss_nil)
    (pss_cons (ps_set (i := 3) scRoom.nd rfl (.inl rfl) (pe_op op_sub (pv 2) pe_int))
    (pss_cons (ps_for PassesOwn.never rfl (pi_tup (pe_ix ix_tup (pv 0) pe_int (fun _ _ => rfl))) (pg_name (i := 4) scRoom.nd rfl (.inl rfl)) (pss_cons (ps_set (i := 3) scRoom.nd rfl (.inl rfl) (pe_call Uroom_behind.ok (hr.mono (by omega)) rfl Uroom_behind.m Uroom_behind.kp Uroom_behind.b .nil pass0 (pa_cons (pv 4) (pa_cons (pe_op op_sub (pv 1) pe_int) (pa_cons (pv 3) pa_nil)))))
      (pss_one (ps_if (pt_cmpR op_isN (pv 3) pe_non (nomark _)) (pss_one (ps_ret pe_non)) pss_nil))))
    (pss_one (ps_ret (pv 3)))))),
    (ss_cons (ss_if (st_or (st_test (se_op so_eqS se_nm se_int)) (st_or (st_test (se_op so_eqS se_nm se_int)) (st_not (st_val (se_call (sa_cons se_nm sa_nil)))))) (ss_ret se_non) ss_nil)
    (ss_cons (ss_set (se_op so_sub se_nm se_int))
    (ss_cons (ss_for (si_tup (se_op so_ixT se_nm se_int)) sg_name (ss_cons (ss_set (se_call (sa_cons se_nm (sa_cons (se_op so_sub se_nm se_int) (sa_cons se_nm sa_nil)))))
      (ss_if (st_test (se_op so_isN se_nm se_non)) (ss_ret se_non) ss_nil)))
    (ss_ret se_nm)))), fun ws M R RX hl h => ?_⟩
  obtain ⟨d, l, r, rfl, ht, hln, h2⟩ := h
  simp only [start0, len_c, len_n, map_c, map_n, app_c, app_n, rep_0, rep_s, Nat.reduceAdd, Nat.reduceSub]
  decreasing_trivial_pre_omega
  refine IfB.d (fun c => ?_) (fun c => ?_)
  · decreasing_trivial_pre_omega
    have e : l = 0 := by omega
    subst e
    exact h2
  obtain ⟨l, rfl⟩ : ∃ l', l = l' + 1 := ⟨l - 1, by omega⟩
  decreasing_trivial_pre_omega
  refine IfB.d (fun c2 => ?_) (fun c2 => ?_)
  · decreasing_trivial_pre_omega
    have e : r = 0 := by omega
    subst e
    exact h2
  obtain ⟨r, rfl⟩ : ∃ r', r = r' + 1 := ⟨r - 1, by omega⟩
  decreasing_trivial_pre_omega
  rw [roomB] at h2
  cases c3 : tagKids d with
  | false =>
    rw [c3] at h2
    decreasing_trivial_pre_omega
    exact h2
  | true =>
    rw [c3, if_pos rfl] at h2
    decreasing_trivial_pre_omega
    obtain ⟨a0, ks, rfl⟩ : ∃ a0 ks, d = .tuple [a0, .tuple ks] := by
      unfold tagKids at c3
      split at c3
      · rename_i a b
        cases b with
        | tuple ks => exact ⟨a, ks, rfl⟩
        | _ => simp [isTup] at c3
      · cases c3
    have ht2 : txtAll ks = true := by
      rw [txt, txtAll, txtAll, txt] at ht
      simp only [Bool.and_eq_true] at ht
      exact ht.2.1
    rw [kidsD] at h2
    decreasing_trivial_pre_omega
    refine for1 (fun i ρ M' => ∃ (m : Nat) (y : Option W), ρ = [some (.d (.tuple [a0, .tuple ks])), some (.d (.int ((l + 1 : Nat) : Int))), some (.d (.int ((r + 1 : Nat) : Int))), some (.d (.int (m : Int))), y] ∧ M' = M ∧ (ks.take i).foldl (fun o kd => o.bind (roomB l kd)) (some r) = some m)
      ⟨r, none, by show [some _, some _, some _, some (W.d (.int (((r + 1 : Nat) : Int) - 1))), none] = _; rw [show (((r + 1 : Nat) : Int) - 1) = (r : Int) by omega], rfl, rfl⟩ (fun _ _ _ _ _ => trivial) (fun i kd ρ M' N hk p hN => ?_) (fun ρ M' p => ?_)
    · obtain ⟨m, y, rfl, rfl, hm⟩ := p
      have hf : (ks.take (i + 1)).foldl (fun o kd => o.bind (roomB l kd)) (some r) = roomB l kd m := by
        rw [List.take_add_one, hk, List.foldl_append, hm]
        rfl
      decreasing_trivial_pre_omega
      refine ⟨kd, l, m, by show [W.d kd, W.d (.int (((l + 1 : Nat) : Int) - 1)), W.d (.int (m : Int))] = _; rw [show (((l + 1 : Nat) : Int) - 1) = (l : Int) by omega], txtAll_get ht2 hk, by omega, ?_⟩
      cases hr2 : roomB l kd m with
      | none =>
        rw [hr2] at hf
        decreasing_trivial_pre_omega
        have e : ks.foldl (fun o kd => o.bind (roomB l kd)) (some r) = none := by
          rw [← List.take_append_drop (i + 1) ks, List.foldl_append, hf]
          exact fold_none _ _
        rw [e] at h2
        exact h2
      | some m' =>
        decreasing_trivial_pre_omega
        exact hN _ _ ⟨m', _, rfl, rfl, by rw [hf]; exact hr2⟩
    · obtain ⟨m, y, rfl, rfl, hm⟩ := p
      rw [List.take_length] at hm
      rw [hm] at h2
      exact h2
theorem ok_room {f : Addr} {fd : FuncData} {j : Nat} (F : Fun K "room_behind" "room_behind" sRoom f fd) (mF : mg "room_behind" = some (.ref f)) (Uis_tag_and_kids : Use P w K mg base "is_tag_and_kids" ["thing"] j (spD K 1 (tfB tagKids))) (hj : j ≤ 2) (T : Bl mg) :
    ∀ n, FnOk P w K mg base CX0 (2 + n) f fd ["thing", "levels", "room"] (spD K 3 (tfRoom n))
  | 0 => no0 fun ws M R RX ⟨_, _, _, _, _, h, _⟩ => by omega
  | n + 1 => ok_room1 F ⟨f, fd, ok_room F mF Uis_tag_and_kids hj T n, mF, F.kp, F.binds (ps := ["thing", "levels", "room"]) fun _ _ _ _ _ _ us hl => match us, hl with | [_, _, _], _ => rfl⟩ Uis_tag_and_kids hj T
abbrev sIsTree : Stmt := top 16
theorem scTree : FnScope ["thing"] ["thing"] (defScope sIsTree) := ⟨rfl, rfl, rfl, by decide +kernel, rfl, by decide +kernel, by decide +kernel⟩
theorem ok_tree {f : Addr} {fd : FuncData} {k j : Nat} (F : Fun K "is_tree" "is_tree" sIsTree f fd) (Uroom_behind : Use P w K mg base "room_behind" ["thing", "levels", "room"] j (spD K 3 (tfRoom 13))) (hj : j ≤ k) (C : Cs mg) : FnOk P w K mg base CX0 (k + 1) f fd ["thing"] (spD K 1 (tfB isTreeD)) := by
  refine okD F scTree rfl fun cdv A outer s H E hr => ?_
  refine ⟨_, _, (pss_one (ps_ret (pe_cmpR op_notN (pe_call Uroom_behind.ok (hr.mono (by omega)) rfl Uroom_behind.m Uroom_behind.kp Uroom_behind.b .nil pass0 (pa_cons (pv 0) (pa_cons (c_DEPTH C) (pa_cons (c_SIZE C) pa_nil)))) pe_non (nomark _)))),
    (ss_ret (se_op so_notN (se_call (sa_cons se_nm (sa_cons se_int (sa_cons se_int sa_nil)))) se_non)), fun ws M R RX hl h => ?_⟩
  obtain ⟨x, rfl, h1⟩ := g1_of h
  obtain ⟨d, rfl, ht, h2⟩ := gD_of h1
  simp only [start0, len_c, len_n, map_c, map_n, app_c, app_n, rep_0, rep_s, Nat.reduceAdd, Nat.reduceSub]
  decreasing_trivial_pre_omega
  refine ⟨d, 12, 60, rfl, ht, by omega, ?_⟩
  unfold isTreeD at h2
  cases hr : roomB 12 d 60 <;> (rw [hr] at h2; decreasing_trivial_pre_omega; exact h2)
abbrev sChkTree : Stmt := top 19
theorem scChkTree : FnScope ["thing"] ["thing"] (defScope sChkTree) := ⟨rfl, rfl, rfl, by decide +kernel, rfl, by decide +kernel, by decide +kernel⟩
theorem ok_chkTree {f C : Addr} {fd : FuncData} {k j : Nat} (F : Fun K "check_tree" "check_tree" sChkTree f fd) (XNoTree : Er K mg "NoTree" C) (Uis_tree : Use P w K mg base "is_tree" ["thing"] j (spD K 1 (tfB isTreeD))) (hj : j ≤ k) :
    FnOk P w K mg base (L2.CX P w) (k + 1) f fd ["thing"] (spD K 1 (tfChk isTreeD C)) := by
  refine okDX F scChkTree rfl fun cdv A outer s H E hr => ?_
  refine ⟨_, fun RE => _, (pss_one (ps_if (pt_not (pt_val (PE.nox (pe_call Uis_tree.ok (hr.mono (by omega)) rfl Uis_tree.m Uis_tree.kp Uis_tree.b .nil pass0 (pa_cons (pv 0) pa_nil))))) (pss_one (ps_raise rfl (takes_of (E := E) rfl rfl rfl rfl) (pmk_own0 PySem.F.excBase_ValueError XNoTree.x XNoTree.g XNoTree.k (raises_own XNoTree.b XNoTree.t) (by exact rfl)))) pss_nil)), fun RE => (ss_if (st_not (st_val (se_call (sa_cons se_nm sa_nil)))) ss_raise0 ss_nil), fun ws M R RX hl h => ?_⟩
  obtain ⟨x, rfl, h1⟩ := g1_of h
  obtain ⟨d, rfl, ht, h2, h3⟩ := gD_of h1
  simp only [start0, len_c, len_n, map_c, map_n, app_c, app_n, rep_0, rep_s, Nat.reduceAdd, Nat.reduceSub]
  decreasing_trivial_pre_omega
  cases c : isTreeD d
  · decreasing_trivial_pre_omega
    exact h3 c
  · decreasing_trivial_pre_omega
    exact h2 c
end
end Tl
set_option Elab.async false
set_option linter.all false
set_option maxRecDepth 100000
set_option maxHeartbeats 8000000
namespace Tl
open PySem L2 RZ
/-- a number below m from the source at st -/
@[reducible] def tfNext (b : Bool) : TF := fun ws M R _ => g2 ws fun x y => gR x fun st => gI y fun m => (M st = some (.src b) ∧ 1 ≤ m ∧ m ≤ 100000) ∧ ∀ r : Int, 0 ≤ r → r < m → R (.d (.int r)) M
theorem fm_pos (x : Int) {m : Int} (h : 0 < m) : 0 ≤ x.fmod m ∧ x.fmod m < m := ⟨Int.fmod_nonneg_of_pos x h, Int.fmod_lt_of_pos x h⟩
theorem fd_pos {x m : Int} (hx : 0 ≤ x) (h : 0 < m) : 0 ≤ x.fdiv m := by
  rw [Int.fdiv_eq_ediv_of_nonneg _ (Int.le_of_lt h)]
  exact Int.ediv_nonneg hx (Int.le_of_lt h)
theorem at4 {c : Addr} {i p z : Int} : atI [V.ref c, .int i, .int p, .int z] 0 = some (.ref c) ∧ atI [V.ref c, .int i, .int p, .int z] 1 = some (.int i) ∧ atI [V.ref c, .int i, .int p, .int z] 2 = some (.int p) ∧ atI [V.ref c, .int i, .int p, .int z] 3 = some (.int z) :=
  ⟨atI_nat (j := 0) rfl, atI_nat (j := 1) rfl, atI_nat (j := 2) rfl, atI_nat (j := 3) rfl⟩
theorem nz51 : (2305843009213693951 : Int) ≠ 0 := by decide
theorem nz29 : (2147483629 : Int) ≠ 0 := by decide
section
variable {P : Program} {w : World} {K : PySem.W.Frag} {mg : Str → Option Value} {base : Heap}
/-- the source as it stands, and how it goes on -/
theorem src_at {b : Bool} {F H : Hp} {M : Mem} {st : Addr} {R : W → Mem → Prop} {Q : VK} {m : Int} (hr : Rl K F H M) (hM : M st = some (.src b)) (hk : Kt K F H M R Q) (q : ∀ r : Int, 0 ≤ r → r < m → R (.d (.int r)) M) :
    ∃ (c : Addr) (cs : List Int) (i p z : Int), H st = some (.lst [.ref c, .int i, .int p, .int z]) ∧ SqL K H c (cs.map V.int) ∧ (∀ H0 o, Same H H0 → SqL K (upd H0 st o) c (cs.map V.int)) ∧ cs.length ≤ 63 ∧ (b = true → 0 < cs.length) ∧ 0 ≤ i ∧ 0 ≤ p ∧ 0 ≤ z ∧ z < (if b = true then 2147483647 else 2305843009213693951) ∧
      ∀ (H0 : Hp), Same H H0 → ∀ r i' p' z' : Int, 0 ≤ r → r < m → 0 ≤ i' → 0 ≤ p' → 0 ≤ z' → z' < (if b = true then 2147483647 else 2305843009213693951) → Q (.int r) (upd H0 st (.lst [.ref c, .int i', .int p', .int z'])) := by
  obtain ⟨_, h1, _, rfl, c, cs, i, p, z, rfl, hc, hl, hl0, hi, hp, hz0, hz1⟩ := hr.at_ st _ hM
  refine ⟨c, cs, i, p, z, h1, same_l hr.fh hc, fun H0 o e0 => same_l (same_mut (hr.same e0).1.fh ((hr.same e0).1.mf _ _ hM)) hc, hl, hl0, hi, hp, hz0, hz1, fun H0 e0 r i' p' z' g1 g2 g3 g4 g5 g6 => ?_⟩
  obtain ⟨r1, gg⟩ := hr.same e0
  obtain ⟨r2, g⟩ := r1.put (u := .lst [.ref c, .int i', .int p', .int z']) (o := .src b) hM ⟨_, rfl, c, cs, i', p', z', rfl, hc, hl, hl0, g3, g4, g5, g6⟩
  rw [mset_id hM] at r2 g
  exact hk _ _ _ _ _ r2 (gg.trans g) (.d (.int _)) (q r g1 g2)
theorem dp_ints {H : Hp} : ∀ cs : List Int, DpAll K H (cs.map V.int) (cs.map PyData.int)
  | [] => .nil
  | c :: r => .cons (.int c) (dp_ints r)
theorem ints_shaped (cs : List Int) : SeqAt.shaped (.list (cs.map PyData.int)) = true := flat_shaped (by
  rw [List.all_map, List.all_eq_true]
  intro x _
  rfl)
theorem iteN' {c : Bool} {A B : Prop} (h1 : c = false → A) (h2 : c = true → B) : if (!c) = true then A else B := by
  cases c
  · exact h1 rfl
  · exact h2 rfl
abbrev sTake : Stmt := top 54
theorem scTake : FnScope ["_law_state", "_law_below", "_law_cell", "_law_found"] ["_law_state", "_law_below"] (defScope sTake) := ⟨rfl, rfl, rfl, by decide +kernel, rfl, by decide +kernel, by decide +kernel⟩
theorem ok_take {f : Addr} {fd : FuncData} {k : Nat} (F : Fun K "_law_take" "_law_take" sTake f fd) (T : Bl mg) : FnOk P w K mg base CX0 (k + 1) f fd ["_law_state", "_law_below"] (spD K 2 (tfNext false)) := by
  refine F.ok scTake (fun vs H Q E h => ?_) (fun cdv A outer s H vs Q E hr h => ?_)
  · obtain ⟨F0, M, ws, R, RX, r, rs, hl, _⟩ := h
    rw [rs.len, hl]
    rfl
  obtain ⟨F0, M, ws, R, RX, hr0, rs, _, hf, hk, _⟩ := h
  obtain ⟨x0, y0, rfl, hf1⟩ := g2_of hf
  obtain ⟨st, rfl, hf2⟩ := gR_of hf1
  obtain ⟨m, rfl, ⟨hM, hm0, hm1⟩, q0⟩ := gI_of hf2
  obtain ⟨v1, v2, rfl, e1, e2⟩ := rs.two
  obtain rfl := e1.ref
  obtain rfl := e2.int
  obtain ⟨c, cs, i, p, z, h1, h2, h3, hl, hl0, hi, hp, hz0, hz1, q⟩ := src_at hr0 hM hk q0
  rw [if_neg (by decide)] at hz1
  simp only [Bool.false_eq_true, if_false] at q
  refine ⟨_, (pss_cons (ps_if (pt_cmpR op_gt (pe_ix ix_list (pv 0) pe_int (fun _ _ => rfl)) pe_int (nomark _)) (pss_cons (ps_set (i := 3) scTake.nd rfl (.inl rfl) (pe_op op_modN (pe_ix ix_list (pv 0) pe_int (fun _ _ => rfl)) (pv 1)))
      (pss_cons (ps_asg (pe_op op_fdivN (pe_ix ix_list (pv 0) pe_int (fun _ _ => rfl)) (pv 1)) (pg_sub (pv 0) pe_int set_list))
      (pss_one (ps_ret (pv 3))))) pss_nil)
    (pss_cons (ps_set (i := 2) scTake.nd rfl (.inl rfl) (pe_ix ix_list (pv 0) pe_int (fun _ _ => rfl)))
    (pss_cons (ps_if (pt_cmpR (op_neD hr.units) (pe_ix ix_list (pv 0) pe_int (fun _ _ => rfl)) (pe_lst pa_nil) (nomark _)) (pss_one (ps_set (i := 2) scTake.nd rfl (.inl rfl) (pe_ix ix_list (pe_ix ix_list (pv 0) pe_int (fun _ _ => rfl)) (pe_op op_modN (pe_ix ix_list (pv 0) pe_int (fun _ _ => rfl)) (pe_callB call_len_seq (by rfl) T.len PySem.boot_len (pa_cons (pe_ix ix_list (pv 0) pe_int (fun _ _ => rfl)) pa_nil))) (fun _ _ => rfl)))) pss_nil)
    (pss_cons (ps_asg (pe_op op_add (pe_ix ix_list (pv 0) pe_int (fun _ _ => rfl)) pe_int) (pg_sub (pv 0) pe_int set_list))
    (pss_cons (ps_if (PW.pt (pw_and (pt_cmpR op_ge (pv 2) (pe_op op_pow pe_int pe_int) (nomark _)) (pw_and1 (pt_cmpR op_le (pe_ix ix_list (pv 0) pe_int (fun _ _ => rfl)) (pe_callB call_len_seq (by rfl) T.len PySem.boot_len (pa_cons (pe_ix ix_list (pv 0) pe_int (fun _ _ => rfl)) pa_nil)) (nomark _))))) (pss_cons (ps_asg (pe_op op_fdivN (pv 2) (pv 1)) (pg_sub (pv 0) pe_int set_list))
      (pss_one (ps_ret (pe_op op_modN (pv 2) (pv 1))))) pss_nil)
    (pss_cons (ps_set (i := 2) scTake.nd rfl (.inl rfl) (pe_op op_modN (pv 2) pe_int))
    (pss_cons (ps_asg (pe_op op_modN (pe_op op_add (pe_op op_add (pe_op op_mul (pe_ix ix_list (pv 0) pe_int (fun _ _ => rfl)) pe_int) (pe_op op_mul (pv 2) pe_int)) (pe_ix ix_list (pv 0) pe_int (fun _ _ => rfl))) pe_int) (pg_sub (pv 0) pe_int set_list))
    (pss_one (ps_ret (pe_op op_modN (pe_op op_fdivN (pe_op op_modN (pe_op op_mul (pe_ix ix_list (pv 0) pe_int (fun _ _ => rfl)) (pe_ix ix_list (pv 0) pe_int (fun _ _ => rfl))) pe_int) pe_int) (pv 1))))))))))), ?_⟩
  have hm30 : m ≠ 0 ∧ m.natAbs < 1073741824 := ⟨by omega, by omega⟩
  refine ⟨_, rfl, st, _, 2, _, rfl, rfl, SqL.of h1, at4.2.2.1, p, 0, rfl, rfl, _, rfl, ?_⟩
  refine iteD (fun cc => ?_) (fun cc => ?_)
  · refine ⟨_, rfl, st, _, 2, _, rfl, rfl, SqL.of h1, at4.2.2.1, _, rfl, p, m, rfl, rfl, hm30.1, ?_⟩
    refine ⟨_, rfl, st, _, 2, _, rfl, rfl, SqL.of h1, at4.2.2.1, _, rfl, p, m, rfl, rfl, hm30, ?_⟩
    refine ⟨_, rfl, st, _, 2, 2, rfl, rfl, h1, rfl, ?_⟩
    refine ⟨_, rfl, ?_⟩
    exact q H (Same.refl _) _ _ _ _ (fm_pos p (by omega)).1 (fm_pos p (by omega)).2 hi (fd_pos hp (by omega)) hz0 hz1
  · refine ⟨_, rfl, st, _, 1, _, rfl, rfl, SqL.of h1, at4.2.1, ?_⟩
    refine ⟨_, rfl, st, _, 0, _, rfl, rfl, SqL.of h1, at4.1, by show 0 ≤ sizeLine; decide, fun p0 hp0 => ?_⟩
    have e01 : Same H (upd H p0 (.lst [])) := same_new hp0
    have nst : st ≠ p0 := ne_of_none h1 hp0
    have g1 : (upd H p0 (.lst [])) st = some (.lst [V.ref c, .int i, .int p, .int z]) := by rw [upd_ne nst]; exact h1
    have g2 : SqL K (upd H p0 (.lst [])) c (cs.map V.int) := same_l e01 h2
    have g0 : Dp K (upd H p0 (.lst [])) (.ref p0) (.list []) := .lst (SqL.of upd_same) .nil
    generalize upd H p0 (.lst []) = H1 at e01 g1 g2 g0 ⊢
    have gd1 : Dp K H1 (.ref c) (.list (cs.map PyData.int)) := .lst g2 (dp_ints cs)
    refine ⟨_, _, gd1, g0, ints_shaped cs, by decide +kernel, _, rfl, ?_⟩
    rw [eqv_nil]
    refine iteN' (fun cc2 => ?_) (fun cc2 => ?_)
    · have hne : 0 < cs.length := by
        rcases Nat.eq_zero_or_pos cs.length with e | e
        · rw [List.eq_nil_of_length_eq_zero e] at cc2
          cases cc2
        · exact e
      have hlen : (cs.map V.int).length = cs.length := List.length_map _
      have hf := fm_pos i (m := ((cs.map V.int).length : Nat)) (by rw [hlen]; omega)
      obtain ⟨j, ej⟩ : ∃ j : Nat, i.fmod ((cs.map V.int).length : Nat) = (j : Int) := ⟨(i.fmod ((cs.map V.int).length : Nat)).toNat, by omega⟩
      have hj : j < cs.length := by rw [hlen] at hf; rw [hlen] at ej; omega
      have hat : atI (cs.map V.int) (i.fmod ((cs.map V.int).length : Nat)) = some (.int cs[j]) := by
        rw [ej]
        exact atI_nat (by rw [List.getElem?_map, List.getElem?_eq_getElem hj]; rfl)
      generalize cs[j] = x at hat
      refine ⟨_, rfl, st, _, 0, _, rfl, rfl, SqL.of g1, at4.1, _, rfl, st, _, 1, _, rfl, rfl, SqL.of g1, at4.2.1, _, rfl, st, _, 0, _, rfl, rfl, SqL.of g1, at4.1, c, _, rfl, .inl g2, i, _, rfl, rfl, by rw [hlen]; omega, c, _, _, _, rfl, rfl, g2, hat, ?_⟩
      refine ⟨_, rfl, st, _, 1, _, rfl, rfl, SqL.of g1, at4.2.1, i, 1, rfl, rfl, _, rfl, st, _, 1, 1, rfl, rfl, g1, rfl, ?_⟩
      have g1' : (upd H1 st (.lst [V.ref c, .int (i + 1), .int p, .int z])) st = some (.lst [V.ref c, .int (i + 1), .int p, .int z]) := upd_same
      have g2' := h3 H1 (.lst [V.ref c, .int (i + 1), .int p, .int z]) e01
      have fin2 : ∀ (r p' z' : Int), 0 ≤ r → r < m → 0 ≤ p' → 0 ≤ z' → z' < 2305843009213693951 → Q (.int r) (upd (upd H1 st (.lst [V.ref c, .int (i + 1), .int p, .int z])) st (.lst [V.ref c, .int (i + 1), .int p', .int z'])) := fun r p' z' g1 g2 g3 g4 g5 => by
        rw [upd_upd]
        exact q H1 e01 _ _ _ _ g1 g2 (by omega) g3 g4 g5
      refine ⟨_, rfl, 10, 18, rfl, rfl, ⟨by decide, by decide, by decide⟩, x, _, rfl, rfl, _, rfl, ?_⟩
      refine iteD (fun c1 => ?_) (fun c1 => ?_)
      · refine ⟨_, rfl, st, _, 1, _, rfl, rfl, SqL.of g1', at4.2.1, _, rfl, st, _, 0, _, rfl, rfl, SqL.of g1', at4.1, c, _, rfl, .inl g2', _, _, rfl, rfl, _, rfl, ?_⟩
        refine iteD (fun c2 => ?_) (fun c2 => ?_)
        · refine ⟨_, rfl, _, rfl, x, m, rfl, rfl, hm30, _, rfl, st, _, 2, 2, rfl, rfl, g1', rfl, ?_⟩
          refine ⟨_, rfl, _, rfl, x, m, rfl, rfl, hm30.1, ?_⟩
          exact fin2 _ _ _ (fm_pos x (by omega)).1 (fm_pos x (by omega)).2 (fd_pos (Int.le_trans (by decide) c1) (by omega)) hz0 hz1
        · skip
          refine ⟨_, rfl, _, 2305843009213693951, rfl, rfl, nz51, ?_⟩
          have hx1 := fm_pos x (m := 2305843009213693951) (by decide)
          refine ⟨_, rfl, st, _, 3, _, rfl, rfl, SqL.of g1', at4.2.2.2, z, 48271, rfl, rfl, .inl ⟨by omega, by omega⟩, _, rfl, x.fmod 2305843009213693951, 69621, rfl, rfl, .inl ⟨by omega, by omega⟩, _, _, rfl, rfl, _, rfl, st, _, 1, _, rfl, rfl, SqL.of g1', at4.2.1, _, _, rfl, rfl, _, 2305843009213693951, rfl, rfl, nz51, _, rfl, st, _, 3, 3, rfl, rfl, g1', rfl, ?_⟩
          have hb := fm_pos (z * 48271 + x.fmod 2305843009213693951 * 69621 + (i + 1)) (m := 2305843009213693951) (by decide)
          refine ⟨_, rfl, st, _, 3, _, rfl, rfl, SqL.of upd_same, at4.2.2.2, _, rfl, st, _, 3, _, rfl, rfl, SqL.of upd_same, at4.2.2.2, _, _, rfl, rfl, .inl ⟨by omega, by omega⟩, _, 2147483629, rfl, rfl, nz29, _, 8, rfl, rfl, ⟨by decide, by decide⟩, _, rfl, _, m, rfl, rfl, hm30.1, ?_⟩
          exact fin2 _ _ _ (fm_pos _ (by omega)).1 (fm_pos _ (by omega)).2 hp hb.1 hb.2
      · skip
        refine ⟨_, rfl, _, 2305843009213693951, rfl, rfl, nz51, ?_⟩
        have hx1 := fm_pos x (m := 2305843009213693951) (by decide)
        refine ⟨_, rfl, st, _, 3, _, rfl, rfl, SqL.of g1', at4.2.2.2, z, 48271, rfl, rfl, .inl ⟨by omega, by omega⟩, _, rfl, x.fmod 2305843009213693951, 69621, rfl, rfl, .inl ⟨by omega, by omega⟩, _, _, rfl, rfl, _, rfl, st, _, 1, _, rfl, rfl, SqL.of g1', at4.2.1, _, _, rfl, rfl, _, 2305843009213693951, rfl, rfl, nz51, _, rfl, st, _, 3, 3, rfl, rfl, g1', rfl, ?_⟩
        have hb := fm_pos (z * 48271 + x.fmod 2305843009213693951 * 69621 + (i + 1)) (m := 2305843009213693951) (by decide)
        refine ⟨_, rfl, st, _, 3, _, rfl, rfl, SqL.of upd_same, at4.2.2.2, _, rfl, st, _, 3, _, rfl, rfl, SqL.of upd_same, at4.2.2.2, _, _, rfl, rfl, .inl ⟨by omega, by omega⟩, _, 2147483629, rfl, rfl, nz29, _, 8, rfl, rfl, ⟨by decide, by decide⟩, _, rfl, _, m, rfl, rfl, hm30.1, ?_⟩
        exact fin2 _ _ _ (fm_pos _ (by omega)).1 (fm_pos _ (by omega)).2 hp hb.1 hb.2
    · obtain ⟨x, hx⟩ : ∃ x : Int, x = i := ⟨i, rfl⟩
      rw [← hx]
      clear hx
      refine ⟨_, rfl, st, _, 1, _, rfl, rfl, SqL.of g1, at4.2.1, i, 1, rfl, rfl, _, rfl, st, _, 1, 1, rfl, rfl, g1, rfl, ?_⟩
      have g1' : (upd H1 st (.lst [V.ref c, .int (i + 1), .int p, .int z])) st = some (.lst [V.ref c, .int (i + 1), .int p, .int z]) := upd_same
      have g2' := h3 H1 (.lst [V.ref c, .int (i + 1), .int p, .int z]) e01
      have fin2 : ∀ (r p' z' : Int), 0 ≤ r → r < m → 0 ≤ p' → 0 ≤ z' → z' < 2305843009213693951 → Q (.int r) (upd (upd H1 st (.lst [V.ref c, .int (i + 1), .int p, .int z])) st (.lst [V.ref c, .int (i + 1), .int p', .int z'])) := fun r p' z' g1 g2 g3 g4 g5 => by
        rw [upd_upd]
        exact q H1 e01 _ _ _ _ g1 g2 (by omega) g3 g4 g5
      refine ⟨_, rfl, 10, 18, rfl, rfl, ⟨by decide, by decide, by decide⟩, x, _, rfl, rfl, _, rfl, ?_⟩
      refine iteD (fun c1 => ?_) (fun c1 => ?_)
      · refine ⟨_, rfl, st, _, 1, _, rfl, rfl, SqL.of g1', at4.2.1, _, rfl, st, _, 0, _, rfl, rfl, SqL.of g1', at4.1, c, _, rfl, .inl g2', _, _, rfl, rfl, _, rfl, ?_⟩
        refine iteD (fun c2 => ?_) (fun c2 => ?_)
        · refine ⟨_, rfl, _, rfl, x, m, rfl, rfl, hm30, _, rfl, st, _, 2, 2, rfl, rfl, g1', rfl, ?_⟩
          refine ⟨_, rfl, _, rfl, x, m, rfl, rfl, hm30.1, ?_⟩
          exact fin2 _ _ _ (fm_pos x (by omega)).1 (fm_pos x (by omega)).2 (fd_pos (Int.le_trans (by decide) c1) (by omega)) hz0 hz1
        · skip
          refine ⟨_, rfl, _, 2305843009213693951, rfl, rfl, nz51, ?_⟩
          have hx1 := fm_pos x (m := 2305843009213693951) (by decide)
          refine ⟨_, rfl, st, _, 3, _, rfl, rfl, SqL.of g1', at4.2.2.2, z, 48271, rfl, rfl, .inl ⟨by omega, by omega⟩, _, rfl, x.fmod 2305843009213693951, 69621, rfl, rfl, .inl ⟨by omega, by omega⟩, _, _, rfl, rfl, _, rfl, st, _, 1, _, rfl, rfl, SqL.of g1', at4.2.1, _, _, rfl, rfl, _, 2305843009213693951, rfl, rfl, nz51, _, rfl, st, _, 3, 3, rfl, rfl, g1', rfl, ?_⟩
          have hb := fm_pos (z * 48271 + x.fmod 2305843009213693951 * 69621 + (i + 1)) (m := 2305843009213693951) (by decide)
          refine ⟨_, rfl, st, _, 3, _, rfl, rfl, SqL.of upd_same, at4.2.2.2, _, rfl, st, _, 3, _, rfl, rfl, SqL.of upd_same, at4.2.2.2, _, _, rfl, rfl, .inl ⟨by omega, by omega⟩, _, 2147483629, rfl, rfl, nz29, _, 8, rfl, rfl, ⟨by decide, by decide⟩, _, rfl, _, m, rfl, rfl, hm30.1, ?_⟩
          exact fin2 _ _ _ (fm_pos _ (by omega)).1 (fm_pos _ (by omega)).2 hp hb.1 hb.2
      · skip
        refine ⟨_, rfl, _, 2305843009213693951, rfl, rfl, nz51, ?_⟩
        have hx1 := fm_pos x (m := 2305843009213693951) (by decide)
        refine ⟨_, rfl, st, _, 3, _, rfl, rfl, SqL.of g1', at4.2.2.2, z, 48271, rfl, rfl, .inl ⟨by omega, by omega⟩, _, rfl, x.fmod 2305843009213693951, 69621, rfl, rfl, .inl ⟨by omega, by omega⟩, _, _, rfl, rfl, _, rfl, st, _, 1, _, rfl, rfl, SqL.of g1', at4.2.1, _, _, rfl, rfl, _, 2305843009213693951, rfl, rfl, nz51, _, rfl, st, _, 3, 3, rfl, rfl, g1', rfl, ?_⟩
        have hb := fm_pos (z * 48271 + x.fmod 2305843009213693951 * 69621 + (i + 1)) (m := 2305843009213693951) (by decide)
        refine ⟨_, rfl, st, _, 3, _, rfl, rfl, SqL.of upd_same, at4.2.2.2, _, rfl, st, _, 3, _, rfl, rfl, SqL.of upd_same, at4.2.2.2, _, _, rfl, rfl, .inl ⟨by omega, by omega⟩, _, 2147483629, rfl, rfl, nz29, _, 8, rfl, rfl, ⟨by decide, by decide⟩, _, rfl, _, m, rfl, rfl, hm30.1, ?_⟩
        exact fin2 _ _ _ (fm_pos _ (by omega)).1 (fm_pos _ (by omega)).2 hp hb.1 hb.2
end
end Tl
set_option Elab.async false
set_option linter.all false
set_option maxRecDepth 100000
set_option maxHeartbeats 4000000
/-! Elders and levels, up to eleven. -/
namespace Tl
open PySem L2
structure RelE11 (es ls : List Nat) : Prop where
  first : ls[0]? = some 1
  lev : ∀ (j l : Nat), ls[j]? = some l → 1 ≤ l ∧ l ≤ 11
  eld : ∀ (j e : Nat), 1 ≤ j → es[j]? = some e → e < j ∧ ∀ (l l' : Nat), ls[e]? = some l → ls[j]? = some l' → l' = l + 1
theorem RelE11.app {es ls : List Nat} (r : RelE11 es ls) {e l : Nat} (hlen : es.length = ls.length) (he : ls[e]? = some l) (hl : l ≤ 10) : RelE11 (es ++ [e]) (ls ++ [l + 1]) := by
  have hel : e < ls.length := (List.getElem?_eq_some_iff.mp he).1
  refine ⟨?_, fun j m h => ?_, fun j e' hj h => ?_⟩
  · rw [List.getElem?_append_left (by omega)]
    exact r.first
  · rcases get_snoc h with ⟨_, h⟩ | ⟨_, rfl⟩
    · exact r.lev j m h
    · omega
  · rcases get_snoc h with ⟨c, h⟩ | ⟨rfl, rfl⟩
    · obtain ⟨h1, h2⟩ := r.eld j e' hj h
      refine ⟨h1, fun a b ha hb => ?_⟩
      rw [List.getElem?_append_left (by omega)] at ha hb
      exact h2 a b ha hb
    · refine ⟨by omega, fun a b ha hb => ?_⟩
      rw [List.getElem?_append_left hel] at ha
      rw [hlen, List.getElem?_append_right (Nat.le_refl _), Nat.sub_self] at hb
      rw [he] at ha
      cases ha
      exact (Option.some.inj hb).symm
theorem RelE11.one : RelE11 [0] [1] := by
  refine ⟨rfl, fun j l h => ?_, fun j e hj h => ?_⟩
  · match j, h with
    | 0, h => have := Option.some.inj h; omega
    | j + 1, h => simp at h
  · match j, h with
    | 0, _ => omega
    | j + 1, h => simp at h
def tags4 : List Str := ["a", "b", "ab", "zz"]
theorem tags4_ok : ∀ s ∈ tags4, 1 ≤ s.length ∧ s.length ≤ 8 ∧ (PyData.strOk s = true ∧ s ∈ tags6) := by decide +kernel
end Tl
set_option Elab.async false
set_option linter.all false
set_option maxRecDepth 100000
set_option maxHeartbeats 8000000
namespace Tl
open PySem L2 RZ
local macro_rules
  | `(tactic| decreasing_trivial) => `(tactic| ((with_reducible (conv => whnf)); (repeat ((first | (with_reducible refine gDs_c ?_) | (with_reducible refine gDs_n ?_) | (with_reducible refine gNs_c ?_) | (with_reducible refine gNs_n ?_) | (with_reducible refine gO_i tyAny_lt ?_) | (with_reducible refine gIs_c ?_) | (with_reducible refine gIs_n ?_) | (with_reducible refine gBs_c ?_) | (with_reducible refine gBs_n ?_) | (with_reducible refine gSs_c ?_) | (with_reducible refine gSs_n ?_) | (with_reducible refine gO_i tyIs_int ?_) | (with_reducible refine gO_i tyIs_bool ?_) | (with_reducible refine gO_i tyIs_str ?_) | (with_reducible refine gO_i tyIs_tuple ?_) | (with_reducible refine gO_i tyIs_list ?_) | (with_reducible refine gDs_i ?_) | (with_reducible refine gO_i (Eq.refl _) ?_) | (with_reducible refine gO_i (by assumption) ?_) | (with_reducible refine gO_i at_0 ?_) | (with_reducible refine gO_i at_m0 ?_) | (with_reducible refine gO_i at_1 ?_) | (with_reducible refine gO_i at_m1 ?_) | (with_reducible refine gO_i at_2 ?_) | (with_reducible refine gO_i at_m2 ?_) | (with_reducible refine gO_i at_3 ?_) | (with_reducible refine gO_i at_m3 ?_) | (with_reducible refine gO_i at_4 ?_) | (with_reducible refine gO_i at_m4 ?_) | (with_reducible refine gO_i at_5 ?_) | (with_reducible refine gO_i at_m5 ?_) | (with_reducible refine gO_i at_6 ?_) | (with_reducible refine gO_i at_m6 ?_) | (with_reducible refine gO_i at_7 ?_) | (with_reducible refine gO_i at_m7 ?_) | (with_reducible refine IfB.ngf ?_) | (with_reducible refine IfB.ngt ?_) | (with_reducible refine IfB.not ?_) | (with_reducible refine IfB.nil ?_) | (with_reducible refine IfB.nilT ?_) | (with_reducible refine IfB.f isE_c ?_) | (with_reducible refine IfB.t isE_n ?_) | (with_reducible refine IfB.t ?gha ?_; (case gha => rfl)) | (with_reducible refine IfB.f ?gha ?_; (case gha => rfl)) | (with_reducible refine IfB.t ?gha ?_; (case gha => assumption)) | (with_reducible refine IfB.f ?gha ?_; (case gha => assumption)) | (with_reducible refine IfB.yes (Eq.refl _) ?_) | (with_reducible refine IfB.yes ?gha ?_; (case gha => (first | omega | (simp only [len_c, len_n, List.length_map]; omega)))) | (with_reducible refine IfB.no ?gha ?_; (case gha => (first | omega | (simp only [len_c, len_n, List.length_map]; omega)))) | (with_reducible refine IfB.t ?gha ?_; (case gha => decide +kernel)) | (with_reducible refine IfB.f ?gha ?_; (case gha => decide +kernel))); (with_reducible (conv => whnf))))))
local macro_rules
  | `(tactic| decreasing_trivial_pre_omega) => `(tactic| (decreasing_trivial; (repeat ((first | ((with_reducible refine And.intro ?gha ?_); (case gha => (first | assumption | omega | exact rfl | (exact mset_same) | (exact ⟨_, mset_same⟩) | (exact Exists.intro _ (by first | exact mset_same | assumption | (rw [mset_ne (by assumption)]; first | exact mset_same | assumption))) | (exact sm_of (by omega) (by omega)) | (exact sz1000 (by first | omega | (simp; done) | (simp; omega))) | (exact Or.inl ⟨by decide, by decide⟩) | decide | (simp; done) | (refine ⟨?_, ?_⟩ <;> (first | assumption | omega | exact rfl | (exact mset_same) | (exact ⟨_, mset_same⟩) | (exact Exists.intro _ (by first | exact mset_same | assumption | (rw [mset_ne (by assumption)]; first | exact mset_same | assumption))) | (exact sm_of (by omega) (by omega)) | (exact sz1000 (by first | omega | (simp; done) | (simp; omega))) | (exact Or.inl ⟨by decide, by decide⟩) | decide | (simp; done))) | (refine ⟨?_, ?_, ?_⟩ <;> (first | assumption | omega | exact rfl | (exact mset_same) | (exact ⟨_, mset_same⟩) | (exact Exists.intro _ (by first | exact mset_same | assumption | (rw [mset_ne (by assumption)]; first | exact mset_same | assumption))) | (exact sm_of (by omega) (by omega)) | (exact sz1000 (by first | omega | (simp; done) | (simp; omega))) | (exact Or.inl ⟨by decide, by decide⟩) | decide | (simp; done))) | (refine ⟨?_, ?_, ?_, ?_⟩ <;> (first | assumption | omega | exact rfl | (exact mset_same) | (exact ⟨_, mset_same⟩) | (exact Exists.intro _ (by first | exact mset_same | assumption | (rw [mset_ne (by assumption)]; first | exact mset_same | assumption))) | (exact sm_of (by omega) (by omega)) | (exact sz1000 (by first | omega | (simp; done) | (simp; omega))) | (exact Or.inl ⟨by decide, by decide⟩) | decide | (simp; done)))))) | (with_reducible refine exW (by first | exact mset_same | assumption | (rw [mset_ne (by assumption)]; first | exact mset_same | assumption)) ?_)); decreasing_trivial))))
/-- a tree of at most so many places -/
@[reducible] def tfTreeL (b : Bool) : TF := fun ws M R _ => g2 ws fun x y => gR x fun st => gI y fun most => (M st = some (.src b) ∧ 1 ≤ most ∧ most ≤ 100) ∧ ∀ d, TrD 11 d → ((wt d : Nat) : Int) ≤ 98 * most → ((nn d : Nat) : Int) ≤ most → R (.d d) M
def nsW (es : List Nat) : List W := es.map fun (n : Nat) => W.d (.int (n : Int))
theorem nsW_get {es : List Nat} {j e : Nat} (h : es[j]? = some e) : atI (nsW es) (j : Int) = some (.d (.int (e : Int))) := atI_nat (by
  unfold nsW
  rw [List.getElem?_map, h]
  rfl)
theorem nsW_app (es : List Nat) (e : Nat) : nsW es ++ [.d (.int (e : Int))] = nsW (es ++ [e]) := by
  unfold nsW
  rw [List.map_append]
  rfl
theorem nsW_len (es : List Nat) : (nsW es).length = es.length := List.length_map _
section
variable {P : Program} {w : World} {K : PySem.W.Frag} {mg : Str → Option Value} {base : Heap}
abbrev sTreeL : Stmt := top 55
theorem scTreeL : FnScope ["_law_state", "_law_most", "_law_tags", "_law_many", "_law_slope", "_law_elders", "_law_levels", "_law_k", "_law_kids", "_law_elder"] ["_law_state", "_law_most"] (defScope sTreeL) := ⟨rfl, rfl, rfl, by decide +kernel, rfl, by decide +kernel, by decide +kernel⟩
theorem ok_treeL {f : Addr} {fd : FuncData} {k j : Nat} (F : Fun K "_law_tree" "_law_tree" sTreeL f fd) (U_law_take : Use P w K mg base "_law_take" ["_law_state", "_law_below"] j (spD K 2 (tfNext false))) (hj : j ≤ k) (T : Bl mg) : FnOk P w K mg base CX0 (k + 1) f fd ["_law_state", "_law_most"] (spD K 2 (tfTreeL false)) := by
  refine okDL F scTreeL rfl fun cdv A outer s H E hr => ?_
  refine ⟨_, _, (pss_cons (ps_set (i := 2) scTreeL.nd rfl (.inl rfl) (pe_lst (pa_cons pe_str (pa_cons pe_str (pa_cons pe_str (pa_cons pe_str pa_nil))))))
    (pss_cons (ps_set (i := 3) scTreeL.nd rfl (.inl rfl) (pe_op op_add pe_int (pe_call U_law_take.ok (hr.mono (by omega)) rfl U_law_take.m U_law_take.kp U_law_take.b .nil pass0 (pa_cons (pv 0) (pa_cons (pv 1) pa_nil)))))
    (pss_cons (ps_set (i := 4) scTreeL.nd rfl (.inl rfl) (pe_call U_law_take.ok (hr.mono (by omega)) rfl U_law_take.m U_law_take.kp U_law_take.b .nil pass0 (pa_cons (pv 0) (pa_cons pe_int pa_nil))))
    (pss_cons (ps_set (i := 5) scTreeL.nd rfl (.inl rfl) (pe_lst (pa_cons pe_int pa_nil)))
    (pss_cons (ps_set (i := 6) scTreeL.nd rfl (.inl rfl) (pe_lst (pa_cons pe_int pa_nil)))
    (pss_cons (ps_for PassesOwn.never rfl (pi_range2 (by rfl) T.range (pa_cons pe_int (pa_cons (pv 3) pa_nil))) (pg_name (i := 7) scTreeL.nd rfl (.inl rfl)) (pss_cons (ps_set (i := 9) scTreeL.nd rfl (.inl rfl) (pe_ix ix_list (pe_lst (pa_cons (pe_call U_law_take.ok (hr.mono (by omega)) rfl U_law_take.m U_law_take.kp U_law_take.b .nil pass0 (pa_cons (pv 0) (pa_cons (pv 7) pa_nil))) (pa_cons (pe_op op_sub (pv 7) pe_int) (pa_cons pe_int pa_nil)))) (pv 4) (fun _ _ => rfl)))
      (pss_cons (ps_if (pt_cmpR op_gt (pe_ix ix_list (pv 6) (pv 9) (fun _ _ => rfl)) pe_int (nomark _)) (pss_one (ps_set (i := 9) scTreeL.nd rfl (.inl rfl) pe_int)) pss_nil)
      (pss_cons (ps_expr (pe_bm PySem.F.plainAttrs_list PySem.F.slot_list_append PySem.F.type_list_append mt_append (pv 5) (pa_cons (pv 9) pa_nil)))
      (pss_one (ps_expr (pe_bm PySem.F.plainAttrs_list PySem.F.slot_list_append PySem.F.type_list_append mt_append (pv 6) (pa_cons (pe_op op_add (pe_ix ix_list (pv 6) (pv 9) (fun _ _ => rfl)) pe_int) pa_nil))))))))
    (pss_cons (ps_setLc (i := 8) (own := [("_law_k", 7)]) (g := gName 7) (tt := tYes) (by rfl) scTreeL.nd rfl rfl (sw_true rfl rfl rfl (by decide +kernel)) (pi_range1 (by rfl) T.range (pa_cons (pv 3) pa_nil)) (blkOk_by (N := ["_law_state", "_law_most", "_law_tags", "_law_many", "_law_slope", "_law_elders", "_law_levels", "_law_k", "_law_kids", "_law_elder"]) (sc := defScope sTreeL) (own := [("_law_k", 7)]) (by decide +kernel)) (fun _ _ _ _ _ => pg_name (i := 7) scTreeL.nd rfl (Or.inl rfl)) (fun _ _ _ _ _ => pts_nil) (fun _ _ _ _ _ => (pe_lst pa_nil)))
    (pss_cons (ps_for PassesOwn.never rfl (pi_range3 (by rfl) T.range (pa_cons (pe_op op_sub (pv 3) pe_int) (pa_cons pe_int (pa_cons (pe_un un_neg pe_int) pa_nil)))) (pg_name (i := 7) scTreeL.nd rfl (.inl rfl)) (pss_one (ps_expr (pe_bm PySem.F.plainAttrs_list PySem.F.slot_list_append PySem.F.type_list_append mt_append (pe_ix ix_list (pv 8) (pe_ix ix_list (pv 5) (pv 7) (fun _ _ => rfl)) (fun _ _ => rfl)) (pa_cons (pe_tup (pa_cons (pe_ix ix_list (pv 2) (pe_call U_law_take.ok (hr.mono (by omega)) rfl U_law_take.m U_law_take.kp U_law_take.b .nil pass0 (pa_cons (pv 0) (pa_cons pe_int pa_nil))) (fun _ _ => rfl)) (pa_cons (pe_callTy call_tuple_of (by rfl) T.tuple PyProof.Rows.boot_tuple (pa_cons (pe_revL (pe_ix ix_list (pv 8) (pv 7) (fun _ _ => rfl))) pa_nil)) pa_nil))) pa_nil)))))
    (pss_one (ps_ret (pe_tup (pa_cons (pe_ix ix_list (pv 2) (pe_call U_law_take.ok (hr.mono (by omega)) rfl U_law_take.m U_law_take.kp U_law_take.b .nil pass0 (pa_cons (pv 0) (pa_cons pe_int pa_nil))) (fun _ _ => rfl)) (pa_cons (pe_callTy call_tuple_of (by rfl) T.tuple PyProof.Rows.boot_tuple (pa_cons (pe_revL (pe_ix ix_list (pv 8) pe_int (fun _ _ => rfl))) pa_nil)) pa_nil))))))))))))),
    (ss_cons (ss_set (se_lsf (sa_cons se_str (sa_cons se_str (sa_cons se_str (sa_cons se_str sa_nil))))))
    (ss_cons (ss_set (se_op so_add se_int (se_call (sa_cons se_nm (sa_cons se_nm sa_nil)))))
    (ss_cons (ss_set (se_call (sa_cons se_nm (sa_cons se_int sa_nil))))
    (ss_cons (ss_set (se_lst (sa_cons se_int sa_nil)))
    (ss_cons (ss_set (se_lst (sa_cons se_int sa_nil)))
    (ss_cons (ss_for (si_r2 (sa_cons se_int (sa_cons se_nm sa_nil))) sg_name (ss_cons (ss_set (se_op so_ixL (se_lsf (sa_cons (se_call (sa_cons se_nm (sa_cons se_nm sa_nil))) (sa_cons (se_op so_sub se_nm se_int) (sa_cons se_int sa_nil)))) se_nm))
      (ss_cons (ss_if (st_test (se_op so_gt (se_op so_ixL se_nm se_nm) se_int)) (ss_set se_int) ss_nil)
      (ss_cons (ss_drop (se_bmL sm_append se_nm (sa_cons se_nm sa_nil)))
      (ss_drop (se_bmL sm_append se_nm (sa_cons (se_op so_add (se_op so_ixL se_nm se_nm) se_int) sa_nil)))))))
    (ss_cons (ss_set (se_lcL (si_r1 (sa_cons se_nm sa_nil)) sg_name st_yes (se_lst sa_nil)))
    (ss_cons (ss_for (si_r3 (sa_cons (se_op so_sub se_nm se_int) (sa_cons se_int (sa_cons (se_un su_neg se_int) sa_nil)))) sg_name (ss_drop (se_bmL sm_append (se_op so_ixL se_nm (se_op so_ixL se_nm se_nm)) (sa_cons (se_tup (sa_cons (se_op so_ixL se_nm (se_call (sa_cons se_nm (sa_cons se_int sa_nil)))) (sa_cons (se_cb sc_tuple (sa_cons (se_rvF (se_op so_ixL se_nm se_nm)) sa_nil)) sa_nil))) sa_nil))))
    (ss_ret (se_tup (sa_cons (se_op so_ixL se_nm (se_call (sa_cons se_nm (sa_cons se_int sa_nil)))) (sa_cons (se_cb sc_tuple (sa_cons (se_rvF (se_op so_ixL se_nm se_int)) sa_nil)) sa_nil)))))))))))), fun ws M R RX hl h => ?_⟩
  obtain ⟨x0, y0, rfl, hf1⟩ := g2_of h
  obtain ⟨st, rfl, hf2⟩ := gR_of hf1
  obtain ⟨most, rfl, ⟨hM, hm1, hm2⟩, h3⟩ := gI_of hf2
  clear hf1 hf2 h hl
  simp only [start0, len_c, len_n, map_c, map_n, app_c, app_n, rep_0, rep_s, Nat.reduceAdd, Nat.reduceSub]
  decreasing_trivial_pre_omega
  intro m0 hm00 hm01
  decreasing_trivial_pre_omega
  intro slope hs0 hs1
  decreasing_trivial_pre_omega
  intro el hel
  decreasing_trivial_pre_omega
  intro lv hlv
  decreasing_trivial_pre_omega
  obtain ⟨mn, hmn⟩ : ∃ mn : Nat, 1 + m0 = ((mn + 1 : Nat) : Int) := ⟨m0.toNat, by omega⟩
  have hmn2 : mn + 1 ≤ 100 := by omega
  have nll : lv ≠ el := fun z => by rw [z, mset_same] at hlv; cases hlv
  rw [mset_ne nll] at hlv
  have nll2 : el ≠ lv := nll.symm
  have sel : st ≠ el := fun z => by rw [z, hel] at hM; cases hM
  have slv : st ≠ lv := fun z => by rw [z, hlv] at hM; cases hM
  refine forR (fun i ρ M' => ∃ (es ls : List Nat) (y7 y9 : Option W), ρ = [some (.r st), some (.d (.int most)), some (.d (.list [.str "a", .str "b", .str "ab", .str "zz"])), some (.d (.int (1 + m0))), some (.d (.int slope)), some (.r el), some (.r lv), y7, none, y9] ∧ M' = mset (mset M el (.lst (nsW es))) lv (.lst (nsW ls)) ∧ es.length = i + 1 ∧ ls.length = i + 1 ∧ RelE11 es ls)
    ⟨[0], [1], none, none, rfl, rfl, rfl, rfl, RelE11.one⟩ (fun _ _ _ _ _ => trivial) (fun i ρ M' N hi p hN => ?_) (fun ρ M' p => ?_)
  · obtain ⟨es, ls, y7, y9, rfl, rfl, le, ll, Rl⟩ := p
    have eM : mset (mset M el (.lst (nsW es))) lv (.lst (nsW ls)) st = some (.src false) := by rw [mset_ne slv, mset_ne sel]; exact hM
    decreasing_trivial_pre_omega
    intro a1 ha10 ha11
    decreasing_trivial_pre_omega
    refine gO_atD (fun d => ∃ e : Nat, e ≤ i ∧ d = .int (e : Int)) hs0 (by simpa using hs1) (all1 ⟨a1.toNat, by omega, by congr 1; omega⟩ (all1 ⟨i, Nat.le_refl _, by show PyData.int (1 + (i : Int) - 1) = _; congr 1; omega⟩ (all1 ⟨0, by omega, rfl⟩ all0))) fun d hd => ?_
    obtain ⟨e, hei, rfl⟩ := hd
    obtain ⟨l, hl⟩ : ∃ l, ls[e]? = some l := ⟨ls[e]'(by omega), List.getElem?_eq_getElem _⟩
    have hl10 := Rl.lev e l hl
    have m1 : ∀ {x y : MO}, mset (mset M el x) lv y el = some x := fun {x y} => by rw [mset_ne (Ne.symm nll)]; exact mset_same
    have m2 : ∀ {x y z : MO}, mset (mset (mset M el x) lv y) el z = mset (mset M el z) lv y := fun {x y z} => by
      funext b
      by_cases h1 : b = el
      · subst h1
        rw [mset_same, m1]
      · rw [mset_ne h1]
        by_cases h2 : b = lv
        · subst h2
          rw [mset_same, mset_same]
        · rw [mset_ne h2, mset_ne h2, mset_ne h1, mset_ne h1]
    have lE : (nsW es).length < sizeLine := by rw [nsW_len]; exact small1000 (by omega)
    have lL : (nsW ls).length < sizeLine := by rw [nsW_len]; exact small1000 (by omega)
    have goal : ∀ e' l' : Nat, ls[e']? = some l' → l' ≤ 10 → N [some (.r st), some (.d (.int most)), some (.d (.list [.str "a", .str "b", .str "ab", .str "zz"])), some (.d (.int (1 + m0))), some (.d (.int slope)), some (.r el), some (.r lv), some (.d (.int (1 + (i : Int)))), none, some (.d (.int (e' : Int)))] (mset (mset M el (.lst (nsW es ++ [.d (.int (e' : Int))]))) lv (.lst (nsW ls ++ [.d (.int ((l' : Int) + 1))]))) := fun e' l' h1 h2 => by
      refine hN _ _ ⟨es ++ [e'], ls ++ [l' + 1], _, _, rfl, ?_, by rw [List.length_append, le]; rfl, by rw [List.length_append, ll]; rfl, Rl.app (by omega) h1 h2⟩
      rw [← nsW_app, ← nsW_app]
      rfl
    decreasing_trivial_pre_omega
    refine gO_i (nsW_get hl) ?_
    decreasing_trivial_pre_omega
    refine IfB.d (fun c => ?_) (fun c => ?_)
    · decreasing_trivial_pre_omega
      refine gO_i (nsW_get (j := 0) Rl.first) ?_
      decreasing_trivial_pre_omega
      rw [m2, mset_mset]
      exact goal 0 1 Rl.first (by decide)
    · decreasing_trivial_pre_omega
      refine gO_i (nsW_get hl) ?_
      decreasing_trivial_pre_omega
      rw [m2, mset_mset]
      exact goal e l hl (by omega)
  · obtain ⟨es, ls, y7, y9, rfl, rfl, le, ll, Rl⟩ := p
    have hn : (1 + m0 - 1).toNat = mn := by omega
    rw [hn] at le ll
    decreasing_trivial_pre_omega
    have sub1 : ∀ a o, M a = some o → mset (mset M el (.lst (nsW es))) lv (.lst (nsW ls)) a = some o := fun a o h => by
      rw [mset_ne (fun z => by rw [z, hlv] at h; cases h), mset_ne (fun z => by rw [z, hel] at h; cases h)]
      exact h
    have e1 : mset (mset M el (.lst (nsW es))) lv (.lst (nsW ls)) el = some (.lst (nsW es)) := by rw [mset_ne (Ne.symm nll)]; exact mset_same
    generalize mset (mset M el (.lst (nsW es))) lv (.lst (nsW ls)) = M1 at sub1 e1
    have hn1 : (rng 0 (1 + m0).toNat).length = mn + 1 := by unfold rng; rw [List.length_map, List.length_range]; omega
    refine lc_new (rng 0 (1 + m0).toNat) [] M1 M1 (by rw [hn1]; exact Nat.le_of_lt (small1000 (by simp; omega))) List.nodup_nil (fun a h => absurd h List.not_mem_nil) (fun b _ => rfl) (fun as M2 l1 l2 l3 l4 D hD => ?_)
    rw [hn1] at l1
    have l1' : as.length = mn + 1 := by rw [l1]; simp
    have nst : ∀ {b : Addr} {o : MO}, M1 b = some o → ¬ b ∈ as := fun h z => by rw [(l3 _ z).1] at h; cases h
    have DnA : ¬ D ∈ as := fun z => by rw [(l3 _ z).2] at hD; cases hD
    have DM1 : M1 D = none := by rw [← l4 D DnA]; exact hD
    have neD : ∀ {b : Addr} {o : MO}, M1 b = some o → b ≠ D := fun h z => by rw [z, DM1] at h; cases h
    refine ⟨_, RgC.neg (by omega) (by omega) (by omega) (by omega), ?_⟩
    have hn2 : (1 + m0 - 1 - 0).toNat = mn := by omega
    rw [hn2]
    have at3 : ∀ {b : Addr} {o : MO}, M1 b = some o → mset M2 D (.lst (as.map W.r)) b = some o := fun {b o} h => by
      rw [mset_ne (neD h), l4 b (nst h)]
      exact h
    refine forRC (fun i ρ M' => ∃ (tss : List (List PyData)) (z7 : Option W), ρ = [some (.r st), some (.d (.int most)), some (.d (.list [.str "a", .str "b", .str "ab", .str "zz"])), some (.d (.int (1 + m0))), some (.d (.int slope)), some (.r el), some (.r lv), z7, some (.r D), y9] ∧ (∀ b o, M1 b = some o → M' b = some o) ∧ M' D = some (.lst (as.map W.r)) ∧ (∀ (j : Nat) (a : Addr) (ts : List PyData), as[j]? = some a → tss[j]? = some ts → M' a = some (.lst (ts.map W.d))) ∧ tss.length = mn + 1 ∧ sw (mn + 1 - i) tss ≤ 98 * i ∧ sn (mn + 1 - i) tss ≤ i ∧ ∀ (j l : Nat) (ts : List PyData), tss[j]? = some ts → ls[j]? = some l → ∀ t ∈ ts, TrD (11 - l) t)
      ⟨List.replicate (mn + 1) [], y7, rfl, fun b o h => at3 h, mset_same, fun j a ts h1 h2 => ?_, List.length_replicate, by rw [sw_rep]; exact Nat.zero_le _, by rw [sn_rep]; exact Nat.zero_le _, fun j l ts h1 _ t ht => ?_⟩ (fun _ _ _ _ _ => trivial) (fun i ρ M' N hi p hN => ?_) (fun ρ M' p => ?_)
    · rw [(List.mem_replicate.mp (List.mem_of_getElem? h2)).2]
      have ha := List.mem_of_getElem? h1
      rw [mset_ne (fun z => DnA (by rw [← z]; exact ha))]
      exact (l3 a ha).2
    · rw [(List.mem_replicate.mp (List.mem_of_getElem? h1)).2] at ht
      cases ht
    · obtain ⟨tss, z7, rfl, s7, D7, K7, lt7, sw7, sn7, tr7⟩ := p
      obtain ⟨kk, hkk⟩ : ∃ kk : Nat, kk + i = mn := ⟨mn - i, by omega⟩
      have hkv : 1 + m0 - 1 + ((i : Nat) : Int) * -1 = (kk : Int) := by omega
      have hk1 : 1 ≤ kk := by omega
      obtain ⟨e, he⟩ : ∃ e, es[kk]? = some e := ⟨es[kk]'(by omega), List.getElem?_eq_getElem _⟩
      obtain ⟨hek, hlev⟩ := Rl.eld kk e hk1 he
      obtain ⟨ae, hae⟩ : ∃ a, as[e]? = some a := ⟨as[e]'(by omega), List.getElem?_eq_getElem _⟩
      obtain ⟨ak, hak⟩ : ∃ a, as[kk]? = some a := ⟨as[kk]'(by omega), List.getElem?_eq_getElem _⟩
      obtain ⟨te, hte⟩ : ∃ t, tss[e]? = some t := ⟨tss[e]'(by omega), List.getElem?_eq_getElem _⟩
      obtain ⟨tk, htk⟩ : ∃ t, tss[kk]? = some t := ⟨tss[kk]'(by omega), List.getElem?_eq_getElem _⟩
      obtain ⟨le', hle'⟩ : ∃ l, ls[e]? = some l := ⟨ls[e]'(by omega), List.getElem?_eq_getElem _⟩
      obtain ⟨lk, hlk⟩ : ∃ l, ls[kk]? = some l := ⟨ls[kk]'(by omega), List.getElem?_eq_getElem _⟩
      have hll := hlev le' lk hle' hlk
      have hlk10 := Rl.lev kk lk hlk
      have aeA := List.mem_of_getElem? hae
      have atAe : atI (as.map W.r) (e : Int) = some (.r ae) := atI_nat (by rw [List.getElem?_map, hae]; rfl)
      have atAk : atI (as.map W.r) (kk : Int) = some (.r ak) := atI_nat (by rw [List.getElem?_map, hak]; rfl)
      have h9 := s7 _ _ e1
      have h8 := s7 _ _ (sub1 _ _ hM)
      have h7 := K7 e ae te hae hte
      have h6 := K7 kk ak tk hak htk
      rw [hkv]
      decreasing_trivial_pre_omega
      refine gO_i (nsW_get he) ?_
      decreasing_trivial_pre_omega
      intro r8 hr80 hr81
      decreasing_trivial_pre_omega
      refine gO_atD (ds := tags4.map .str) (fun d => ∃ s, s ∈ tags4 ∧ d = .str s) hr80 (by simpa [tags4] using hr81) (fun d hd => by
        obtain ⟨s, h1, h2⟩ := List.mem_map.mp hd
        exact ⟨s, h1, h2.symm⟩) fun d hd => ?_
      obtain ⟨tgs, htgs, rfl⟩ := hd
      have htag := tags4_ok tgs htgs
      have hlt : wtAll te ≤ sw (mn + 1 - i) tss := wt_sw (by omega) hte
      have hl2 := len_wt te
      have hsz : (te.map W.d).length < sizeLine := by
        rw [List.length_map]
        exact Nat.lt_of_le_of_lt (show te.length ≤ 100000 by omega) (by decide)
      decreasing_trivial_pre_omega
      refine hN _ _ ⟨tss.set e (te ++ [.tuple [.str tgs, .tuple tk.reverse]]), _, rfl, fun b o h => ?_, ?_, fun j a ts h1 h2 => ?_, by rw [List.length_set]; exact lt7, ?_, ?_, fun j l ts h1 h2 t ht => ?_⟩
      · rw [mset_ne (fun z => nst h (by rw [z]; exact aeA))]
        exact s7 b o h
      · rw [mset_ne (fun z => DnA (by rw [z]; exact aeA))]
        exact D7
      · by_cases cj : j = e
        · subst cj
          rw [hae] at h1
          cases h1
          rw [List.getElem?_set_self (by omega)] at h2
          cases h2
          rw [mset_same, List.map_append]
          rfl
        · rw [List.getElem?_set_ne (fun z => cj z.symm)] at h2
          rw [mset_ne (fun z => cj (nd_ix l2 h1 (by rw [z]; exact hae)))]
          exact K7 j a ts h1 h2
      · have e1 : mn + 1 - (i + 1) = kk := by omega
        have e2 : mn + 1 - i = kk + 1 := by omega
        rw [e2, sw_succ htk] at sw7
        rw [e1, sw_set hek hte, wt_node, wtAll_rev]
        omega
      · have e1 : mn + 1 - (i + 1) = kk := by omega
        have e2 : mn + 1 - i = kk + 1 := by omega
        rw [e2, sn_succ htk] at sn7
        rw [e1, sn_set hek hte, nn, nnAll_rev]
        omega
      · by_cases cj : j = e
        · subst cj
          rw [List.getElem?_set_self (by omega)] at h1
          cases h1
          rw [hle'] at h2
          cases h2
          rcases List.mem_append.mp ht with ht | ht
          · exact tr7 j _ te hte hle' t ht
          · rw [List.mem_singleton.mp ht]
            refine TrD.mono (show 11 - lk + 1 ≤ 11 - le' by omega) ⟨tgs, _, rfl, htag, fun kd hkd => ?_⟩
            exact tr7 kk lk tk htk hlk kd (List.mem_reverse.mp hkd)
        · rw [List.getElem?_set_ne (fun z => cj z.symm)] at h1
          exact tr7 j l ts h1 h2 t ht
    · obtain ⟨tss, z7, rfl, s7, D7, K7, lt7, sw7, sn7, tr7⟩ := p
      rw [show mn + 1 - mn = 1 by omega] at sw7 sn7
      obtain ⟨ak, hak⟩ : ∃ a, as[0]? = some a := ⟨as[0]'(by omega), List.getElem?_eq_getElem _⟩
      obtain ⟨tk, htk⟩ : ∃ t, tss[0]? = some t := ⟨tss[0]'(by omega), List.getElem?_eq_getElem _⟩
      have atAk : atI (as.map W.r) 0 = some (.r ak) := atI_nat (j := 0) (by rw [List.getElem?_map, hak]; rfl)
      have h8 := s7 _ _ (sub1 _ _ hM)
      have h6 := K7 0 ak tk hak htk
      decreasing_trivial_pre_omega
      intro r8 hr80 hr81
      decreasing_trivial_pre_omega
      refine gO_atD (ds := tags4.map .str) (fun d => ∃ s, s ∈ tags4 ∧ d = .str s) hr80 (by simpa [tags4] using hr81) (fun d hd => by
        obtain ⟨s, h1, h2⟩ := List.mem_map.mp hd
        exact ⟨s, h1, h2.symm⟩) fun d hd => ?_
      obtain ⟨tgs, htgs, rfl⟩ := hd
      have htag := tags4_ok tgs htgs
      decreasing_trivial_pre_omega
      refine ⟨M, fun a o h => s7 _ _ (sub1 _ _ h), h3 _ ?_ ?_ ?_⟩
      · refine ⟨tgs, _, rfl, htag, fun kd hkd => ?_⟩
        exact tr7 0 1 tk htk Rl.first kd (List.mem_reverse.mp hkd)
      · have hs1 : wtAll tk ≤ sw 1 tss := wt_sw (by omega) htk
        have hwn := wt_node tgs tk.reverse
        rw [wtAll_rev] at hwn
        omega
      · rw [show (1 : Nat) = 0 + 1 from rfl, sn_succ htk] at sn7
        rw [nn, nnAll_rev]
        omega
end
end Tl
set_option Elab.async false
set_option linter.all false
set_option maxRecDepth 100000
set_option maxHeartbeats 8000000
namespace Tl
open PySem L2 RZ
local macro_rules
  | `(tactic| decreasing_trivial) => `(tactic| ((with_reducible (conv => whnf)); (repeat ((first | (with_reducible refine gDs_c ?_) | (with_reducible refine gDs_n ?_) | (with_reducible refine gNs_c ?_) | (with_reducible refine gNs_n ?_) | (with_reducible refine gO_i tyAny_lt ?_) | (with_reducible refine gIs_c ?_) | (with_reducible refine gIs_n ?_) | (with_reducible refine gBs_c ?_) | (with_reducible refine gBs_n ?_) | (with_reducible refine gSs_c ?_) | (with_reducible refine gSs_n ?_) | (with_reducible refine gO_i tyIs_int ?_) | (with_reducible refine gO_i tyIs_bool ?_) | (with_reducible refine gO_i tyIs_str ?_) | (with_reducible refine gO_i tyIs_tuple ?_) | (with_reducible refine gO_i tyIs_list ?_) | (with_reducible refine gDs_i ?_) | (with_reducible refine gO_i (Eq.refl _) ?_) | (with_reducible refine gO_i (by assumption) ?_) | (with_reducible refine gO_i at_0 ?_) | (with_reducible refine gO_i at_m0 ?_) | (with_reducible refine gO_i at_1 ?_) | (with_reducible refine gO_i at_m1 ?_) | (with_reducible refine gO_i at_2 ?_) | (with_reducible refine gO_i at_m2 ?_) | (with_reducible refine gO_i at_3 ?_) | (with_reducible refine gO_i at_m3 ?_) | (with_reducible refine gO_i at_4 ?_) | (with_reducible refine gO_i at_m4 ?_) | (with_reducible refine gO_i at_5 ?_) | (with_reducible refine gO_i at_m5 ?_) | (with_reducible refine gO_i at_6 ?_) | (with_reducible refine gO_i at_m6 ?_) | (with_reducible refine gO_i at_7 ?_) | (with_reducible refine gO_i at_m7 ?_) | (with_reducible refine IfB.ngf ?_) | (with_reducible refine IfB.ngt ?_) | (with_reducible refine IfB.not ?_) | (with_reducible refine IfB.nil ?_) | (with_reducible refine IfB.nilT ?_) | (with_reducible refine IfB.f isE_c ?_) | (with_reducible refine IfB.t isE_n ?_) | (with_reducible refine IfB.t ?gha ?_; (case gha => rfl)) | (with_reducible refine IfB.f ?gha ?_; (case gha => rfl)) | (with_reducible refine IfB.t ?gha ?_; (case gha => assumption)) | (with_reducible refine IfB.f ?gha ?_; (case gha => assumption)) | (with_reducible refine IfB.yes (Eq.refl _) ?_) | (with_reducible refine IfB.yes ?gha ?_; (case gha => (first | omega | (simp only [len_c, len_n, List.length_map]; omega)))) | (with_reducible refine IfB.no ?gha ?_; (case gha => (first | omega | (simp only [len_c, len_n, List.length_map]; omega)))) | (with_reducible refine IfB.t ?gha ?_; (case gha => decide +kernel)) | (with_reducible refine IfB.f ?gha ?_; (case gha => decide +kernel))); (with_reducible (conv => whnf))))))
local macro_rules
  | `(tactic| decreasing_trivial_pre_omega) => `(tactic| (decreasing_trivial; (repeat ((first | ((with_reducible refine And.intro ?gha ?_); (case gha => (first | assumption | omega | exact rfl | (exact mset_same) | (exact ⟨_, mset_same⟩) | (exact Exists.intro _ (by first | exact mset_same | assumption | (rw [mset_ne (by assumption)]; first | exact mset_same | assumption))) | (exact sm_of (by omega) (by omega)) | (exact sz1000 (by first | omega | (simp; done) | (simp; omega))) | (exact Or.inl ⟨by decide, by decide⟩) | decide | (simp; done) | (refine ⟨?_, ?_⟩ <;> (first | assumption | omega | exact rfl | (exact mset_same) | (exact ⟨_, mset_same⟩) | (exact Exists.intro _ (by first | exact mset_same | assumption | (rw [mset_ne (by assumption)]; first | exact mset_same | assumption))) | (exact sm_of (by omega) (by omega)) | (exact sz1000 (by first | omega | (simp; done) | (simp; omega))) | (exact Or.inl ⟨by decide, by decide⟩) | decide | (simp; done))) | (refine ⟨?_, ?_, ?_⟩ <;> (first | assumption | omega | exact rfl | (exact mset_same) | (exact ⟨_, mset_same⟩) | (exact Exists.intro _ (by first | exact mset_same | assumption | (rw [mset_ne (by assumption)]; first | exact mset_same | assumption))) | (exact sm_of (by omega) (by omega)) | (exact sz1000 (by first | omega | (simp; done) | (simp; omega))) | (exact Or.inl ⟨by decide, by decide⟩) | decide | (simp; done))) | (refine ⟨?_, ?_, ?_, ?_⟩ <;> (first | assumption | omega | exact rfl | (exact mset_same) | (exact ⟨_, mset_same⟩) | (exact Exists.intro _ (by first | exact mset_same | assumption | (rw [mset_ne (by assumption)]; first | exact mset_same | assumption))) | (exact sm_of (by omega) (by omega)) | (exact sz1000 (by first | omega | (simp; done) | (simp; omega))) | (exact Or.inl ⟨by decide, by decide⟩) | decide | (simp; done)))))) | (with_reducible refine exW (by first | exact mset_same | assumption | (rw [mset_ne (by assumption)]; first | exact mset_same | assumption)) ?_)); decreasing_trivial))))
theorem at2 {α : Type} {a b : α} : atI [a, b] 0 = some a ∧ atI [a, b] 1 = some b := ⟨atI_nat (j := 0) rfl, atI_nat (j := 1) rfl⟩
theorem len_nn : ∀ ks : List PyData, ks.length ≤ nnAll ks
  | [] => Nat.zero_le _
  | k :: ks => by
    have := len_nn ks
    have := nn_pos k
    rw [nnAll, List.length_cons]
    omega
theorem nnAll_take (ks : List PyData) (i : Nat) : nnAll (ks.take i) ≤ nnAll ks := by
  conv => rhs; rw [← List.take_append_drop i ks, nnAll_app]
  omega
theorem nn_mem : ∀ {ks : List PyData} {k : PyData}, k ∈ ks → nn k ≤ nnAll ks
  | k' :: ks, k, h => by
    rw [nnAll]
    rcases List.mem_cons.mp h with rfl | h
    · omega
    · have := nn_mem h
      omega
/-- a number is told of a tree -/
@[reducible] def tfN (g : PyData → Nat) (n : Nat) : TF := fun ws M R _ => g1 ws fun x => gD x fun d => (TrT n d ∧ nn d ≤ 200) ∧ R (.d (.int (g d : Nat))) M
theorem no_tfN {g : PyData → Nat} (ws : List W) (M : Mem) (R : W → Mem → Prop) (RX : Ex → Mem → Prop) : ¬ tfN g 0 ws M R RX := fun h => by
  obtain ⟨x, rfl, h1⟩ := g1_of h
  obtain ⟨d, rfl, ⟨h2, _⟩, _⟩ := gD_of h1
  exact h2
/-- the part at a path, None where there is none -/
@[reducible] def tfPartAt : TF := fun ws M R _ => ∃ (d : PyData) (q : List Nat) (n : Nat), ws = [.d d, .d (pathD q)] ∧ TrT n d ∧ R (.d (optP (sub d q))) M
/-- the part at a place -/
@[reducible] def tfReach2 : TF := fun ws M R _ => ∃ (d e : PyData) (q : List Nat) (n : Nat), ws = [.d d, .d (pathD q)] ∧ (TrT n d ∧ sub d q = some e) ∧ R (.d e) M
def pls (q : List Nat) (rs : List (List Nat)) : List PyData := rs.map fun r => pathD (q ++ r)
theorem pls_app (q : List Nat) (a b : List (List Nat)) : pls q (a ++ b) = pls q a ++ pls q b := List.map_append
theorem pls_len (q : List Nat) (a : List (List Nat)) : (pls q a).length = a.length := List.length_map _
theorem pls_kid (q : List Nat) (i : Nat) (a : List (List Nat)) : pls (q ++ [i]) a = pls q (a.map (i :: ·)) := by
  unfold pls
  rw [List.map_map]
  refine List.map_congr_left fun r _ => ?_
  show pathD (q ++ [i] ++ r) = pathD (q ++ i :: r)
  rw [List.append_assoc]
  rfl
theorem path_cat (q : List Nat) (i : Nat) : PyData.tuple ((q.map fun n : Nat => .int (n : Int)) ++ [.int (i : Int)]) = pathD (q ++ [i]) := by
  unfold pathD
  rw [List.map_append]
  rfl
/-- as data -/
@[reducible] def tfPls (n : Nat) : TF := fun ws M R _ => ∃ (d : PyData) (q : List Nat), ws = [.d d, .d (pathD q)] ∧ (TrT n d ∧ nn d ≤ 200 ∧ q.length + n ≤ 100) ∧ R (.d (.list (pls q (plc d)))) M
section
variable {P : Program} {w : World} {K : PySem.W.Frag} {mg : Str → Option Value} {base : Heap}
abbrev sCntPlaces : Stmt := top 20
theorem scCntPlaces : FnScope ["tree", "kid"] ["tree"] (defScope sCntPlaces) := ⟨rfl, rfl, rfl, by decide +kernel, rfl, by decide +kernel, by decide +kernel⟩
theorem ok_cntPlaces1 {f : Addr} {fd : FuncData} {n : Nat} (F : Fun K "count_places" "count_places" sCntPlaces f fd) (Ucount_places : Use P w K mg base "count_places" ["tree"] n (spD K 1 (tfN nn n))) (T : Bl mg) (mS : mg "sum" = none) :
    FnOk P w K mg base CX0 (n + 1) f fd ["tree"] (spD K 1 (tfN nn (n + 1))) := by
  refine okD F scCntPlaces rfl fun cdv A outer s H E hr => ?_
  refine ⟨_, _, (pss_one (ps_ret (pe_op op_add pe_int (pe_callB (cr_sum rfl) (by rfl) mS PyProof.Rows.boot_sum (pa_cons (pe_lc (own := [("kid", 1)]) (g := gName 1) (tt := tYes) (by rfl) scCntPlaces.nd (pi_tup (pe_ix ix_tup (pv 0) pe_int (fun _ _ => rfl))) (blkOk_by (N := ["tree", "kid"]) (sc := defScope sCntPlaces) (own := [("kid", 1)]) (by decide +kernel)) (fun _ _ _ _ _ => pg_name (i := 1) scCntPlaces.nd rfl (Or.inl rfl)) (fun _ _ _ _ _ => pts_nil) (fun _ _ _ _ _ => (pe_call Ucount_places.ok (hr.mono (by omega)) rfl Ucount_places.m Ucount_places.kp Ucount_places.b .nil pass0 (pa_cons (pv 1) pa_nil)))) pa_nil))))),
    (ss_ret (se_op so_add se_int (se_cb sc_sum (sa_cons (se_lcF (si_tup (se_op so_ixT se_nm se_int)) sg_name st_yes (se_call (sa_cons se_nm sa_nil))) sa_nil)))), fun ws M R RX hl h => ?_⟩
  obtain ⟨x, rfl, h1⟩ := g1_of h
  obtain ⟨d, rfl, ⟨ht, hn⟩, h2⟩ := gD_of h1
  obtain ⟨s0, ks, rfl, hs, hk⟩ := ht
  rw [nn] at hn h2
  have hl := len_nn ks
  simp only [start0, len_c, len_n, map_c, map_n, app_c, app_n, rep_0, rep_s, Nat.reduceAdd, Nat.reduceSub]
  decreasing_trivial
  refine lc1F (k := fun _ => True) (b := bName 1) (fun k => .int (nn k : Nat)) trivial (fun k hm Rk q => ?_) (sz1000 (by omega)) ?_
  · have := nn_mem hm
    decreasing_trivial
    exact ⟨⟨hk k hm, by omega⟩, q⟩
  · show gIs (((ks.map fun k => PyData.int (nn k : Nat))).map W.d) _
    rw [List.map_map]
    show gIs (ks.map fun k => W.d (.int (nn k : Nat))) _
    rw [gIs_map, nnAll_map]
    have e : (1 : Int) + ((nnAll ks : Nat) : Int) = ((1 + nnAll ks : Nat) : Int) := by omega
    show R (.d (.int (1 + ((nnAll ks : Nat) : Int)))) M
    rw [e]
    exact h2
theorem ok_cntPlaces {f : Addr} {fd : FuncData} (F : Fun K "count_places" "count_places" sCntPlaces f fd) (mF : mg "count_places" = some (.ref f)) (T : Bl mg) (mS : mg "sum" = none) : ∀ n, FnOk P w K mg base CX0 n f fd ["tree"] (spD K 1 (tfN nn n))
  | 0 => no0 no_tfN
  | n + 1 => ok_cntPlaces1 F ⟨f, fd, ok_cntPlaces F mF T mS n, mF, F.kp, F.binds (ps := ["tree"]) fun _ _ _ _ _ _ us hl => match us, hl with | [_], _ => rfl⟩ T mS
abbrev sPartAt : Stmt := top 21
theorem scPartAt : FnScope ["tree", "path", "part", "step"] ["tree", "path"] (defScope sPartAt) := ⟨rfl, rfl, rfl, by decide +kernel, rfl, by decide +kernel, by decide +kernel⟩
theorem ok_partAt {f : Addr} {fd : FuncData} {k : Nat} (F : Fun K "part_at" "part_at" sPartAt f fd) (T : Bl mg) : FnOk P w K mg base CX0 (k + 1) f fd ["tree", "path"] (spD K 2 tfPartAt) := by
  refine okD F scPartAt rfl fun cdv A outer s H E hr => ?_
  refine ⟨_, _, (pss_cons (ps_set (i := 2) scPartAt.nd rfl (.inl rfl) (pv 0))
    (pss_cons (ps_for PassesOwn.never rfl (pi_tup (pv 1)) (pg_name (i := 3) scPartAt.nd rfl (.inl rfl)) (pss_cons (ps_if (pt_cmpR op_ge (pv 3) (pe_callB call_len_seq (by rfl) T.len PySem.boot_len (pa_cons (pe_ix ix_tup (pv 2) pe_int (fun _ _ => rfl)) pa_nil)) (nomark _)) (pss_one (ps_ret pe_non)) pss_nil)
      (pss_one (ps_set (i := 2) scPartAt.nd rfl (.inl rfl) (pe_ix ix_tup (pe_ix ix_tup (pv 2) pe_int (fun _ _ => rfl)) (pv 3) (fun _ _ => rfl))))))
    (pss_one (ps_ret (pv 2))))),
    (ss_cons (ss_set se_nm)
    (ss_cons (ss_for (si_tup se_nm) sg_name (ss_cons (ss_if (st_test (se_op so_ge se_nm (se_cb sc_len (sa_cons (se_op so_ixT se_nm se_int) sa_nil)))) (ss_ret se_non) ss_nil)
      (ss_set (se_op so_ixT (se_op so_ixT se_nm se_int) se_nm))))
    (ss_ret se_nm))), fun ws M R RX hl h => ?_⟩
  obtain ⟨d, q, n, rfl, ht, h2⟩ := h
  unfold pathD
  simp only [start0, len_c, len_n, map_c, map_n, app_c, app_n, rep_0, rep_s, Nat.reduceAdd, Nat.reduceSub]
  decreasing_trivial
  rw [mapW]
  refine for1 (fun i ρ M' => M = M' ∧ ∃ (e : PyData) (m : Nat) (y : Option W), ρ = [some (W.d d), some (W.d (.tuple (q.map fun n : Nat => .int (n : Int)))), some (W.d e), y] ∧ TrT m e ∧ sub d q = sub e (q.drop i))
    ⟨rfl, d, n, none, rfl, ht, rfl⟩ (fun _ _ _ _ _ => trivial) (fun i a ρ M' N ha p hN => ?_) (fun ρ M' p => ?_)
  · obtain ⟨rfl, e, m, y, rfl, he, hs⟩ := p
    cases m with
    | zero => exact he.elim
    | succ m =>
      obtain ⟨s0, ks, rfl, _, hk⟩ := he
      have hi := (List.getElem?_eq_some_iff.mp ha).1
      rw [List.drop_eq_getElem_cons hi, (List.getElem?_eq_some_iff.mp ha).2, sub_node] at hs
      decreasing_trivial
      refine IfB.d (fun c => ?_) (fun c => ?_)
      · decreasing_trivial
        rw [hs, List.getElem?_eq_none (by omega)] at h2
        exact h2
      · obtain ⟨k, hk2⟩ : ∃ k, ks[a]? = some k := ⟨ks[a]'(by omega), List.getElem?_eq_getElem _⟩
        rw [hk2] at hs
        decreasing_trivial
        refine gO_i (atI_nat hk2) ?_
        decreasing_trivial
        exact hN _ _ ⟨rfl, k, m, _, rfl, hk k (List.mem_of_getElem? hk2), hs⟩
  · obtain ⟨rfl, e, m, y, rfl, he, hs⟩ := p
    rw [List.drop_length, sub_nil] at hs
    rw [hs] at h2
    exact h2
abbrev sReach : Stmt := top 57
theorem scReach : FnScope ["_law_tree_here", "_law_path", "_law_number"] ["_law_tree_here", "_law_path"] (defScope sReach) := ⟨rfl, rfl, rfl, by decide +kernel, rfl, by decide +kernel, by decide +kernel⟩
theorem ok_reach2 {f : Addr} {fd : FuncData} {k : Nat} (F : Fun K "_law_reach" "_law_reach" sReach f fd) (T : Bl mg) : FnOk P w K mg base CX0 (k + 1) f fd ["_law_tree_here", "_law_path"] (spD K 2 tfReach2) := by
  refine okD F scReach rfl fun cdv A outer s H E hr => ?_
  refine ⟨_, _, (pss_cons (ps_for PassesOwn.never rfl (pi_tup (pv 1)) (pg_name (i := 2) scReach.nd rfl (.inl rfl)) (pss_one (ps_set (i := 0) scReach.nd rfl (.inl rfl) (pe_ix ix_tup (pe_ix ix_tup (pv 0) pe_int (fun _ _ => rfl)) (pv 2) (fun _ _ => rfl)))))
    (pss_one (ps_ret (pv 0)))),
    (ss_cons (ss_for (si_tup se_nm) sg_name (ss_set (se_op so_ixT (se_op so_ixT se_nm se_int) se_nm)))
    (ss_ret se_nm)), fun ws M R RX hl h => ?_⟩
  obtain ⟨d, e0, q, n, rfl, ⟨ht, he0⟩, h2⟩ := h
  unfold pathD
  simp only [start0, len_c, len_n, map_c, map_n, app_c, app_n, rep_0, rep_s, Nat.reduceAdd, Nat.reduceSub]
  decreasing_trivial_pre_omega
  rw [mapW]
  refine for1 (fun i ρ M' => M = M' ∧ ∃ (e : PyData) (m : Nat) (y : Option W), ρ = [some (W.d e), some (W.d (.tuple (q.map fun n : Nat => .int (n : Int)))), y] ∧ TrT m e ∧ sub e (q.drop i) = some e0)
    ⟨rfl, d, n, none, rfl, ht, he0⟩ (fun _ _ _ _ _ => trivial) (fun i a ρ M' N ha p hN => ?_) (fun ρ M' p => ?_)
  · obtain ⟨rfl, e, m, y, rfl, he, hs⟩ := p
    cases m with
    | zero => exact he.elim
    | succ m =>
      obtain ⟨s0, ks, rfl, _, hk⟩ := he
      have hi := (List.getElem?_eq_some_iff.mp ha).1
      rw [List.drop_eq_getElem_cons hi, (List.getElem?_eq_some_iff.mp ha).2, sub_node] at hs
      obtain ⟨k, hk2, hs2⟩ : ∃ k, ks[a]? = some k ∧ sub k (List.drop (i + 1) q) = some e0 := by
        cases hk2 : ks[a]? with
        | none => rw [hk2] at hs; cases hs
        | some k => rw [hk2] at hs; exact ⟨k, rfl, hs⟩
      have ix1 : atI ks (a : Int) = some k := atI_nat hk2
      decreasing_trivial_pre_omega
      exact hN _ _ ⟨rfl, k, m, _, rfl, hk k (List.mem_of_getElem? hk2), hs2⟩
  · obtain ⟨rfl, e, m, y, rfl, he, hs⟩ := p
    rw [List.drop_length, sub_nil] at hs
    cases hs
    exact h2
abbrev sPlaces : Stmt := top 56
theorem scPlaces : FnScope ["_law_tree_here", "_law_path", "_law_found", "_law_at", "_law_kid"] ["_law_tree_here", "_law_path"] (defScope sPlaces) := ⟨rfl, rfl, rfl, by decide +kernel, rfl, by decide +kernel, by decide +kernel⟩
theorem ok_places1 {f : Addr} {fd : FuncData} {n : Nat} (F : Fun K "_law_places" "_law_places" sPlaces f fd) (U_law_places : Use P w K mg base "_law_places" ["_law_tree_here", "_law_path"] n (spD K 2 (tfPls n))) (T : Bl mg) :
    FnOk P w K mg base CX0 (n + 1) f fd ["_law_tree_here", "_law_path"] (spD K 2 (tfPls (n + 1))) := by
  refine okD F scPlaces rfl fun cdv A outer s H E hr => ?_
  refine ⟨_, _, (pss_cons (ps_set (i := 2) scPlaces.nd rfl (.inl rfl) (pe_lst (pa_cons (pv 1) pa_nil)))
    (pss_cons (ps_for PassesOwn.never rfl (pi_enumT (by rfl) T.enum (pa_cons (pe_ix ix_tup (pv 0) pe_int (fun _ _ => rfl)) pa_nil)) (pg_tup rfl (pgs_cons (pg_name (i := 3) scPlaces.nd rfl (.inl rfl)) (pgs_cons (pg_name (i := 4) scPlaces.nd rfl (.inl rfl)) pgs_nil))) (pss_one (ps_set (i := 2) scPlaces.nd rfl (.inl rfl) (pe_op op_cat (pv 2) (pe_call U_law_places.ok (hr.mono (by omega)) rfl U_law_places.m U_law_places.kp U_law_places.b .nil pass0 (pa_cons (pv 4) (pa_cons (pe_op op_catA (pv 1) (pe_tup (pa_cons (pv 3) pa_nil))) pa_nil)))))))
    (pss_one (ps_ret (pv 2))))),
    (ss_cons (ss_set (se_lsf (sa_cons se_nm sa_nil)))
    (ss_cons (ss_for (si_enT (sa_cons (se_op so_ixT se_nm se_int) sa_nil)) sg_pair (ss_set (se_op so_catF se_nm (se_call (sa_cons se_nm (sa_cons (se_op so_catT se_nm (se_tup (sa_cons se_nm sa_nil))) sa_nil))))))
    (ss_ret se_nm))), fun ws M R RX hl h => ?_⟩
  obtain ⟨d, q, rfl, ⟨ht, hn, hq⟩, h3⟩ := h
  obtain ⟨s0, ks, rfl, hs, hk⟩ := ht
  rw [plc_node] at h3
  rw [nn] at hn
  simp only [start0, len_c, len_n, map_c, map_n, app_c, app_n, rep_0, rep_s, Nat.reduceAdd, Nat.reduceSub]
  decreasing_trivial
  refine forE (fun i ρ M' => M = M' ∧ ∃ y z, ρ = [some (W.d (PyData.tuple [PyData.str s0, PyData.tuple ks])), some (W.d (pathD q)), some (W.d (.list (pls q ([] :: plcAll 0 (ks.take i))))), y, z])
    ⟨rfl, none, none, by rw [List.take_zero, plcAll]; unfold pls; rw [List.map_cons, List.append_nil]; rfl⟩ (fun _ _ _ _ _ => trivial) (fun i a ρ M' N ha c hN => ?_) (fun ρ M' c => ?_)
  · obtain ⟨rfl, y, z, rfl⟩ := c
    rw [List.getElem?_map] at ha
    obtain ⟨kd, hkd, rfl⟩ := Option.map_eq_some_iff.mp ha
    have hm := List.mem_of_getElem? hkd
    have h1 := nn_mem hm
    have h2 := nnAll_take ks i
    have hi := (List.getElem?_eq_some_iff.mp hkd).1
    unfold pathD
    decreasing_trivial
    refine ⟨sz1000 (by simp; omega), ?_⟩
    rw [path_cat]
    decreasing_trivial
    refine ⟨kd, q ++ [i], rfl, ⟨hk kd hm, by omega, by simp; omega⟩, ?_⟩
    decreasing_trivial
    refine ⟨?_, ?_⟩
    · simp only [List.length_map, pls_len, List.length_cons, plcAll_len (n := n) _ (fun x hx => hk x (List.mem_of_mem_take hx)), plc_len (hk kd hm)]
      exact sz1000 (by omega)
    · have e : pls q ([] :: plcAll 0 (ks.take i)) ++ pls (q ++ [i]) (plc kd) = pls q ([] :: plcAll 0 (ks.take (i + 1))) := by
        rw [pls_kid, ← pls_app, List.take_add_one, hkd, plcAll_app, List.cons_append]
        show pls q ([] :: (plcAll 0 (ks.take i) ++ _)) = pls q ([] :: (plcAll 0 (ks.take i) ++ plcAll (0 + (ks.take i).length) [kd]))
        rw [plcAll_one, List.length_take, show 0 + min i ks.length = i by omega]
      rw [e]
      exact hN _ _ ⟨rfl, _, _, rfl⟩
  · obtain ⟨rfl, y, z, rfl⟩ := c
    rw [List.length_map, List.take_length]
    exact h3
theorem ok_places {f : Addr} {fd : FuncData} (F : Fun K "_law_places" "_law_places" sPlaces f fd) (mF : mg "_law_places" = some (.ref f)) (T : Bl mg) : ∀ n, FnOk P w K mg base CX0 n f fd ["_law_tree_here", "_law_path"] (spD K 2 (tfPls n))
  | 0 => no0 fun ws M R RX ⟨_, _, _, ⟨h, _⟩, _⟩ => h
  | n + 1 => ok_places1 F ⟨f, fd, ok_places F mF T n, mF, F.kp, F.binds (ps := ["_law_tree_here", "_law_path"]) fun _ _ _ _ _ _ us hl => match us, hl with | [_, _], _ => rfl⟩ T
end
end Tl
set_option Elab.async false
set_option linter.all false
set_option maxRecDepth 100000
set_option maxHeartbeats 8000000
namespace Tl
open PySem L2 RZ
local macro_rules
  | `(tactic| decreasing_trivial) => `(tactic| ((with_reducible (conv => whnf)); (repeat ((first | (with_reducible refine gDs_c ?_) | (with_reducible refine gDs_n ?_) | (with_reducible refine gNs_c ?_) | (with_reducible refine gNs_n ?_) | (with_reducible refine gO_i tyAny_lt ?_) | (with_reducible refine gIs_c ?_) | (with_reducible refine gIs_n ?_) | (with_reducible refine gBs_c ?_) | (with_reducible refine gBs_n ?_) | (with_reducible refine gSs_c ?_) | (with_reducible refine gSs_n ?_) | (with_reducible refine gO_i tyIs_int ?_) | (with_reducible refine gO_i tyIs_bool ?_) | (with_reducible refine gO_i tyIs_str ?_) | (with_reducible refine gO_i tyIs_tuple ?_) | (with_reducible refine gO_i tyIs_list ?_) | (with_reducible refine gDs_i ?_) | (with_reducible refine gO_i (Eq.refl _) ?_) | (with_reducible refine gO_i (by assumption) ?_) | (with_reducible refine gO_i at_0 ?_) | (with_reducible refine gO_i at_m0 ?_) | (with_reducible refine gO_i at_1 ?_) | (with_reducible refine gO_i at_m1 ?_) | (with_reducible refine gO_i at_2 ?_) | (with_reducible refine gO_i at_m2 ?_) | (with_reducible refine gO_i at_3 ?_) | (with_reducible refine gO_i at_m3 ?_) | (with_reducible refine gO_i at_4 ?_) | (with_reducible refine gO_i at_m4 ?_) | (with_reducible refine gO_i at_5 ?_) | (with_reducible refine gO_i at_m5 ?_) | (with_reducible refine gO_i at_6 ?_) | (with_reducible refine gO_i at_m6 ?_) | (with_reducible refine gO_i at_7 ?_) | (with_reducible refine gO_i at_m7 ?_) | (with_reducible refine IfB.ngf ?_) | (with_reducible refine IfB.ngt ?_) | (with_reducible refine IfB.not ?_) | (with_reducible refine IfB.nil ?_) | (with_reducible refine IfB.nilT ?_) | (with_reducible refine IfB.f isE_c ?_) | (with_reducible refine IfB.t isE_n ?_) | (with_reducible refine IfB.t ?gha ?_; (case gha => rfl)) | (with_reducible refine IfB.f ?gha ?_; (case gha => rfl)) | (with_reducible refine IfB.t ?gha ?_; (case gha => assumption)) | (with_reducible refine IfB.f ?gha ?_; (case gha => assumption)) | (with_reducible refine IfB.yes (Eq.refl _) ?_) | (with_reducible refine IfB.yes ?gha ?_; (case gha => (first | omega | (simp only [len_c, len_n, List.length_map]; omega)))) | (with_reducible refine IfB.no ?gha ?_; (case gha => (first | omega | (simp only [len_c, len_n, List.length_map]; omega)))) | (with_reducible refine IfB.t ?gha ?_; (case gha => decide +kernel)) | (with_reducible refine IfB.f ?gha ?_; (case gha => decide +kernel))); (with_reducible (conv => whnf))))))
local macro_rules
  | `(tactic| decreasing_trivial_pre_omega) => `(tactic| (decreasing_trivial; (repeat ((first | ((with_reducible refine And.intro ?gha ?_); (case gha => (first | assumption | omega | exact rfl | (exact mset_same) | (exact ⟨_, mset_same⟩) | (exact Exists.intro _ (by first | exact mset_same | assumption | (rw [mset_ne (by assumption)]; first | exact mset_same | assumption))) | (exact sm_of (by omega) (by omega)) | (exact sz1000 (by first | omega | (simp; done) | (simp; omega))) | (exact Or.inl ⟨by decide, by decide⟩) | decide | (simp; done) | (refine ⟨?_, ?_⟩ <;> (first | assumption | omega | exact rfl | (exact mset_same) | (exact ⟨_, mset_same⟩) | (exact Exists.intro _ (by first | exact mset_same | assumption | (rw [mset_ne (by assumption)]; first | exact mset_same | assumption))) | (exact sm_of (by omega) (by omega)) | (exact sz1000 (by first | omega | (simp; done) | (simp; omega))) | (exact Or.inl ⟨by decide, by decide⟩) | decide | (simp; done))) | (refine ⟨?_, ?_, ?_⟩ <;> (first | assumption | omega | exact rfl | (exact mset_same) | (exact ⟨_, mset_same⟩) | (exact Exists.intro _ (by first | exact mset_same | assumption | (rw [mset_ne (by assumption)]; first | exact mset_same | assumption))) | (exact sm_of (by omega) (by omega)) | (exact sz1000 (by first | omega | (simp; done) | (simp; omega))) | (exact Or.inl ⟨by decide, by decide⟩) | decide | (simp; done))) | (refine ⟨?_, ?_, ?_, ?_⟩ <;> (first | assumption | omega | exact rfl | (exact mset_same) | (exact ⟨_, mset_same⟩) | (exact Exists.intro _ (by first | exact mset_same | assumption | (rw [mset_ne (by assumption)]; first | exact mset_same | assumption))) | (exact sm_of (by omega) (by omega)) | (exact sz1000 (by first | omega | (simp; done) | (simp; omega))) | (exact Or.inl ⟨by decide, by decide⟩) | decide | (simp; done)))))) | (with_reducible refine exW (by first | exact mset_same | assumption | (rw [mset_ne (by assumption)]; first | exact mset_same | assumption)) ?_)); decreasing_trivial))))
/-- all paths of a part in the walk behind, as a new list; as data -/
@[reducible] def tfPathsB (n : Nat) : TF := fun ws M R _ => ∃ (d : PyData) (q : List Nat), ws = [.d d, .d (pathD q)] ∧ (TrT n d ∧ nn d ≤ 100 ∧ q.length + n ≤ 100) ∧ ∀ p, M p = none → R (.r p) (mset M p (.lst ((pls q (plb d)).map W.d)))
@[reducible] def tfPlsB (n : Nat) : TF := fun ws M R _ => ∃ (d : PyData) (q : List Nat), ws = [.d d, .d (pathD q)] ∧ (TrT n d ∧ nn d ≤ 100 ∧ q.length + n ≤ 100) ∧ R (.d (.list (pls q (plb d)))) M
section
variable {P : Program} {w : World} {K : PySem.W.Frag} {mg : Str → Option Value} {base : Heap}
abbrev sPathsB : Stmt := top 25
theorem scPathsB : FnScope ["tree", "path", "paths", "at", "kid"] ["tree", "path"] (defScope sPathsB) := ⟨rfl, rfl, rfl, by decide +kernel, rfl, by decide +kernel, by decide +kernel⟩
theorem ok_pathsB1 {f : Addr} {fd : FuncData} {n : Nat} (F : Fun K "paths_behind" "paths_behind" sPathsB f fd) (Upaths_behind : Use P w K mg base "paths_behind" ["tree", "path"] n (spD K 2 (tfPlsB n))) (T : Bl mg) :
    FnOk P w K mg base CX0 (n + 1) f fd ["tree", "path"] (spD K 2 (tfPathsB (n + 1))) := by
  refine okD F scPathsB rfl fun cdv A outer s H E hr => ?_
  refine ⟨_, _, (pss_cons (ps_set (i := 2) scPathsB.nd rfl (.inl rfl) (pe_lst pa_nil))
    (pss_cons (ps_for PassesOwn.never rfl (pi_enumT (by rfl) T.enum (pa_cons (pe_ix ix_tup (pv 0) pe_int (fun _ _ => rfl)) pa_nil)) (pg_tup rfl (pgs_cons (pg_name (i := 3) scPathsB.nd rfl (.inl rfl)) (pgs_cons (pg_name (i := 4) scPathsB.nd rfl (.inl rfl)) pgs_nil))) (pss_one (ps_expr (pe_bm PySem.F.plainAttrs_list PySem.F.slot_list_extend PySem.F.type_list_extend mt_extend (pv 2) (pa_cons (pe_call Upaths_behind.ok (hr.mono (by omega)) rfl Upaths_behind.m Upaths_behind.kp Upaths_behind.b .nil pass0 (pa_cons (pv 4) (pa_cons (pe_op op_catA (pv 1) (pe_tup (pa_cons (pv 3) pa_nil))) pa_nil))) pa_nil)))))
    (pss_cons (ps_expr (pe_bm PySem.F.plainAttrs_list PySem.F.slot_list_append PySem.F.type_list_append mt_append (pv 2) (pa_cons (pv 1) pa_nil)))
    (pss_one (ps_ret (pv 2)))))),
    (ss_cons (ss_set (se_lst sa_nil))
    (ss_cons (ss_for (si_enT (sa_cons (se_op so_ixT se_nm se_int) sa_nil)) sg_pair (ss_drop (se_bmL sm_extend se_nm (sa_cons (se_call (sa_cons se_nm (sa_cons (se_op so_catT se_nm (se_tup (sa_cons se_nm sa_nil))) sa_nil))) sa_nil))))
    (ss_cons (ss_drop (se_bmL sm_append se_nm (sa_cons se_nm sa_nil)))
    (ss_ret se_nm)))), fun ws M R RX hl h => ?_⟩
  obtain ⟨d, q, rfl, ⟨ht, hn, hq⟩, h3⟩ := h
  obtain ⟨s0, ks, rfl, hs, hk⟩ := ht
  rw [plb_node] at h3
  rw [nn] at hn
  simp only [start0, len_c, len_n, map_c, map_n, app_c, app_n, rep_0, rep_s, Nat.reduceAdd, Nat.reduceSub]
  decreasing_trivial
  intro p hp
  decreasing_trivial
  refine forE (fun i ρ M' => mset M p (.lst ((pls q (plbAll 0 (ks.take i))).map W.d)) = M' ∧ ∃ y z, ρ = [some (W.d (PyData.tuple [PyData.str s0, PyData.tuple ks])), some (W.d (pathD q)), some (W.r p), y, z])
    ⟨by rw [List.take_zero, plbAll]; rfl, none, none, rfl⟩ (fun _ _ _ _ _ => trivial) (fun i a ρ M' N ha c hN => ?_) (fun ρ M' c => ?_)
  · obtain ⟨rfl, y, z, rfl⟩ := c
    rw [List.getElem?_map] at ha
    obtain ⟨kd, hkd, rfl⟩ := Option.map_eq_some_iff.mp ha
    have hm := List.mem_of_getElem? hkd
    have h1 := nn_mem hm
    have h2 := nnAll_take ks i
    have hi := (List.getElem?_eq_some_iff.mp hkd).1
    unfold pathD
    decreasing_trivial
    refine ⟨⟨_, mset_same⟩, ?_⟩
    decreasing_trivial
    refine ⟨sz1000 (by simp; omega), ?_⟩
    rw [path_cat]
    decreasing_trivial
    refine ⟨kd, q ++ [i], rfl, ⟨hk kd hm, by omega, by simp; omega⟩, ?_⟩
    decreasing_trivial
    refine ⟨_, mset_same, ?_⟩
    decreasing_trivial
    refine ⟨?_, ?_⟩
    · simp only [List.length_map, pls_len, plbAll_len (n := n) _ (fun x hx => hk x (List.mem_of_mem_take hx)), plb_len (hk kd hm)]
      exact sz1000 (by omega)
    · rw [mset_mset]
      refine hN _ _ ⟨?_, _, _, rfl⟩
      congr 2
      rw [← List.map_append, pls_kid, ← pls_app, List.take_add_one, hkd, plbAll_app]
      show List.map W.d (pls q (plbAll 0 (ks.take i) ++ plbAll (0 + (ks.take i).length) [kd])) = _
      rw [plbAll_one, List.length_take, show 0 + min i ks.length = i by omega]
  · obtain ⟨rfl, y, z, rfl⟩ := c
    rw [List.length_map, List.take_length]
    have hlb := plbAll_len 0 hk
    decreasing_trivial
    refine ⟨⟨_, mset_same⟩, ?_⟩
    decreasing_trivial
    refine ⟨_, mset_same, ?_, ?_⟩
    · rw [List.length_map, pls_len, hlb]
      exact small1000 (by omega)
    · rw [mset_mset]
      have := h3 p hp
      rw [pls_app, List.map_append] at this
      have e : (pls q [[]]).map W.d = [W.d (pathD q)] := by
        unfold pls
        rw [List.map_cons, List.append_nil]
        rfl
      rw [e] at this
      exact this
theorem ok_pathsB {f : Addr} {fd : FuncData} (F : Fun K "paths_behind" "paths_behind" sPathsB f fd) (mF : mg "paths_behind" = some (.ref f)) (T : Bl mg) : ∀ n, FnOk P w K mg base CX0 n f fd ["tree", "path"] (spD K 2 (tfPathsB n))
  | 0 => no0 fun ws M R RX ⟨_, _, _, ⟨h, _⟩, _⟩ => h
  | n + 1 => ok_pathsB1 F ⟨f, fd, FnOk.dat (ok_pathsB F mF T n) fun ws M R RX hl ⟨d, q, e, h1, h2⟩ => ⟨d, q, e, h1, fun p hp => ⟨p, _, rfl, hp, rfl, h2⟩⟩, mF, F.kp, F.binds (ps := ["tree", "path"]) fun _ _ _ _ _ _ us hl => match us, hl with | [_, _], _ => rfl⟩ T
theorem ok_pathsBD {f : Addr} {fd : FuncData} (F : Fun K "paths_behind" "paths_behind" sPathsB f fd) (mF : mg "paths_behind" = some (.ref f)) (T : Bl mg) (n : Nat) : FnOk P w K mg base CX0 n f fd ["tree", "path"] (spD K 2 (tfPlsB n)) :=
  FnOk.dat (ok_pathsB F mF T n) fun ws M R RX hl ⟨d, q, e, h1, h2⟩ => ⟨d, q, e, h1, fun p hp => ⟨p, _, rfl, hp, rfl, h2⟩⟩
end
end Tl
set_option Elab.async false
set_option linter.all false
set_option maxRecDepth 100000
set_option maxHeartbeats 8000000
namespace Tl
open PySem L2 RZ
local macro_rules
  | `(tactic| decreasing_trivial) => `(tactic| ((with_reducible (conv => whnf)); (repeat ((first | (with_reducible refine gDs_c ?_) | (with_reducible refine gDs_n ?_) | (with_reducible refine gNs_c ?_) | (with_reducible refine gNs_n ?_) | (with_reducible refine gO_i tyAny_lt ?_) | (with_reducible refine gIs_c ?_) | (with_reducible refine gIs_n ?_) | (with_reducible refine gBs_c ?_) | (with_reducible refine gBs_n ?_) | (with_reducible refine gSs_c ?_) | (with_reducible refine gSs_n ?_) | (with_reducible refine gO_i tyIs_int ?_) | (with_reducible refine gO_i tyIs_bool ?_) | (with_reducible refine gO_i tyIs_str ?_) | (with_reducible refine gO_i tyIs_tuple ?_) | (with_reducible refine gO_i tyIs_list ?_) | (with_reducible refine gDs_i ?_) | (with_reducible refine gO_i (Eq.refl _) ?_) | (with_reducible refine gO_i (by assumption) ?_) | (with_reducible refine gO_i at_0 ?_) | (with_reducible refine gO_i at_m0 ?_) | (with_reducible refine gO_i at_1 ?_) | (with_reducible refine gO_i at_m1 ?_) | (with_reducible refine gO_i at_2 ?_) | (with_reducible refine gO_i at_m2 ?_) | (with_reducible refine gO_i at_3 ?_) | (with_reducible refine gO_i at_m3 ?_) | (with_reducible refine gO_i at_4 ?_) | (with_reducible refine gO_i at_m4 ?_) | (with_reducible refine gO_i at_5 ?_) | (with_reducible refine gO_i at_m5 ?_) | (with_reducible refine gO_i at_6 ?_) | (with_reducible refine gO_i at_m6 ?_) | (with_reducible refine gO_i at_7 ?_) | (with_reducible refine gO_i at_m7 ?_) | (with_reducible refine IfB.ngf ?_) | (with_reducible refine IfB.ngt ?_) | (with_reducible refine IfB.not ?_) | (with_reducible refine IfB.nil ?_) | (with_reducible refine IfB.nilT ?_) | (with_reducible refine IfB.f isE_c ?_) | (with_reducible refine IfB.t isE_n ?_) | (with_reducible refine IfB.t ?gha ?_; (case gha => rfl)) | (with_reducible refine IfB.f ?gha ?_; (case gha => rfl)) | (with_reducible refine IfB.t ?gha ?_; (case gha => assumption)) | (with_reducible refine IfB.f ?gha ?_; (case gha => assumption)) | (with_reducible refine IfB.yes (Eq.refl _) ?_) | (with_reducible refine IfB.yes ?gha ?_; (case gha => (first | omega | (simp only [len_c, len_n, List.length_map]; omega)))) | (with_reducible refine IfB.no ?gha ?_; (case gha => (first | omega | (simp only [len_c, len_n, List.length_map]; omega)))) | (with_reducible refine IfB.t ?gha ?_; (case gha => decide +kernel)) | (with_reducible refine IfB.f ?gha ?_; (case gha => decide +kernel))); (with_reducible (conv => whnf))))))
local macro_rules
  | `(tactic| decreasing_trivial_pre_omega) => `(tactic| (decreasing_trivial; (repeat ((first | ((with_reducible refine And.intro ?gha ?_); (case gha => (first | assumption | omega | exact rfl | (exact mset_same) | (exact ⟨_, mset_same⟩) | (exact Exists.intro _ (by first | exact mset_same | assumption | (rw [mset_ne (by assumption)]; first | exact mset_same | assumption))) | (exact sm_of (by omega) (by omega)) | (exact sz1000 (by first | omega | (simp; done) | (simp; omega))) | (exact Or.inl ⟨by decide, by decide⟩) | decide | (simp; done) | (refine ⟨?_, ?_⟩ <;> (first | assumption | omega | exact rfl | (exact mset_same) | (exact ⟨_, mset_same⟩) | (exact Exists.intro _ (by first | exact mset_same | assumption | (rw [mset_ne (by assumption)]; first | exact mset_same | assumption))) | (exact sm_of (by omega) (by omega)) | (exact sz1000 (by first | omega | (simp; done) | (simp; omega))) | (exact Or.inl ⟨by decide, by decide⟩) | decide | (simp; done))) | (refine ⟨?_, ?_, ?_⟩ <;> (first | assumption | omega | exact rfl | (exact mset_same) | (exact ⟨_, mset_same⟩) | (exact Exists.intro _ (by first | exact mset_same | assumption | (rw [mset_ne (by assumption)]; first | exact mset_same | assumption))) | (exact sm_of (by omega) (by omega)) | (exact sz1000 (by first | omega | (simp; done) | (simp; omega))) | (exact Or.inl ⟨by decide, by decide⟩) | decide | (simp; done))) | (refine ⟨?_, ?_, ?_, ?_⟩ <;> (first | assumption | omega | exact rfl | (exact mset_same) | (exact ⟨_, mset_same⟩) | (exact Exists.intro _ (by first | exact mset_same | assumption | (rw [mset_ne (by assumption)]; first | exact mset_same | assumption))) | (exact sm_of (by omega) (by omega)) | (exact sz1000 (by first | omega | (simp; done) | (simp; omega))) | (exact Or.inl ⟨by decide, by decide⟩) | decide | (simp; done)))))) | (with_reducible refine exW (by first | exact mset_same | assumption | (rw [mset_ne (by assumption)]; first | exact mset_same | assumption)) ?_)); decreasing_trivial))))
def isCost : PyData → Bool
  | .int i => decide (1 ≤ i) && decide (i ≤ 100)
  | _ => false
def costsB : PyData → Bool
  | .tuple ds => decide (ds.length = 3) && ds.all isCost
  | _ => false
theorem c_int {X : Cx} {x : Str} {i : Int} (C : ∃ t, X.mg x = some (.int i t)) {p : Pos} (hg : Gl X x := by rfl) (hd : (x == ("__debug__" : Str)) = false := by decide) : PE X (.Name x p) (tC (.int i)) := by
  obtain ⟨t, e⟩ := C
  exact pe_glob hg e ⟨t, rfl⟩ hd
section
variable {P : Program} {w : World} {K : PySem.W.Frag} {mg : Str → Option Value} {base : Heap}
abbrev sIsCosts : Stmt := top 29
theorem scIsCosts : FnScope ["thing", "cost"] ["thing"] (defScope sIsCosts) := ⟨rfl, rfl, rfl, by decide +kernel, rfl, by decide +kernel, by decide +kernel⟩
theorem ok_isCosts {f : Addr} {fd : FuncData} {k j : Nat} (F : Fun K "is_costs" "is_costs" sIsCosts f fd) (Uis_count : Use P w K mg base "is_count" ["thing"] j (spD K 1 (tfB isCount))) (hj : j ≤ k) (T : Bl mg) (CC : ∃ t, mg "COST" = some (.int 100 t)) : FnOk P w K mg base CX0 (k + 1) f fd ["thing"] (spD K 1 (tfB costsB)) := by
  refine okD F scIsCosts rfl fun cdv A outer s H E hr => ?_
  refine ⟨_, _, (pss_cons (ps_if (PW.pt (pw_or (pt_not (pt_val (pe_callB (r := rIsi K) call_isi (by rfl) T.isi PyProof.Rows.boot_isinstance (pa_cons (pv 0) (pa_cons (b_tuple T) pa_nil))))) (pw_or1 (pt_cmpR op_ne (pe_callB call_len_seq (by rfl) T.len PySem.boot_len (pa_cons (pv 0) pa_nil)) pe_int (nomark _))))) (pss_one (ps_ret pe_bl)) pss_nil)
    (pss_one (ps_ret (pe_callB (cr_all rfl) (by rfl) T.all PyProof.Rows.boot_all (pa_cons (pe_lc (own := [("cost", 1)]) (g := gName 1) (tt := tYes) (by rfl) scIsCosts.nd (pi_tup (pv 0)) (blkOk_by (N := ["thing", "cost"]) (sc := defScope sIsCosts) (own := [("cost", 1)]) (by decide +kernel)) (fun _ _ _ _ _ => pg_name (i := 1) scIsCosts.nd rfl (Or.inl rfl)) (fun _ _ _ _ _ => pts_nil) (fun _ _ _ _ _ => (pe_and (pe_call Uis_count.ok (hr.mono (by omega)) rfl Uis_count.m Uis_count.kp Uis_count.b .nil pass0 (pa_cons (pv 1) pa_nil)) (pe_one (pe_chain op_le op_le pe_int (pv 1) (c_int CC)))))) pa_nil))))),
    (ss_cons (ss_if (st_or (st_not (st_val (se_cb sc_isi (sa_cons se_nm (sa_cons se_o sa_nil))))) (st_test (se_op so_neS (se_cb sc_len (sa_cons se_nm sa_nil)) se_int))) (ss_ret se_bl) ss_nil)
    (ss_ret (se_cb sc_all (sa_cons (se_lcF (si_tup se_nm) sg_name st_yes (se_and (se_call (sa_cons se_nm sa_nil)) (se_chain so_le so_le se_int se_nm se_int))) sa_nil)))), fun ws M R RX hl h => ?_⟩
  obtain ⟨x, rfl, h1⟩ := g1_of h
  obtain ⟨d, rfl, ht, h2⟩ := gD_of h1
  cases d with
  | tuple ds =>
    rw [txt] at ht
    rw [costsB] at h2
    simp only [start0, len_c, len_n, map_c, map_n, app_c, app_n, rep_0, rep_s, Nat.reduceAdd, Nat.reduceSub]
    decreasing_trivial
    refine IfB.n (fun c => ?_) (fun c => ?_)
    · decreasing_trivial
      rw [decide_eq_false (p := ds.length = 3) (by omega), Bool.false_and] at h2
      exact h2
    · rw [decide_eq_true (p := ds.length = 3) (by omega), Bool.true_and] at h2
      decreasing_trivial
      refine lc1F (k := fun _ => True) (b := bName 1) (fun d => .bool (isCost d)) trivial (fun d hm Rk q => ?_) (sz1000 (by omega)) ?_
      · obtain ⟨jj, hjj⟩ := List.getElem?_of_mem hm
        have htx := txtAll_get ht hjj
        decreasing_trivial
        refine ⟨htx, ?_⟩
        cases d with
        | int i =>
          rw [isCost] at q
          by_cases c0 : 0 ≤ i
          · rw [show isCount (.int i) = true by rw [isCount]; exact decide_eq_true c0]
            decreasing_trivial
            refine IfB.d (fun c1 => ?_) (fun c1 => ?_)
            · decreasing_trivial
              rw [decide_eq_true c1, Bool.true_and] at q
              exact q
            · decreasing_trivial
              rw [decide_eq_false c1, Bool.false_and] at q
              exact q
          · rw [show isCount (.int i) = false by rw [isCount]; exact decide_eq_false c0]
            decreasing_trivial
            rw [decide_eq_false (p := 1 ≤ i) (by omega), Bool.false_and] at q
            exact q
        | _ => decreasing_trivial_pre_omega; first | exact q | exact IfB.f rfl q
      · dsimp only
        show gBs ((ds.map fun d => PyData.bool (isCost d)).map W.d) _
        rw [mapW, gBs_map]
        rw [List.all_map]
        exact h2
  | _ => simp only [start0, len_c, len_n, map_c, map_n, app_c, app_n, rep_0, rep_s, Nat.reduceAdd, Nat.reduceSub]; decreasing_trivial; exact h2
/-- the labels: a tag, the least number within the part -/
def lbl (x : Wk) : PyData := .tuple [x.2.1, .int (x.2.2 : Int)]
@[reducible] def tfLabels : TF := fun ws M R _ => g1 ws fun x => gD x fun d => (TrT 12 d ∧ nn d ≤ 60) ∧ R (.d (.list ((wk d [] 0).map lbl))) M
abbrev sLabels : Stmt := top 30
theorem scLabels : FnScope ["tree", "labels", "number", "path", "part"] ["tree"] (defScope sLabels) := ⟨rfl, rfl, rfl, by decide +kernel, rfl, by decide +kernel, by decide +kernel⟩
theorem ok_labels {f : Addr} {fd : FuncData} {k j1 j2 j3 : Nat} (F : Fun K "labels_of" "labels_of" sLabels f fd) (Upaths_behind : Use P w K mg base "paths_behind" ["tree", "path"] j1 (spD K 2 (tfPlsB 12))) (Upart_at : Use P w K mg base "part_at" ["tree", "path"] j2 (spD K 2 tfPartAt)) (Ucount_places : Use P w K mg base "count_places" ["tree"] j3 (spD K 1 (tfN nn 12))) (h1 : j1 ≤ k) (h2 : j2 ≤ k) (h3 : j3 ≤ k) (T : Bl mg) :
    FnOk P w K mg base CX0 (k + 1) f fd ["tree"] (spD K 1 tfLabels) := by
  refine FnOk.dat (tf := fun ws M R _ => g1 ws fun x => gD x fun d => (TrT 12 d ∧ nn d ≤ 60) ∧ ∀ p, M p = none → R (.r p) (mset M p (.lst (((wk d [] 0).map lbl).map W.d)))) ?_ (fun ws M R RX hl h => by
    obtain ⟨x, rfl, q1⟩ := g1_of h
    obtain ⟨d, rfl, q2, q3⟩ := gD_of q1
    exact ⟨q2, fun p hp => ⟨p, _, rfl, hp, rfl, q3⟩⟩)
  refine okD F scLabels rfl fun cdv A outer s H E hr => ?_
  refine ⟨_, _, (pss_cons (ps_set (i := 1) scLabels.nd rfl (.inl rfl) (pe_lst pa_nil))
    (pss_cons (ps_for PassesOwn.never rfl (pi_enum (by rfl) T.enum (pa_cons (pe_call Upaths_behind.ok (hr.mono (by omega)) rfl Upaths_behind.m Upaths_behind.kp Upaths_behind.b .nil pass0 (pa_cons (pv 0) (pa_cons (pe_tup pa_nil) pa_nil))) pa_nil)) (pg_tup rfl (pgs_cons (pg_name (i := 2) scLabels.nd rfl (.inl rfl)) (pgs_cons (pg_name (i := 3) scLabels.nd rfl (.inl rfl)) pgs_nil))) (pss_cons (ps_set (i := 4) scLabels.nd rfl (.inl rfl) (pe_call Upart_at.ok (hr.mono (by omega)) rfl Upart_at.m Upart_at.kp Upart_at.b .nil pass0 (pa_cons (pv 0) (pa_cons (pv 3) pa_nil))))
      (pss_one (ps_expr (pe_bm PySem.F.plainAttrs_list PySem.F.slot_list_append PySem.F.type_list_append mt_append (pv 1) (pa_cons (pe_tup (pa_cons (pe_ix ix_tup (pv 4) pe_int (fun _ _ => rfl)) (pa_cons (pe_op op_sub (pe_op op_add (pv 2) pe_int) (pe_call Ucount_places.ok (hr.mono (by omega)) rfl Ucount_places.m Ucount_places.kp Ucount_places.b .nil pass0 (pa_cons (pv 4) pa_nil))) pa_nil))) pa_nil))))))
    (pss_one (ps_ret (pv 1))))),
    (ss_cons (ss_set (se_lst sa_nil))
    (ss_cons (ss_for (si_enL (sa_cons (se_call (sa_cons se_nm (sa_cons (se_tup sa_nil) sa_nil))) sa_nil)) sg_pair (ss_cons (ss_set (se_call (sa_cons se_nm (sa_cons se_nm sa_nil))))
      (ss_drop (se_bmL sm_append se_nm (sa_cons (se_tup (sa_cons (se_op so_ixT se_nm se_int) (sa_cons (se_op so_sub (se_op so_add se_nm se_int) (se_call (sa_cons se_nm sa_nil))) sa_nil))) sa_nil)))))
    (ss_ret se_nm))), fun ws M R RX hl h => ?_⟩
  obtain ⟨x, rfl, q1⟩ := g1_of h
  obtain ⟨d, rfl, ⟨ht, hn⟩, q2⟩ := gD_of q1
  obtain ⟨w1, w2⟩ := wk_ok [] 0 ht
  have hlen := plb_len ht
  have hlw : (wk d [] 0).length = nn d := by rw [← hlen, ← List.length_map (f := (·.1)) (as := wk d [] 0), w1, List.length_map]
  simp only [start0, len_c, len_n, map_c, map_n, app_c, app_n, rep_0, rep_s, Nat.reduceAdd, Nat.reduceSub]
  decreasing_trivial
  intro p hp
  decreasing_trivial
  refine ⟨d, [], rfl, ⟨ht, by omega, by decide⟩, ?_⟩
  decreasing_trivial
  refine forE (fun i ρ M' => mset M p (.lst ((((wk d [] 0).take i).map lbl).map W.d)) = M' ∧ ∃ y z u, ρ = [some (W.d d), some (W.r p), y, z, u]) ⟨rfl, none, none, none, rfl⟩ (fun _ _ _ _ _ => trivial) (fun i a ρ M' N ha c hN => ?_) (fun ρ M' c => ?_)
  · obtain ⟨rfl, y, z, u, rfl⟩ := c
    unfold pls at ha
    rw [mapW, List.getElem?_map] at ha
    obtain ⟨q, hq, rfl⟩ := Option.map_eq_some_iff.mp ha
    have hi := (List.getElem?_eq_some_iff.mp hq).1
    obtain ⟨x, hx⟩ : ∃ x, (wk d [] 0)[i]? = some x := ⟨(wk d [] 0)[i]'(by omega), List.getElem?_eq_getElem _⟩
    obtain ⟨e, he, e1, e2, ks', ee⟩ := w2 i q x hq hx
    obtain ⟨t1, t2, t3⟩ := sub_tr ht he
    decreasing_trivial
    refine ⟨d, q, 12, rfl, ht, ?_⟩
    rw [he]
    have t1' : TrT 12 e := t1.mono (by omega)
    rw [ee] at t1' t3 e1
    rw [ee]
    unfold optP
    dsimp only
    decreasing_trivial
    refine ⟨⟨_, mset_same⟩, ?_⟩
    decreasing_trivial
    refine ⟨⟨t1', by show nn (.tuple [x.2.1, .tuple ks']) ≤ 200; omega⟩, ?_⟩
    decreasing_trivial
    refine ⟨_, mset_same, ?_, ?_⟩
    · rw [List.length_map, List.length_map, List.length_take]
      exact small1000 (by omega)
    · rw [mset_mset]
      refine hN _ _ ⟨?_, _, _, _, rfl⟩
      congr 2
      rw [List.take_add_one, hx, List.map_append, List.map_append]
      show _ ++ [W.d (lbl x)] = _ ++ [W.d (PyData.tuple [x.2.1, .int ((i : Int) + 1 - ((nn (.tuple [x.2.1, .tuple ks']) : Nat) : Int))])]
      congr 3
      unfold lbl
      rw [show (i : Int) + 1 - ((nn (.tuple [x.2.1, .tuple ks']) : Nat) : Int) = (x.2.2 : Int) by omega]
  · obtain ⟨rfl, y, z, u, rfl⟩ := c
    rw [show (((pls [] (plb d)).map W.d).length) = (wk d [] 0).length by rw [List.length_map, pls_len, hlen, hlw], List.take_length]
    exact q2 p hp
theorem wk_len {n : Nat} {d : PyData} (q : List Nat) (m : Nat) (ht : TrT n d) : (wk d q m).length = nn d := by rw [← plb_len ht, ← List.length_map (f := (·.1)) (as := wk d q m), (wk_ok q m ht).1, List.length_map]
end
end Tl
set_option Elab.async false
set_option linter.all false
set_option maxRecDepth 100000
set_option maxHeartbeats 4000000
/-! A list of three taken apart. -/
set_option Elab.async false
set_option linter.all false
set_option maxRecDepth 100000
set_option maxHeartbeats 4000000
/-! sorted: of data that are alike (tuples may be empty), of any length. -/
namespace Tl
open PySem L2 PyProof.Rows
open PySem.W (alike alikeAll AllAlike Sortable dataLe dataLt SortsAt EachIs keyToks keyToksAll)
mutual
theorem alike_nd1 : ∀ d : PyData, alike d d = true → d.hasDict = false
  | .none, _ => rfl
  | .bool _, _ => rfl
  | .int _, _ => rfl
  | .str _, _ => rfl
  | .list xs, h => by
    rw [PyData.hasDict]
    exact alike_nds xs (by simpa only [alike] using h)
  | .tuple xs, h => by
    rw [PyData.hasDict]
    exact alike_nds xs (by simpa only [alike] using h)
  | .dict _, h => by simp [alike] at h
theorem alike_nds : ∀ xs : List PyData, alikeAll xs xs = true → PyData.hasDictAll xs = false
  | [], _ => rfl
  | x :: xs, h => by
    have h2 := PySem.W.alike_all_cons h
    rw [PyData.hasDictAll, alike_nd1 x h2.1, alike_nds xs h2.2]
    rfl
end
/-- data that can be sorted -/
structure SrtOk (ds : List PyData) : Prop where
  al : AllAlike ds
  ty : Sortable ds ∨ ∀ d ∈ ds, ∃ xs, d = .tuple xs
  dp : ∀ d ∈ ds, d.depth ≤ 60
/-- sorted, by Python's order of alike data -/
def srt (ds : List PyData) : List PyData := ds.mergeSort (dataLe false id)
section
variable {M : Model} {prog : Program} {w : World} {A : Around} {E : Value → Shared → Prop} {s : Shared}
/-- the first items of tuples, where there are some -/
theorem firsts_tup : ∀ (vs : List Value) (ds : List PyData) {Q : List (Option Value) → Shared → Prop}, EachIs (fun v d => ∃ as, Reads s.heap v d as) vs ds → (∀ d ∈ ds, ∃ xs, d = .tuple xs) →
    (∀ fs : List (Option Value), fs.length = ds.length → (∀ (i : Nat) (x : PyData), ds[i]? = some x → ∃ f, fs[i]? = some f ∧ (f.isSome = true ↔ x ≠ .tuple [])) → Q fs s) → wpAny M A (vs.mapM firstOfTuple') Q E s
  | [], _, _, e, _, h => by
    cases e
    rw [List.mapM_nil]
    exact wpAny_pure (h [] rfl fun i x q => by simp at q)
  | v :: vs, _, Q, e, ht, h => by
    cases e with
    | @cons _ d _ ds r t =>
      obtain ⟨as, r⟩ := r
      obtain ⟨xs, rfl⟩ := ht _ (List.mem_cons_self ..)
      cases r with
      | @tuple a o us n _ _ ho hc hd hr =>
        rw [List.mapM_cons]
        refine wpAny_bind ?_
        rw [PySem.W.kas_first_eq]
        refine wpAny_bind (PySem.W.Looks.here (show PySem.W.Looks M s.heap (typeOf (.ref a)) o.cls from (PySem.W.Looks.ld ho).andThen .now) ?_)
        rw [hc, if_neg (by decide)]
        refine wpAny_bind (listItems_at ho hd (wpAny_pure ?_))
        refine wpAny_bind (firsts_tup vs ds (Q := fun bs s' => wpAny M A (pure (us[0]? :: bs)) Q E s') t (fun d hd => ht d (List.mem_cons_of_mem _ hd)) fun fs h1 h2 => wpAny_pure (h _ (by rw [List.length_cons, List.length_cons, h1]) fun i x q => ?_))
        cases i with
        | zero =>
          rw [List.getElem?_cons_zero] at q ⊢
          cases q
          refine ⟨_, rfl, ?_⟩
          have hl : us.size = xs.length := by simpa using SeqAt.ReadsAll.length _ _ _ hr
          cases xs with
          | nil =>
            have : us = #[] := Array.eq_empty_of_size_eq_zero hl
            subst this
            simp
          | cons x r =>
            have h0 : 0 < us.size := by rw [hl, List.length_cons]; exact Nat.succ_pos _
            rw [Array.getElem?_eq_getElem h0]
            simp
        | succ i =>
          rw [List.getElem?_cons_succ] at q ⊢
          exact h2 i x q
/-- one tuple against another -/
theorem oneLt_tup {f : Bool} {xs ys : List PyData} {a b : Value} {as bs : List Addr} {Q : Bool → Shared → Prop} (ra : Reads s.heap a (.tuple xs) as) (rb : Reads s.heap b (.tuple ys) bs) (h : alike (.tuple xs) (.tuple ys) = true)
    (hu : A.units + min (PyData.tuple xs).depth (PyData.tuple ys).depth < cLine) (hq : Q (dataLt (.tuple xs) (.tuple ys)) s) : wpAny (model prog w) A (oneLt' f a b) Q E s := by
  cases f with
  | false =>
    rw [oneLt'_eq]
    simp only [Bool.false_eq_true, if_false]
    exact wpAny_bind (PySem.W.rcLt_alike _ _ A s a b as bs ra rb h (by simp) hu prog w E _ (wpAny_truthy_bool hq))
  | true =>
    have hal : alikeAll xs ys = true := by simpa [alike] using h
    cases ra with
    | @tuple l o vs n _ as1 h1 h2 h3 h4 =>
      cases rb with
      | @tuple m p ws k _ bs1 k1 k2 k3 k4 =>
        have n1 : vs.size = xs.length := by simpa using SeqAt.ReadsAll.length _ _ _ h4
        have n2 : ws.size = ys.length := by simpa using SeqAt.ReadsAll.length _ _ _ k4
        rw [PySem.W.dataLt_tuple, ← PySem.W.firstLt_toks xs ys hal, ← n1, ← n2] at hq
        rw [oneLt'_eq]
        simp only [if_true]
        refine wpAny_bind (wpAny_cRoomFor (SeqAt.room_here hu) ?_)
        obtain ⟨cls, dd, data, sl⟩ := o
        obtain ⟨cls2, dd2, data2, sl2⟩ := p
        simp only at h2 h3 k2 k3
        subst h2 h3 k2 k3
        refine wpAny_bind (wpAny_callSpecialIfBound?_slot (T := "tuple") ⟨_, h1, rfl⟩ F.slot_tuple_lt (call_meets F.slot_tuple_lt ⟨_, h1, rfl⟩ F.entry_tuple_lt (F.args_tuple_lt_2 _ _)
          (SeqAt.tuple_ltAt l m vs ws n k dd dd2 sl sl2 (SeqAt.pairEq xs ys) (fun j => dataLt (xs.getD j .none) (ys.getD j .none))) ⟨h1, k1, fun j j1 j2 => ?_, fun j j1 j2 hj => ?_, ?_⟩))
        · have := PySem.W.eqAt_alikeAll xs ys A.in1 s vs.toList ws.toList _ _ h4 k4 hal (SeqAt.room_in hu) j (by simpa using j1) (by simpa using j2)
          simpa using this
        · have := PySem.W.rcLt_alikeAll xs ys A.in1 s vs.toList ws.toList _ _ h4 k4 hal (SeqAt.room_in hu) j (by simpa using j1) (by simpa using j2) hj
          simpa using this
        · exact wpAny_truthy_bool hq
/-- tuples, empty ones among them, can be sorted -/
theorem sorts_tups {vs : List Value} {ds : List PyData} (e : EachIs (fun v d => ∃ as, Reads s.heap v d as) vs ds) (hal : AllAlike ds) (ht : ∀ d ∈ ds, ∃ xs, d = .tuple xs) (hu : ∀ d, d ∈ ds → A.units + d.depth < cLine) :
    SortsAt prog w A s (PySem.W.dataKind s.heap ds) vs := by
  by_cases hne : ∀ d ∈ ds, d ≠ .tuple []
  · refine SortsAt.data e hal (.inl fun d hd => ?_) hu
    obtain ⟨xs, rfl⟩ := ht d hd
    cases xs with
    | nil => exact absurd rfl (hne _ hd)
    | cons x r => exact ⟨x, r, rfl⟩
  refine ⟨fun v hv => ?_, ?_⟩
  · obtain ⟨d, hd, as, r⟩ := e.left v hv
    exact ⟨_, PySem.W.dataKind_some hal hd r⟩
  have cmp : ∀ (f : Bool) (E : Value → Shared → Prop) {x y : Value} {a b : (PySem.W.dataKind s.heap ds).α} {Q : Bool → Shared → Prop}, (PySem.W.dataKind s.heap ds).keyOf x = some a → (PySem.W.dataKind s.heap ds).keyOf y = some b →
      Q ((PySem.W.dataKind s.heap ds).blt a b) s → wpAny (model prog w) A (oneLt' f x y) Q E s := by
    intro f E x y a b Q ha hb hq
    obtain ⟨d, as, hd, ra, rfl⟩ := PySem.W.dataKind_inv ha
    obtain ⟨d', as', hd', rb, rfl⟩ := PySem.W.dataKind_inv hb
    have hdd := hal d hd d' hd'
    have hm := Nat.lt_of_le_of_lt (Nat.add_le_add_left (Nat.min_le_left d.depth d'.depth) A.units) (hu d hd)
    obtain ⟨xs, rfl⟩ := ht d hd
    obtain ⟨ys, rfl⟩ := ht d' hd'
    exact oneLt_tup ra rb hdd hm hq
  have some0 : ∃ d ∈ ds, d = .tuple [] := by
    apply Classical.byContradiction
    intro c
    exact hne fun d hd z => c ⟨d, hd, z⟩
  by_cases h0 : ds[0]? = some (.tuple [])
  · refine ⟨oneType', fun E x y a b Q ha hb hq => ?_, fun h2 E Q hq => ?_⟩
    · rw [keyLt'_oneType]
      exact cmp true E ha hb hq
    · rw [keyKind'_eq, List.mapM_toArray, map_eq_pure_bind]
      refine wpAny_bind (wpAny_bind (firsts_tup vs ds e ht fun fs h1 h2' => wpAny_pure ?_))
      obtain ⟨f, hf1, hf2⟩ := h2' 0 _ h0
      have hf3 : f.isSome = false := by
        cases c : f.isSome with
        | false => rfl
        | true => exact absurd rfl (hf2.mp c)
      obtain ⟨g, gs, rfl⟩ : ∃ g gs, fs = g :: gs := by
        cases fs with
        | nil => simp at hf1
        | cons g gs => exact ⟨g, gs, rfl⟩
      rw [List.getElem?_cons_zero] at hf1
      rw [← Option.some.inj hf1] at hf3
      have hn : g = none := by simpa using hf3
      subst hn
      rw [if_neg (by simp), if_neg (by simp)]
      rw [oneTypeOnly'_eq, List.mapM_toArray, map_eq_pure_bind]
      refine wpAny_bind (wpAny_bind (wpAny_bind (PySem.W.kas_mapM (r := Value.type "tuple") _ (fun v hv Q' hq => PySem.W.Looks.here ?_ hq) (wpAny_pure ?_))))
      · obtain ⟨d, hd, as, r⟩ := e.left v hv
        obtain ⟨xs, rfl⟩ := ht d hd
        exact PySem.W.looks_reads r
      · have hall : ((List.map (fun _ => Value.type "tuple") vs).toArray.all fun x => x == Value.type "tuple") = true := by
          simp only [List.all_toArray, List.all_map, List.all_eq_true]
          intro _ _
          exact beq_self_eq_true _
        have h0 : (List.map (fun _ => Value.type "tuple") vs).toArray[0]? = some (Value.type "tuple") := by
          cases vs with
          | nil => simp at h2
          | cons v r => simp
        rw [h0]
        simp only [hall, if_true]
        exact wpAny_pure (wpAny_pure hq)
  · refine ⟨general', fun E x y a b Q ha hb hq => ?_, fun h2 E Q hq => ?_⟩
    · show wpAny (model prog w) A (oneLt' false _ _) Q E s
      exact cmp false E ha hb hq
    · rw [keyKind'_eq, List.mapM_toArray, map_eq_pure_bind]
      refine wpAny_bind (wpAny_bind (firsts_tup vs ds e ht fun fs h1 h2' => wpAny_pure ?_))
      obtain ⟨d, hd, rfl⟩ := some0
      obtain ⟨i, hi⟩ := List.getElem?_of_mem hd
      obtain ⟨f, hf1, hf2⟩ := h2' i _ hi
      have hf3 : f.isSome = false := by
        cases c : f.isSome with
        | false => rfl
        | true => exact absurd rfl (hf2.mp c)
      have hall : ¬ (fs.toArray.all fun x => x.isSome) = true := by
        rw [List.all_toArray, List.all_eq_true]
        intro c
        have := c f (List.mem_of_getElem? hf1)
        rw [hf3] at this
        exact Bool.false_ne_true this
      rw [if_neg hall]
      obtain ⟨d0, hd0⟩ : ∃ d0, ds[0]? = some d0 := by
        cases ds with
        | nil => simp at hd
        | cons d0 r => exact ⟨d0, rfl⟩
      obtain ⟨g, hg1, hg2⟩ := h2' 0 _ hd0
      have hg3 : g.isSome = true := hg2.mpr fun z => h0 (by rw [hd0, z])
      rw [if_pos (by rw [List.getElem?_toArray, hg1]; simpa using hg3)]
      exact wpAny_pure hq
theorem sorts_any {vs : List Value} {ds : List PyData} (e : EachIs (fun v d => ∃ as, Reads s.heap v d as) vs ds) (k : SrtOk ds) (hu : A.units + 60 < cLine) : SortsAt prog w A s (PySem.W.dataKind s.heap ds) vs := by
  have hu' : ∀ d, d ∈ ds → A.units + d.depth < cLine := fun d hd => Nat.lt_of_le_of_lt (Nat.add_le_add_left (k.dp d hd) _) hu
  rcases k.ty with h | h
  · exact SortsAt.data e k.al h hu'
  · exact sorts_tups e k.al h hu'
end
end Tl
set_option Elab.async false
set_option linter.all false
set_option maxRecDepth 100000
set_option maxHeartbeats 4000000
/-! Tables by seven words, as the top leaves them. -/
set_option Elab.async false
set_option linter.all false
set_option maxRecDepth 100000
set_option maxHeartbeats 4000000
/-! Dicts that may change: made, stored into, looked up, walked. -/
namespace Tl
open PySem PySem.Spec PyProof.Rows L2
section
variable {K : PySem.W.Frag} {F H : Hp} {M : Mem}
section
variable {κ : Type} [DecidableEq κ]
theorem PrR.nil : PrR K F ([] : List (κ × V)) [] := ⟨rfl, .nil⟩
theorem PrR.cons {p : κ × V} {q : κ × W} {kv : List (κ × V)} {kw : List (κ × W)} (h1 : p.1 = q.1) (h2 : RW K F p.2 q.2) (h3 : PrR K F kv kw) : PrR K F (p :: kv) (q :: kw) :=
  ⟨by rw [List.map_cons, List.map_cons, h1, h3.1], .cons h2 h3.2⟩
theorem PrR.app {a c : List (κ × V)} {b d : List (κ × W)} (h : PrR K F a b) (g : PrR K F c d) : PrR K F (a ++ c) (b ++ d) :=
  ⟨by rw [List.map_append, List.map_append, h.1, g.1], by rw [List.map_append, List.map_append]; exact h.2.app g.2⟩
theorem PrR.got {kv : List (κ × V)} {kw : List (κ × W)} (h : PrR K F kv kw) {i : Nat} {q : κ × W} (e : kw[i]? = some q) : ∃ v, kv[i]? = some (q.1, v) ∧ RW K F v q.2 := by
  have hi : i < kw.length := (List.getElem?_eq_some_iff.mp e).1
  have h1 : (kv.map (·.1))[i]? = (kw.map (·.1))[i]? := by rw [h.1]
  rw [List.getElem?_map, List.getElem?_map, e] at h1
  obtain ⟨p, hp, e2⟩ := Option.map_eq_some_iff.mp h1
  obtain ⟨v, hv, r⟩ := h.2.got (i := i) (x := q.2) (by rw [List.getElem?_map, e]; rfl)
  rw [List.getElem?_map, hp] at hv
  cases hv
  exact ⟨p.2, by rw [hp]; exact congrArg some (Prod.ext e2 rfl), r⟩
end
theorem Rl.dK (h : Rl K F H M) {a : Addr} {kw : List (L2.Key × W)} (e : M a = some (.dK kw)) : ∃ kv, H a = some (.dK kv) ∧ PrR K F kv kw := by
  obtain ⟨_, h1, kv, rfl, h2⟩ := h.at_ a _ e
  exact ⟨kv, h1, h2⟩
theorem Rl.lkK (h : Rl K F H M) {a : Addr} {ob : Obj} {kv : List (L2.Key × V)} {kw : List (L2.Key × W)} (e : M a = some (.lkK ob kv kw)) : H a = some (.frz ob (.dK kv)) ∧ PrR K F kv kw := by
  obtain ⟨_, h1, rfl, h2⟩ := h.at_ a _ e
  exact ⟨h1, h2⟩
end
end Tl
set_option Elab.async false
set_option linter.all false
set_option maxRecDepth 100000
set_option maxHeartbeats 4000000
/-! x is True, x is not True, of truths. -/
namespace Tl
open PySem L2
section
variable {K : PySem.W.Frag}
@[reducible] def fIsB (neg : Bool) : F2 := fun x y M R => gB x fun a => gB y fun b => R (.d (.bool (ng neg (decide (a = b))))) M
theorem so_notB : SO K rNotB (fIsB true) := fun F H M v u x y R Q hr rx ry hf k => by
  obtain ⟨a, rfl, hf1⟩ := gB_of hf
  obtain ⟨b, rfl, hf2⟩ := gB_of hf1
  exact ⟨a, b, rx.bl, ry.bl, k _ H F M _ hr .refl (.d (.bl _)) hf2⟩
end
end Tl
set_option Elab.async false
set_option linter.all false
set_option maxRecDepth 100000
set_option maxHeartbeats 4000000
/-! Errors that leave a def and are caught by a suite that raises itself: the def's promise under L2N.CX. -/
namespace Tl
open PySem PySem.Spec PyProof.Rows L2
section
variable {P : Program} {w : World} {K : PySem.W.Frag} {mg : Str → Option Value} {base : Heap}
theorem ok_ofN {k : Nat} {f : Addr} {fd : FuncData} {ps : List Str} {sp : Sp} (F : FnOk P w K mg base (L2N.CX P w) k f fd ps sp) : FnOk P w K mg base (L2.CX P w) k f fd ps sp :=
  ⟨F.len, fun A outer s H args us vs Q E hr he hb hv hs => codeAny_mono (F.run A outer s H args us vs Q E hr he hb hv hs) fun r s' h => by
    cases r with
    | ok fl => cases fl <;> exact h
    | error e =>
      obtain ⟨a, B, H', cls, d, e1, fl, z⟩ := h
      exact ⟨a, B, H', cls, d, e1, L2H.flyingZ_imp (fun _ => L2N.Zn.zc) fl, z⟩⟩
structure UseN (P : Program) (w : World) (K : PySem.W.Frag) (mg : Str → Option Value) (base : Heap) (x : Str) (ps : List Str) (k : Nat) (sp : Sp) where
  f : Addr
  fd : FuncData
  ok : FnOk P w K mg base (L2N.CX P w) k f fd ps sp
  m : mg x = some (.ref f)
  kp : PySem.W.keepIn K (.ref f) = true
  b : Binds K fd ps []
def UseN.up {x : Str} {ps : List Str} {j k : Nat} {sp : Sp} (U : UseN P w K mg base x ps j sp) (h : j ≤ k) : UseN P w K mg base x ps k sp := ⟨U.f, U.fd, U.ok.mono h, U.m, U.kp, U.b⟩
def UseN.x {x : Str} {ps : List Str} {k : Nat} {sp : Sp} (U : UseN P w K mg base x ps k sp) : UseX P w K mg base x ps k sp := ⟨U.f, U.fd, ok_ofN U.ok, U.m, U.kp, U.b⟩
end
end Tl
set_option Elab.async false
set_option linter.all false
set_option maxRecDepth 100000
set_option maxHeartbeats 4000000
/-! count and index of True in a list of truths; a held error's field, whatever its class. -/
set_option Elab.async false
set_option linter.all false
set_option maxRecDepth 100000
set_option maxHeartbeats 4000000
/-! sorted(xs) of data: the rule and its reading; the law's source made by a def that hands back [script, 0, 0, 0]. -/
namespace Tl
open PySem L2 PyProof.Rows
open PySem.W (alike alikeAll AllAlike dataLe dataLt SortsAt EachIs keyToks)
/-- values sorted as their data are -/
def byD (zs : List (V × PyData)) : List (V × PyData) := zs.mergeSort (dataLe false fun p => p.2)
def rSortedD (K : PySem.W.Frag) : List V → Hp → VK → Prop := fun vs H Q => ∃ (a : Addr) (zs : List (V × PyData)), vs = [.ref a] ∧ SqL K H a (zs.map (·.1)) ∧ DpAll K H (zs.map (·.1)) (zs.map (·.2)) ∧ SrtOk (zs.map (·.2)) ∧
  ∀ p : Addr, H p = none → Q (.ref p) (upd H p (.lst ((byD zs).map (·.1))))
theorem each_vals : ∀ {zs : List (V × PyData)} {us : List Value}, Vals (zs.map (·.1)) us → EachIs (fun v (z : V × PyData) => RelV z.1 v) us zs
  | [], _, h => by cases h; exact .nil
  | z :: zs, _, h => by cases h with | cons a b => exact .cons a (each_vals b)
theorem vals_each : ∀ {zs : List (V × PyData)} {us : List Value}, EachIs (fun v (z : V × PyData) => RelV z.1 v) us zs → Vals (zs.map (·.1)) us
  | [], _, h => by cases h; exact .nil
  | z :: zs, _, h => by cases h with | cons a b => exact .cons a (vals_each b)
theorem each_reads {X : Cx} {pins : List (Addr × Obj)} {σ : L2.St} {H : Hp} {s : Shared} (I : Inv X pins σ H s) : ∀ {zs : List (V × PyData)} {us : List Value}, Vals (zs.map (·.1)) us → DpAll X.K H (zs.map (·.1)) (zs.map (·.2)) → EachIs (fun v (z : V × PyData) => ∃ as, Reads s.heap v z.2 as) us zs
  | [], _, h, _ => by cases h; exact .nil
  | z :: zs, _, h, d => by
    cases h with
    | cons a b =>
      cases d with
      | cons d1 d2 => exact .cons (Dp.reads I _ _ _ d1 a) (each_reads I b d2)
theorem alike_all_nd {ds : List PyData} (h : AllAlike ds) : PyData.hasDictAll ds = false := by
  induction ds with
  | nil => rfl
  | cons d r ih =>
    rw [PyData.hasDictAll, alike_nd1 d (h d (List.mem_cons_self ..) d (List.mem_cons_self ..)), ih fun x hx y hy => h x (List.mem_cons_of_mem _ hx) y (List.mem_cons_of_mem _ hy)]
    rfl
theorem byD_len (zs : List (V × PyData)) : (byD zs).length = zs.length := List.length_mergeSort _
theorem cr_sortedD {X : Cx} (hu : X.A.units + 62 < cLine) : CallR X (.builtin "sorted") (rSortedD X.K) := by
  intro pins s σ H vs us Q I r h
  obtain ⟨a, zs, rfl, hs, hd, hk, q⟩ := h
  obtain ⟨its, rv, hl, hz⟩ := I.list hs
  rw [Vals.ref1 r]
  have er := each_reads I rv hd
  have er' : EachIs (fun v (z : V × PyData) => ∃ as, Reads (PySem.W.sortingHeap (PySem.W.copyHeap s.heap its) (s.heap.objs.size + 1) its) v z.2 as) its zs := er.mono fun _ _ ⟨as, r⟩ => ⟨as, PyProof.Rows.Reads.keeps (fun _ _ => PySem.W.sorting_copy_old) r⟩
  have hlen : its.length ≤ sizeLine := by rw [← rv.length]; exact hz
  refine PySem.W.sorted_vals hl.isList (sorts_any (s := { s with heap := PySem.W.sortingHeap (PySem.W.copyHeap s.heap its) (s.heap.objs.size + 1) its }) (PySem.W.each_map (R := fun v d => ∃ as, Reads (PySem.W.sortingHeap (PySem.W.copyHeap s.heap its) (s.heap.objs.size + 1) its) v d as) (fun z : V × PyData => z.2) er') hk (by show X.A.units + 2 + 60 < cLine; omega)) hlen ?_
  have eo := PySem.W.sortVals_data (h' := PySem.W.sortingHeap (PySem.W.copyHeap s.heap its) (s.heap.objs.size + 1) its) (enc := fun z : V × PyData => z.2) false (each_vals rv) er' hk.al
  generalize PySem.W.sortVals _ false its its = out at eo ⊢
  obtain ⟨ep, he'⟩ := PyProof.Rows.sortedAll_at s.heap its out.toArray
  refine ⟨.ref _, upd H (s.heap.objs.size + 1) (.lst ((byD zs).map (·.1))), I.laid (t' := s.toks) (fun _ _ => PyProof.Rows.sortedAll_old) (Nat.le_succ _) ⟨?_, out, ep, vals_each eo, he'⟩, rfl, q _ (I.hok.fresh (Nat.le_succ _))⟩
  rw [List.length_map, byD_len, ← List.length_map (f := (·.1)) (as := zs)]
  exact hz
section
variable {K : PySem.W.Frag} {Wx : WX} {RE : REx}
theorem DxL.zip {F : Hp} : ∀ {vs : List V} {ds : List PyData}, DxL K F vs ds → ∃ zs : List (V × PyData), zs.map (·.1) = vs ∧ zs.map (·.2) = ds ∧ ∀ z ∈ zs, Dx K F z.1 z.2
  | _, _, .nil => ⟨[], rfl, rfl, fun _ h => by cases h⟩
  | _, _, .cons (v := v) (d := d) a b => by
    obtain ⟨zs, h1, h2, h3⟩ := DxL.zip b
    refine ⟨(v, d) :: zs, by rw [List.map_cons, h1], by rw [List.map_cons, h2], fun z hz => ?_⟩
    rcases List.mem_cons.mp hz with e | e
    · rw [e]; exact a
    · exact h3 z e
theorem DxL.unzip {F : Hp} : ∀ {zs : List (V × PyData)}, (∀ z ∈ zs, Dx K F z.1 z.2) → DxL K F (zs.map (·.1)) (zs.map (·.2))
  | [], _ => .nil
  | z :: zs, h => .cons (h z (List.mem_cons_self ..)) (DxL.unzip fun y hy => h y (List.mem_cons_of_mem _ hy))
theorem byD_snd (zs : List (V × PyData)) : (byD zs).map (·.2) = srt (zs.map (·.2)) := List.map_mergeSort fun _ _ _ _ => rfl
/-- sorted(..), as data -/
@[reducible] def fSortedF1 : FL := fun xs M R => g1 xs fun x => gW M x fun ws => gDs ws fun ds => SrtOk ds ∧ R (.d (.list (srt ds))) M
theorem sc_sortedF : SC K (rSortedD K) fSortedF1 := fun F H M vs xs R Q hr rx hf k => by
  obtain ⟨x, rfl, h1⟩ := g1_of hf
  obtain ⟨v, rfl, r⟩ := rx.one
  obtain ⟨a, us, ws, rfl, h2, h3, h4⟩ := gW_of hr r h1
  obtain ⟨ds, rfl, h5, h6⟩ := gDs_of h4
  obtain ⟨zs, rfl, rfl, hz⟩ := h3.undat.zip
  refine ⟨a, zs, rfl, SqL.of h2, DxL.dp _ _ (DxL.mono hr.fh _ _ h3.undat) (alike_all_nd h5.al), h5, fun p hp => ?_⟩
  have h7 : DxL K F ((byD zs).map (·.1)) (srt (zs.map (·.2))) := by
    rw [← byD_snd]
    exact DxL.unzip fun z m => hz z ((List.mergeSort_perm _ _).mem_iff.mp m)
  obtain ⟨r2, g2, rz⟩ := hr.list hp h7
  exact k _ _ _ _ _ r2 g2 rz h6
end
theorem room62 {A : Around} {k : Nat} (hr : Room k A) : A.units + 62 < cLine := Nat.lt_of_le_of_lt (Nat.add_le_add_left (by decide : 62 ≤ 64) _) hr.units
end Tl
set_option Elab.async false
set_option linter.all false
set_option maxRecDepth 100000
set_option maxHeartbeats 4000000
/-! a text against a dict; x in a tuple of texts, x any data. -/
namespace PySem.SeqAt
open PySem PyProof.Rows
open _root_.PySem.AutoSeq1 (wpAny_loadPart')
open MeetsSeq
end PySem.SeqAt
set_option Elab.async false
set_option linter.all false
set_option maxRecDepth 100000
set_option maxHeartbeats 4000000
/-! Deeds on trees that are data; trees of lists that may change. -/
namespace Tl
open PySem L2
/-! ### trees that are data -/
def kidD (d : PyData) (n : Nat) : PyData := (kidsD d).getD n .none
/-- a run of kids for many kids -/
def runD (at_ many : Nat) (run : List PyData) : PyData → PyData
  | .tuple [s, .tuple ks] => .tuple [s, .tuple (ks.take at_ ++ run ++ ks.drop (at_ + many))]
  | d => d
/-- another part at a place -/
def repl : List Nat → PyData → PyData → PyData
  | [], _, e => e
  | n :: q, d, e => runD n 1 [repl q (kidD d n) e] d
def partD (d : PyData) (q : List Nat) : PyData := (sub d q).getD .none
def runAt (d : PyData) (q : List Nat) (at_ many : Nat) (run : List PyData) : PyData := repl q d (runD at_ many run (partD d q))
/-- where a place stands behind a part taken out -/
def bo : List Nat → List Nat → List Nat
  | o, [] => o
  | [], _ => []
  | j :: o, [i] => if i < j then (j - 1) :: o else j :: o
  | j :: o, i :: k :: p => if j = i then j :: bo o (k :: p) else j :: o
/-- deeds -/
inductive Deed where
  | name (q : List Nat) (t : Str)
  | put (q : List Nat) (n : Nat) (e : PyData)
  | out (q : List Nat)
  | move (q o : List Nat) (n : Nat)
  | swap (q o : List Nat)
  | wrap (q : List Nat) (n m : Nat) (t : Str)
  | unwrap (q : List Nat)
def Deed.d : Deed → PyData
  | .name q t => .tuple [.str "name", pathD q, .str t]
  | .put q n e => .tuple [.str "put", pathD q, .int n, e]
  | .out q => .tuple [.str "out", pathD q]
  | .move q o n => .tuple [.str "move", pathD q, pathD o, .int n]
  | .swap q o => .tuple [.str "swap", pathD q, pathD o]
  | .wrap q n m t => .tuple [.str "wrap", pathD q, .int n, .int m, .str t]
  | .unwrap q => .tuple [.str "unwrap", pathD q]
def outD (d : PyData) (q : List Nat) : PyData := runAt d q.dropLast (q.getLastD 0) 1 []
/-- the tree behind a deed -/
def chg (d : PyData) : Deed → PyData
  | .name q t => repl q d (.tuple [.str t, .tuple (kidsD (partD d q))])
  | .put q n e => runAt d q n 0 [e]
  | .out q => outD d q
  | .move q o n => runAt (outD d q) (bo o q) n 0 [partD d q]
  | .swap q o => repl o (repl q d (partD d o)) (partD d q)
  | .wrap q n m t => runAt d q n m [.tuple [.str t, .tuple (((kidsD (partD d q)).drop n).take m)]]
  | .unwrap q => runAt d q.dropLast (q.getLastD 0) 1 (kidsD (partD d q))
theorem runD_node (s : PyData) (ks run : List PyData) (n m : Nat) : runD n m run (.tuple [s, .tuple ks]) = .tuple [s, .tuple (ks.take n ++ run ++ ks.drop (n + m))] := rfl
theorem kidsD_node (s : PyData) (ks : List PyData) : kidsD (.tuple [s, .tuple ks]) = ks := rfl
theorem partD_of {d e : PyData} {q : List Nat} (h : sub d q = some e) : partD d q = e := by rw [partD, h]; rfl
/-! ### trees of lists that may change -/
/-- a: the list of number, tag and kids; b: the list of kids -/
inductive AT where
  | node (a b : Addr) (n : Int) (t : PyData) (ks : List AT)
def AT.root : AT → Addr
  | .node a _ _ _ _ => a
def AT.box : AT → Addr
  | .node _ b _ _ _ => b
def AT.kids : AT → List AT
  | .node _ _ _ _ ks => ks
def AT.num : AT → Int
  | .node _ _ n _ _ => n
def AT.tag : AT → PyData
  | .node _ _ _ t _ => t
mutual
/-- told as data, by a word for each place -/
def AT.tel (fl : Int → PyData → PyData) : AT → PyData
  | .node _ _ n t ks => .tuple [fl n t, .tuple (tels fl ks)]
def tels (fl : Int → PyData → PyData) : List AT → List PyData
  | [] => []
  | k :: ks => k.tel fl :: tels fl ks
end
variable {fl : Int → PyData → PyData}
mutual
def AT.adr : AT → List Addr
  | .node a b _ _ ks => a :: b :: adrs ks
def adrs : List AT → List Addr
  | [] => []
  | k :: ks => k.adr ++ adrs ks
end
def rootsW (ks : List AT) : List W := ks.map fun k => .r k.root
mutual
def AT.ok (M : Mem) : AT → Prop
  | .node a b n t ks => M a = some (.lst [.d (.int n), .d t, .r b]) ∧ M b = some (.lst (rootsW ks)) ∧ oks M ks
def oks (M : Mem) : List AT → Prop
  | [] => True
  | k :: ks => k.ok M ∧ oks M ks
end
theorem tels_map : ∀ ks : List AT, tels fl ks = ks.map (AT.tel fl)
  | [] => by rw [tels]; rfl
  | k :: ks => by rw [tels, tels_map ks]; rfl
theorem still_node (a b : Addr) (n : Int) (t : PyData) (ks : List AT) : (AT.node a b n t ks).tel fl = .tuple [fl n t, .tuple (ks.map (AT.tel fl))] := by rw [AT.tel, tels_map]
theorem adrs_app : ∀ a b : List AT, adrs (a ++ b) = adrs a ++ adrs b
  | [], b => by rw [adrs]; rfl
  | k :: a, b => by rw [List.cons_append, adrs, adrs, adrs_app a b, List.append_assoc]
theorem adrs_mem : ∀ {ks : List AT} {k : AT} {x : Addr}, k ∈ ks → x ∈ k.adr → x ∈ adrs ks
  | k' :: ks, k, x, h, hx => by
    rw [adrs, List.mem_append]
    rcases List.mem_cons.mp h with rfl | h
    · exact .inl hx
    · exact .inr (adrs_mem h hx)
theorem oks_iff {M : Mem} : ∀ {ks : List AT}, oks M ks ↔ ∀ k ∈ ks, k.ok M
  | [] => by rw [oks]; exact ⟨fun _ k h => (by cases h), fun _ => trivial⟩
  | k :: ks => by
    rw [oks, oks_iff (ks := ks)]
    exact ⟨fun h z hz => by
      rcases List.mem_cons.mp hz with rfl | hz
      · exact h.1
      · exact h.2 z hz, fun h => ⟨h k (.head _), fun z hz => h z (.tail _ hz)⟩⟩
mutual
theorem AT.ok.same {M M' : Mem} : ∀ {T : AT}, T.ok M → (∀ x ∈ T.adr, M' x = M x) → T.ok M'
  | .node a b n t ks, h, e => by
    rw [AT.ok] at h ⊢
    rw [AT.adr] at e
    exact ⟨by rw [e a (.head _)]; exact h.1, by rw [e b (.tail _ (.head _))]; exact h.2.1, oks_same h.2.2 fun x hx => e x (.tail _ (.tail _ hx))⟩
theorem oks_same {M M' : Mem} : ∀ {ks : List AT}, oks M ks → (∀ x ∈ adrs ks, M' x = M x) → oks M' ks
  | [], _, _ => by rw [oks]; trivial
  | k :: ks, h, e => by
    rw [oks] at h ⊢
    rw [adrs] at e
    exact ⟨AT.ok.same h.1 fun x hx => e x (List.mem_append.mpr (.inl hx)), oks_same h.2 fun x hx => e x (List.mem_append.mpr (.inr hx))⟩
end
/-- the tree at a place -/
def AT.at_ : List Nat → AT → Option AT
  | [], T => some T
  | i :: q, T => match T.kids[i]? with
    | some k => k.at_ q
    | none => none
def AT.withKids (T : AT) (ks : List AT) : AT := .node T.root T.box T.num T.tag ks
/-- another tree at a place -/
def AT.put : List Nat → AT → AT → AT
  | [], _, s => s
  | i :: q, T, s => match T.kids[i]? with
    | some k => T.withKids (T.kids.take i ++ [k.put q s] ++ T.kids.drop (i + 1))
    | none => T
/-- what a tree is made of, but for what stands at a place -/
def AT.ctx : List Nat → AT → List Addr
  | [], _ => []
  | i :: q, T => T.root :: T.box :: (match T.kids[i]? with
    | some k => adrs (T.kids.take i) ++ k.ctx q ++ adrs (T.kids.drop (i + 1))
    | none => [])
theorem at_nil (T : AT) : T.at_ [] = some T := by rw [AT.at_]
theorem at_cons {i : Nat} {q : List Nat} {T s : AT} : T.at_ (i :: q) = some s ↔ ∃ k, T.kids[i]? = some k ∧ k.at_ q = some s := by
  rw [AT.at_]
  cases c : T.kids[i]? with
  | none => exact ⟨fun h => (by cases h), fun ⟨k, h, _⟩ => (by cases h)⟩
  | some k => exact ⟨fun h => ⟨k, rfl, h⟩, fun ⟨z, h, q⟩ => (by cases h; exact q)⟩
theorem split3 {α : Type} {l : List α} {i : Nat} {x : α} (h : l[i]? = some x) : l = l.take i ++ [x] ++ l.drop (i + 1) := by
  have hi : i < l.length := (List.getElem?_eq_some_iff.mp h).1
  have e : l[i] = x := (List.getElem?_eq_some_iff.mp h).2
  rw [List.append_assoc, ← e, List.singleton_append, ← List.drop_eq_getElem_cons hi, List.take_append_drop]
theorem still_eta (T : AT) : T.tel fl = .tuple [fl T.num T.tag, .tuple (T.kids.map (AT.tel fl))] := by
  cases T
  exact still_node ..
theorem adr_eta (T : AT) : T.adr = T.root :: T.box :: adrs T.kids := by
  cases T
  rw [AT.adr]
  rfl
theorem ok_eta {M : Mem} {T : AT} : T.ok M ↔ M T.root = some (.lst [.d (.int T.num), .d T.tag, .r T.box]) ∧ M T.box = some (.lst (rootsW T.kids)) ∧ oks M T.kids := by
  cases T
  rw [AT.ok]
  rfl
theorem sub_still : ∀ {q : List Nat} {T : AT}, sub (T.tel fl) q = (T.at_ q).map (AT.tel fl)
  | [], T => by rw [sub_nil, at_nil]; rfl
  | i :: q, T => by
    rw [still_eta, sub_node, AT.at_, List.getElem?_map]
    cases c : T.kids[i]? with
    | none => rfl
    | some k => exact sub_still
theorem still_put : ∀ {q : List Nat} {T s u : AT}, T.at_ q = some u → (T.put q s).tel fl = repl q (T.tel fl) (s.tel fl)
  | [], T, s, u, _ => by rw [AT.put, repl]
  | i :: q, T, s, u, h => by
    obtain ⟨k, h1, h2⟩ := at_cons.mp h
    have hk : kidD (T.tel fl) i = k.tel fl := by rw [still_eta, kidD, kidsD_node, List.getD_eq_getElem?_getD, List.getElem?_map, h1]; rfl
    rw [AT.put, h1, repl, hk, ← still_put h2]
    conv => rhs; rw [still_eta T]
    show (T.withKids _).tel fl = _
    rw [runD_node, AT.withKids, still_node, List.map_append, List.map_append, List.map_take, List.map_drop]
    rfl
theorem adr_ctx : ∀ {q : List Nat} {T s : AT}, T.at_ q = some s → T.adr.Perm (T.ctx q ++ s.adr)
  | [], T, s, h => by rw [at_nil] at h; cases h; rw [AT.ctx]; exact .refl _
  | i :: q, T, s, h => by
    obtain ⟨k, h1, h2⟩ := at_cons.mp h
    rw [AT.ctx, h1, adr_eta]
    show (T.root :: T.box :: adrs T.kids).Perm (T.root :: T.box :: (adrs (T.kids.take i) ++ k.ctx q ++ adrs (T.kids.drop (i + 1)) ++ s.adr))
    refine .cons _ (.cons _ ?_)
    conv => lhs; rw [split3 h1, adrs_app, adrs_app, adrs, adrs, List.append_nil]
    rw [List.append_assoc, List.append_assoc, List.append_assoc]
    refine List.Perm.append_left _ ?_
    refine ((adr_ctx h2).append_right _).trans ?_
    rw [List.append_assoc]
    exact List.Perm.append_left _ List.perm_append_comm
theorem put_at : ∀ {q : List Nat} {T s u : AT}, T.at_ q = some u → (T.put q s).at_ q = some s
  | [], T, s, u, _ => by rw [AT.put, at_nil]
  | i :: q, T, s, u, h => by
    obtain ⟨k, h1, h2⟩ := at_cons.mp h
    have hi : i < T.kids.length := (List.getElem?_eq_some_iff.mp h1).1
    rw [AT.put, h1]
    refine at_cons.mpr ⟨k.put q s, ?_, put_at h2⟩
    show (T.kids.take i ++ [k.put q s] ++ T.kids.drop (i + 1))[i]? = _
    rw [List.append_assoc, List.getElem?_append_right (by rw [List.length_take]; omega), List.length_take, Nat.min_eq_left (by omega), Nat.sub_self]
    rfl
theorem put_ctx : ∀ {q : List Nat} {T s u : AT}, T.at_ q = some u → (T.put q s).ctx q = T.ctx q
  | [], T, s, u, _ => by rw [AT.ctx, AT.ctx]
  | i :: q, T, s, u, h => by
    obtain ⟨k, h1, h2⟩ := at_cons.mp h
    have hi : i < T.kids.length := (List.getElem?_eq_some_iff.mp h1).1
    have hl : (T.kids.take i).length = i := by rw [List.length_take]; omega
    have e : (T.kids.take i ++ [k.put q s] ++ T.kids.drop (i + 1))[i]? = some (k.put q s) := by
      rw [List.append_assoc, List.getElem?_append_right (by omega), hl, Nat.sub_self]
      rfl
    have e1 : (T.kids.take i ++ [k.put q s] ++ T.kids.drop (i + 1)).take i = T.kids.take i := by
      rw [List.append_assoc, List.take_append_of_le_length (by omega), List.take_of_length_le (by omega)]
    have e2 : (T.kids.take i ++ [k.put q s] ++ T.kids.drop (i + 1)).drop (i + 1) = T.kids.drop (i + 1) := by
      rw [List.drop_append_of_le_length (by rw [List.length_append, hl]; exact Nat.le_refl _), List.drop_of_length_le (by rw [List.length_append, hl]; exact Nat.le_refl _)]
      rfl
    rw [AT.put, h1]
    show (T.withKids _).ctx (i :: q) = _
    rw [AT.ctx, AT.ctx, h1, show ∀ ks, (T.withKids ks).kids = ks from fun _ => rfl, e, e1, e2]
    show _ :: _ :: (_ ++ (k.put q s).ctx q ++ _) = _
    rw [put_ctx h2]
    rfl
theorem adr_put {q : List Nat} {T s u : AT} (h : T.at_ q = some u) : (T.put q s).adr.Perm (T.ctx q ++ s.adr) := by
  have := adr_ctx (put_at (s := s) h)
  rw [put_ctx h] at this
  exact this
theorem put_root : ∀ {q : List Nat} {T s u : AT}, T.at_ q = some u → s.root = u.root → (T.put q s).root = T.root
  | [], T, s, u, h, e => by rw [at_nil] at h; cases h; rw [AT.put]; exact e
  | i :: q, T, s, u, h, _ => by
    obtain ⟨k, h1, h2⟩ := at_cons.mp h
    rw [AT.put, h1]
    rfl
theorem at_ok {M : Mem} : ∀ {q : List Nat} {T s : AT}, T.ok M → T.at_ q = some s → s.ok M
  | [], T, s, h, e => by rw [at_nil] at e; cases e; exact h
  | i :: q, T, s, h, e => by
    obtain ⟨k, h1, h2⟩ := at_cons.mp e
    exact at_ok (oks_iff.mp (ok_eta.mp h).2.2 k (List.mem_of_getElem? h1)) h2
/-- a part changes in place -/
theorem put_ok {M M' : Mem} : ∀ {q : List Nat} {T s u : AT}, T.ok M → T.at_ q = some u → s.root = u.root → s.ok M' → (∀ x ∈ T.ctx q, M' x = M x) → (T.put q s).ok M'
  | [], T, s, u, _, _, _, hs, _ => by rw [AT.put]; exact hs
  | i :: q, T, s, u, h, e, er, hs, hc => by
    obtain ⟨k, h1, h2⟩ := at_cons.mp e
    obtain ⟨o1, o2, o3⟩ := ok_eta.mp h
    rw [AT.ctx, h1] at hc
    have hc2 : ∀ x, x ∈ adrs (T.kids.take i) ∨ x ∈ k.ctx q ∨ x ∈ adrs (T.kids.drop (i + 1)) → M' x = M x := fun x hx => hc x (.tail _ (.tail _ (by
      show x ∈ adrs (T.kids.take i) ++ k.ctx q ++ adrs (T.kids.drop (i + 1))
      rw [List.mem_append, List.mem_append]
      rcases hx with hx | hx | hx
      · exact .inl (.inl hx)
      · exact .inl (.inr hx)
      · exact .inr hx)))
    rw [AT.put, h1]
    refine ok_eta.mpr ⟨?_, ?_, oks_iff.mpr fun z hz => ?_⟩
    · show M' T.root = some (.lst [.d (.int T.num), .d T.tag, .r T.box])
      rw [hc _ (.head _)]
      exact o1
    · show M' T.box = some (.lst (rootsW (T.kids.take i ++ [k.put q s] ++ T.kids.drop (i + 1))))
      rw [hc _ (.tail _ (.head _)), o2]
      have : rootsW (T.kids.take i ++ [k.put q s] ++ T.kids.drop (i + 1)) = rootsW T.kids := by
        conv => rhs; rw [split3 h1]
        unfold rootsW
        rw [List.map_append, List.map_append, List.map_append, List.map_append, List.map_singleton, List.map_singleton, put_root h2 er]
      rw [this]
    · have hz' : z ∈ T.kids.take i ++ [k.put q s] ++ T.kids.drop (i + 1) := hz
      rw [List.mem_append, List.mem_append, List.mem_singleton] at hz'
      rcases hz' with (hz | rfl) | hz
      · exact (oks_iff.mp o3 z (List.mem_of_mem_take hz)).same fun x hx => hc2 x (.inl (adrs_mem hz hx))
      · exact put_ok (oks_iff.mp o3 k (List.mem_of_getElem? h1)) h2 er hs fun x hx => hc2 x (.inr (.inl hx))
      · exact (oks_iff.mp o3 z (List.mem_of_mem_drop hz)).same fun x hx => hc2 x (.inr (.inr (adrs_mem hz hx)))
/-- told by its tags -/
@[reducible] def tgF : Int → PyData → PyData := fun _ t => t
end Tl
set_option Elab.async false
set_option linter.all false
set_option maxRecDepth 100000
set_option maxHeartbeats 4000000
/-! Trees of lists that may change: changed in place. -/
namespace Tl
open PySem L2
theorem one_box {T u : AT} {q : List Nat} (hc : T.adr.count u.box ≤ 1) (h : T.at_ q = some u) : u.box ∉ T.ctx q ∧ u.root ≠ u.box ∧ u.box ∉ adrs u.kids := by
  have e := (adr_ctx h).count_eq u.box
  rw [List.count_append, adr_eta u, List.count_cons, List.count_cons_self] at e
  refine ⟨fun z => ?_, fun z => ?_, fun z => ?_⟩
  · have := List.count_pos_iff.mpr z
    omega
  · rw [z, beq_self_eq_true, if_pos rfl] at e
    omega
  · have := List.count_pos_iff.mpr z
    omega
theorem one_root {T u : AT} {q : List Nat} (hc : T.adr.count u.root ≤ 1) (h : T.at_ q = some u) : u.root ∉ T.ctx q ∧ u.root ≠ u.box ∧ u.root ∉ adrs u.kids := by
  have e := (adr_ctx h).count_eq u.root
  rw [List.count_append, adr_eta u, List.count_cons_self, List.count_cons] at e
  refine ⟨fun z => ?_, fun z => ?_, fun z => ?_⟩
  · have := List.count_pos_iff.mpr z
    omega
  · have y : (u.box == u.root) = true := by rw [z]; exact beq_self_eq_true _
    rw [if_pos y] at e
    omega
  · have := List.count_pos_iff.mpr z
    omega
theorem nd_one {T : AT} (h : T.adr.Nodup) (a : Addr) : T.adr.count a ≤ 1 := List.nodup_iff_count.mp h a
theorem setKids_ok {M : Mem} {T u : AT} {q : List Nat} {ks : List AT} (h : T.ok M) (e : T.at_ q = some u) (hc : T.adr.count u.box ≤ 1) (hk : oks M ks) (hb : u.box ∉ adrs ks) : (T.put q (u.withKids ks)).ok (mset M u.box (.lst (rootsW ks))) := by
  obtain ⟨h1, h2, h3⟩ := one_box hc e
  have hu := ok_eta.mp (at_ok h e)
  refine put_ok h e rfl (ok_eta.mpr ⟨?_, ?_, ?_⟩) fun x hx => mset_ne fun z => h1 (z ▸ hx)
  · show mset M u.box _ u.root = _
    rw [mset_ne h2]
    exact hu.1
  · exact mset_same
  · exact oks_same hk fun x hx => mset_ne fun z => hb (z ▸ hx)
theorem setTag_ok {M : Mem} {T u : AT} {q : List Nat} {t : PyData} (h : T.ok M) (e : T.at_ q = some u) (hc : T.adr.count u.root ≤ 1) : (T.put q (.node u.root u.box u.num t u.kids)).ok (mset M u.root (.lst [.d (.int u.num), .d t, .r u.box])) := by
  obtain ⟨h1, h2, h3⟩ := one_root hc e
  have hu := ok_eta.mp (at_ok h e)
  refine put_ok h e rfl (ok_eta.mpr ⟨?_, ?_, ?_⟩) fun x hx => mset_ne fun z => h1 (z ▸ hx)
  · exact mset_same
  · show mset M u.root _ u.box = _
    rw [mset_ne h2.symm]
    exact hu.2.1
  · exact oks_same hu.2.2 fun x hx => mset_ne fun z => h3 (z ▸ hx)
/-- alike but for the kids -/
structure Alk (a b : AT) : Prop where
  r : a.root = b.root
  x : a.box = b.box
  n : a.num = b.num
  t : a.tag = b.tag
theorem Alk.refl (a : AT) : Alk a a := ⟨rfl, rfl, rfl, rfl⟩
end Tl
set_option Elab.async false
set_option linter.all false
set_option maxRecDepth 100000
set_option maxHeartbeats 4000000
/-! Trees of lists that may change: parts moved and swapped in place. -/
set_option Elab.async false
set_option linter.all false
set_option maxRecDepth 100000
set_option maxHeartbeats 4000000
/-! Paths as data; what a deed needs; what refuses it. -/
namespace Tl
open PySem L2
theorem eqv_ints : ∀ a b : List Nat, PyData.eqvAll (a.map fun n : Nat => .int (n : Int)) (b.map fun n : Nat => .int (n : Int)) = decide (a = b)
  | [], [] => rfl
  | [], _ :: _ => rfl
  | _ :: _, [] => rfl
  | x :: a, y :: b => by
    rw [List.map_cons, List.map_cons, PyData.eqvAll, eqv_ints a b]
    show (((x : Int) == (y : Int)) && _) = _
    by_cases h : x = y
    · subst h
      by_cases g : a = b
      · subst g; simp
      · rw [decide_eq_false g, Bool.and_false, decide_eq_false fun z => g (List.cons.inj z).2]
    · have : ((x : Int) == (y : Int)) = false := beq_eq_false_iff_ne.mpr fun z => h (Int.ofNat.inj z)
      rw [this, Bool.false_and, decide_eq_false fun z => h (List.cons.inj z).1]
theorem eqv_path (a b : List Nat) : PyData.eqv (pathD a) (pathD b) = decide (a = b) := by
  unfold pathD
  rw [PyData.eqv, eqv_ints]
theorem ints_ok : ∀ a : List Nat, PyData.hasDictAll (a.map fun n : Nat => .int (n : Int)) = false ∧ PyData.canLayAll0 (a.map fun n : Nat => .int (n : Int)) = true ∧ PyData.depthAll (a.map fun n : Nat => .int (n : Int)) = 0
  | [] => ⟨rfl, rfl, rfl⟩
  | x :: a => by
    obtain ⟨h1, h2, h3⟩ := ints_ok a
    rw [List.map_cons, PyData.hasDictAll, PyData.canLayAll0, PyData.depthAll, h1, h2, h3]
    exact ⟨rfl, rfl, rfl⟩
theorem eqOk_path (a : List Nat) : eqOk (pathD a) = true := by
  obtain ⟨h1, h2, h3⟩ := ints_ok a
  unfold eqOk SeqAt.shaped pathD
  rw [PyData.hasDict, PyData.canLay0, PyData.depth, h1, h2, h3]
  decide
/-- t is the beginning of p -/
def pre (t p : List Nat) : Bool := decide (p.take t.length = t)
theorem pre_iff {t p : List Nat} : pre t p = true ↔ t <+: p := by
  rw [pre, decide_eq_true_iff, List.prefix_iff_eq_take]
  exact ⟨fun h => h.symm, fun h => h.symm⟩
theorem pre_no {t p : List Nat} : pre t p = false ↔ ¬ t <+: p := by
  rw [← pre_iff]
  cases pre t p <;> simp
theorem pre_nil (p : List Nat) : pre [] p = true := pre_iff.mpr List.nil_prefix
theorem pre_cons (a b : Nat) (t p : List Nat) : pre (a :: t) (b :: p) = (decide (a = b) && pre t p) := by
  unfold pre
  rw [List.length_cons, List.take_succ_cons]
  by_cases h : a = b
  · subst h
    by_cases g : p.take t.length = t
    · rw [decide_eq_true g, decide_eq_true (by rw [g])]; simp
    · rw [decide_eq_false g, decide_eq_false fun z => g (List.cons.inj z).2, Bool.and_false]
  · rw [decide_eq_false h, Bool.false_and, decide_eq_false fun z => h (List.cons.inj z).1.symm]
/-! ### what a deed is made of -/
def pathOk (q : List Nat) : Prop := q.length < 12 ∧ ∀ i ∈ q, i ≤ 59
def Deed.Ok : Deed → Prop
  | .name q t => pathOk q ∧ isTag (.str t) = true
  | .put q n e => pathOk q ∧ n ≤ 60 ∧ TrT 12 e ∧ nn e ≤ 60
  | .out q => pathOk q
  | .move q o n => pathOk q ∧ pathOk o ∧ n ≤ 60
  | .swap q o => pathOk q ∧ pathOk o
  | .wrap q n m t => pathOk q ∧ n ≤ 60 ∧ m ≤ 60 ∧ isTag (.str t) = true
  | .unwrap q => pathOk q
def Deed.root : Deed → Bool
  | .out q => q.isEmpty
  | .unwrap q => q.isEmpty
  | .move q _ _ => q.isEmpty
  | .swap q o => q.isEmpty || o.isEmpty
  | _ => false
def kidsN (d : PyData) (q : List Nat) : Nat := (kidsD (partD d q)).length
theorem isPath_ok {q : List Nat} (h : pathOk q) : isPath (pathD q) = true := by
  unfold pathD
  rw [isPath, List.length_map, decide_eq_true h.1, Bool.true_and, List.all_eq_true]
  intro x hx
  obtain ⟨i, hi, rfl⟩ := List.mem_map.mp hx
  have := h.2 i hi
  rw [isNum, decide_eq_true (by omega), decide_eq_true (by omega)]
  rfl
end Tl
set_option Elab.async false
set_option linter.all false
set_option maxRecDepth 100000
set_option maxHeartbeats 4000000
/-! Trees behind deeds: their levels, places. -/
namespace Tl
open PySem L2
theorem fit1 {d : PyData} {q : List Nat} (h : (if (sub d q).isNone then some q else none) = none) : ∃ e, sub d q = some e := by
  cases c : sub d q with
  | none => rw [c] at h; cases h
  | some e => exact ⟨e, rfl⟩
theorem fit2 {d : PyData} {q o : List Nat} (h : (if (sub d q).isNone then some q else if (sub d o).isNone then some o else none) = none) : (∃ e, sub d q = some e) ∧ ∃ e, sub d o = some e := by
  cases c : sub d q with
  | none => rw [c] at h; cases h
  | some e =>
    rw [c] at h
    exact ⟨⟨e, rfl⟩, fit1 h⟩
theorem node_at {n : Nat} {d e : PyData} {q : List Nat} (h : TrT n d) (hs : sub d q = some e) : ∃ (s : Str) (ks : List PyData), e = .tuple [.str s, .tuple ks] ∧ q.length < n ∧ 1 + nnAll ks ≤ nn d ∧ (∀ k ∈ ks, TrT (n - q.length - 1) k) ∧ isTag (.str s) = true := by
  obtain ⟨h1, h2, h3⟩ := sub_tr h hs
  obtain ⟨k, hk⟩ : ∃ k, n - q.length = k + 1 := ⟨n - q.length - 1, by omega⟩
  rw [hk] at h1
  obtain ⟨s, ks, rfl, a, b⟩ := h1
  rw [nn] at h3
  exact ⟨s, ks, rfl, h2, h3, fun z hz => by rw [hk]; exact b z hz, a⟩
theorem nnAll_one (x : PyData) : nnAll [x] = nn x := by rw [nnAll, nnAll]; rfl
end Tl
set_option Elab.async false
set_option linter.all false
set_option maxRecDepth 100000
set_option maxHeartbeats 4000000
/-! Trees of lists: their numbers; how they begin. -/
namespace Tl
open PySem L2
mutual
def AT.nums : AT → List Int
  | .node _ _ n _ ks => n :: numss ks
def numss : List AT → List Int
  | [] => []
  | k :: ks => k.nums ++ numss ks
end
/-- some numbers in a row -/
def rowI (k : Int) (n : Nat) : List Int := (List.range n).map fun i => k + (i : Nat)
/-- a tree of lists that is new: begun at M, standing at M' -/
structure NewT (d : PyData) (k : Int) (M : Mem) (T : AT) (M' : Mem) : Prop where
  tel : T.tel tgF = d
  nums : T.nums = rowI k (nn d)
  ok : T.ok M'
  nd : T.adr.Nodup
  new : ∀ x ∈ T.adr, M x = none
/-- some of them -/
structure NewTs (ds : List PyData) (k : Int) (M : Mem) (ts : List AT) (M' : Mem) : Prop where
  tel : ts.map (AT.tel tgF) = ds
  nums : numss ts = rowI k (nnAll ds)
  ok : oks M' ts
  nd : (adrs ts).Nodup
  new : ∀ x ∈ adrs ts, M x = none
theorem NewTs.nil (k : Int) (M M' : Mem) : NewTs [] k M [] M' := ⟨rfl, by rw [numss]; rfl, by rw [oks]; trivial, by rw [adrs]; exact List.nodup_nil, fun x h => by rw [adrs] at h; cases h⟩
/-- what stands in a tree of lists is something -/
theorem ok_some {M : Mem} {T : AT} (h : T.ok M) {x : Addr} (hx : x ∈ T.adr) : ∃ v, M x = some v := by
  have key : ∀ (t : AT), t.ok M → ∀ x ∈ t.adr, ∃ v, M x = some v := AT.rec (motive_1 := fun t => t.ok M → ∀ x ∈ t.adr, ∃ v, M x = some v) (motive_2 := fun ts => oks M ts → ∀ x ∈ adrs ts, ∃ v, M x = some v)
    (fun a b n t ks ih o x hx => by
      rw [AT.ok] at o
      rw [AT.adr] at hx
      rcases List.mem_cons.mp hx with rfl | hx
      · exact ⟨_, o.1⟩
      rcases List.mem_cons.mp hx with rfl | hx
      · exact ⟨_, o.2.1⟩
      · exact ih o.2.2 x hx)
    (fun o x hx => by rw [adrs] at hx; cases hx)
    (fun k ks ih1 ih2 o x hx => by
      rw [oks] at o
      rw [adrs, List.mem_append] at hx
      exact hx.elim (ih1 o.1 x) (ih2 o.2 x))
  exact key T h x hx
end Tl
set_option Elab.async false
set_option linter.all false
set_option maxRecDepth 100000
set_option maxHeartbeats 4000000
/-! A deed done on a tree of lists: what holds behind it. -/
namespace Tl
open PySem L2
structure LvR (T : AT) (x : Deed) (c : Addr) (M : Mem) (T' : AT) (M' : Mem) : Prop where
  ok : T'.ok M'
  nd : T'.adr.Nodup
  root : T'.root = T.root
  tel : T'.tel tgF = chg (T.tel tgF) x
  old : ∀ z, M z ≠ none → z ∉ T.adr → z ≠ c → M' z = M z
  new : ∀ z ∈ T'.adr, z ∈ T.adr ∨ M z = none
theorem box_in {T u : AT} {q : List Nat} (h : T.at_ q = some u) : u.root ∈ T.adr ∧ u.box ∈ T.adr := by
  rw [(adr_ctx h).mem_iff, (adr_ctx h).mem_iff, List.mem_append, List.mem_append, adr_eta u]
  exact ⟨.inr (List.mem_cons_self ..), .inr (List.mem_cons_of_mem _ (List.mem_cons_self ..))⟩
theorem kids_in {T u : AT} {q : List Nat} (h : T.at_ q = some u) {z : Addr} (hz : z ∈ adrs u.kids) : z ∈ T.adr := by
  rw [(adr_ctx h).mem_iff, List.mem_append, adr_eta u]
  exact .inr (List.mem_cons_of_mem _ (List.mem_cons_of_mem _ hz))
theorem kids_nd {M : Mem} {T u : AT} {q : List Nat} {ks : List AT} (h : T.ok M) (hn : T.adr.Nodup) (hq : T.at_ q = some u) (n1 : (adrs ks).Nodup) (n2 : ∀ z ∈ adrs ks, z ∈ adrs u.kids ∨ M z = none) :
    (T.put q (u.withKids ks)).adr.Nodup ∧ (∀ z ∈ (T.put q (u.withKids ks)).adr, z ∈ T.adr ∨ M z = none) ∧ u.box ∉ adrs ks := by
  have e := (adr_ctx hq).nodup_iff.mp hn
  rw [adr_eta u] at e
  obtain ⟨d1, d2, d3⟩ := List.nodup_append.mp e
  obtain ⟨d4, d5⟩ := List.nodup_cons.mp d2
  obtain ⟨d6, d7⟩ := List.nodup_cons.mp d5
  have fresh : ∀ z, z ∈ T.adr → M z ≠ none := fun z hz c => by
    obtain ⟨v, hv⟩ := ok_some h hz
    rw [c] at hv
    cases hv
  have r1 : u.root ∉ adrs ks := fun z => (n2 _ z).elim (fun z => d4 (List.mem_cons_of_mem _ z)) (fresh _ (box_in hq).1)
  have b1 : u.box ∉ adrs ks := fun z => (n2 _ z).elim d6 (fresh _ (box_in hq).2)
  have p := adr_put (s := u.withKids ks) hq
  have ea : (u.withKids ks).adr = u.root :: u.box :: adrs ks := adr_eta _
  rw [ea] at p
  refine ⟨p.nodup_iff.mpr (List.nodup_append.mpr ⟨d1, List.nodup_cons.mpr ⟨fun z => ?_, List.nodup_cons.mpr ⟨b1, n1⟩⟩, fun x hx y hy e => ?_⟩), fun z hz => ?_, b1⟩
  · rcases List.mem_cons.mp z with z | z
    · exact d4 (by rw [z]; exact List.mem_cons_self ..)
    · exact r1 z
  · subst e
    rcases List.mem_cons.mp hy with z | hy
    · exact d3 x hx x (by rw [z]; exact List.mem_cons_self ..) rfl
    rcases List.mem_cons.mp hy with z | hy
    · exact d3 x hx x (by rw [z]; exact List.mem_cons_of_mem _ (List.mem_cons_self ..)) rfl
    rcases n2 x hy with z | z
    · exact d3 x hx x (List.mem_cons_of_mem _ (List.mem_cons_of_mem _ z)) rfl
    · exact fresh x (by rw [(adr_ctx hq).mem_iff, List.mem_append]; exact .inl hx) z
  · rw [p.mem_iff, List.mem_append] at hz
    rcases hz with hz | hz
    · exact .inl (by rw [(adr_ctx hq).mem_iff, List.mem_append]; exact .inl hz)
    rcases List.mem_cons.mp hz with z1 | hz
    · exact .inl (by rw [z1]; exact (box_in hq).1)
    rcases List.mem_cons.mp hz with z1 | hz
    · exact .inl (by rw [z1]; exact (box_in hq).2)
    exact (n2 z hz).imp (kids_in hq) id
theorem LvR.of {M M1 : Mem} {T u : AT} {q : List Nat} {ks : List AT} {c : Addr} {x : Deed} (h : T.ok M) (h1 : T.ok M1) (hn : T.adr.Nodup) (hq : T.at_ q = some u) (hk : oks M1 ks) (n1 : (adrs ks).Nodup) (n2 : ∀ z ∈ adrs ks, z ∈ adrs u.kids ∨ M z = none)
    (hold : ∀ z, M z ≠ none → z ∉ T.adr → z ≠ c → M1 z = M z) (tel : repl q (T.tel tgF) (.tuple [u.tag, .tuple (ks.map (AT.tel tgF))]) = chg (T.tel tgF) x) : LvR T x c M (T.put q (u.withKids ks)) (mset M1 u.box (.lst (rootsW ks))) := by
  obtain ⟨a1, a2, a3⟩ := kids_nd h hn hq n1 n2
  refine ⟨setKids_ok h1 hq (nd_one hn _) hk a3, a1, put_root hq rfl, ?_, fun z z1 z2 z3 => ?_, a2⟩
  · rw [still_put hq, ← tel]
    congr 1
    rw [AT.withKids, still_node]
  · rw [mset_ne (fun e => z2 (by rw [e]; exact (box_in hq).2))]
    exact hold z z1 z2 z3
theorem LvR.name {M : Mem} {T u : AT} {q : List Nat} {c : Addr} {t : Str} (h : T.ok M) (hn : T.adr.Nodup) (hq : T.at_ q = some u) : LvR T (.name q t) c M (T.put q (.node u.root u.box u.num (.str t) u.kids)) (mset M u.root (.lst [.d (.int u.num), .d (.str t), .r u.box])) := by
  have p := adr_put (s := .node u.root u.box u.num (.str t) u.kids) hq
  have ea : (AT.node u.root u.box u.num (.str t) u.kids).adr = u.adr := by rw [adr_eta u]; exact adr_eta _
  rw [ea] at p
  have p2 := p.trans (adr_ctx hq).symm
  refine ⟨setTag_ok h hq (nd_one hn _), p2.nodup_iff.mpr hn, put_root hq rfl, ?_, fun z z1 z2 z3 => ?_, fun z hz => .inl (p2.mem_iff.mp hz)⟩
  · rw [still_put hq, chg, partD_of (e := u.tel tgF) (by rw [sub_still, hq]; rfl), still_node, still_eta u, kidsD_node]
  · exact mset_ne fun e => z2 (by rw [e]; exact (box_in hq).1)
theorem LvR.perm {M M' : Mem} {T T' : AT} {c : Addr} {x : Deed} (h1 : T'.ok M') (h2 : T'.adr.Perm T.adr) (hn : T.adr.Nodup) (h3 : T'.root = T.root) (h4 : ∀ fl, T'.tel fl = chg (T.tel fl) x) (h5 : ∀ z, z ∉ T.adr → M' z = M z) : LvR T x c M T' M' :=
  ⟨h1, h2.nodup_iff.mpr hn, h3, h4 _, fun z _ z2 _ => h5 z z2, fun z hz => .inl (h2.mem_iff.mp hz)⟩
end Tl
set_option Elab.async false
set_option linter.all false
set_option maxRecDepth 100000
set_option maxHeartbeats 4000000
/-! Trees and deeds are good to be shown; deeds that a law draws. -/
namespace Tl
open PySem L2
theorem adr_nums (T : AT) : T.adr.length = 2 * T.nums.length :=
  AT.rec (motive_1 := fun t => t.adr.length = 2 * t.nums.length) (motive_2 := fun ts => (adrs ts).length = 2 * (numss ts).length)
    (fun a b n t ks ih => by
      rw [AT.adr, AT.nums, List.length_cons, List.length_cons, List.length_cons, ih]
      omega)
    (by rw [adrs, numss]; rfl)
    (fun k ks ih1 ih2 => by
      rw [adrs, numss, List.length_append, List.length_append, ih1, ih2]
      omega) T
theorem NewT.len {d : PyData} {k : Int} {M M' : Mem} {T : AT} (h : NewT d k M T M') : T.adr.length = 2 * nn d := by
  rw [adr_nums, h.nums]
  unfold rowI
  rw [List.length_map, List.length_range]
theorem pathD_inj {a b : List Nat} (h : pathD a = pathD b) : a = b := by
  have := eqv_path a b
  rw [h, eqv_path] at this
  have e : decide (a = b) = true := by rw [← this]; exact decide_eq_true rfl
  exact of_decide_eq_true e
theorem int_inj {a b : Nat} (h : PyData.int (a : Int) = .int (b : Int)) : a = b := Int.ofNat.inj (PyData.int.inj h)
theorem Deed.inj : ∀ {x y : Deed}, x.d = y.d → x = y := fun {x y} h => by
  cases x <;> cases y <;> simp only [Deed.d, PyData.tuple.injEq, List.cons.injEq, PyData.str.injEq, and_true, true_and] at h <;> first
    | (exact absurd h.1 (by decide))
    | (exact absurd h (by decide))
    | (obtain ⟨h1, h2⟩ := h; rw [pathD_inj h1, h2])
    | (obtain ⟨h1, h2, h3⟩ := h; rw [pathD_inj h1, int_inj h2, h3])
    | (obtain ⟨h1, h2, h3⟩ := h; rw [pathD_inj h1, pathD_inj h2, int_inj h3])
    | (obtain ⟨h1, h2, h3, h4⟩ := h; rw [pathD_inj h1, int_inj h2, int_inj h3, h4])
    | (obtain ⟨h1, h2⟩ := h; rw [pathD_inj h1, pathD_inj h2])
    | (rw [pathD_inj h])
end Tl
set_option Elab.async false
set_option linter.all false
set_option maxRecDepth 100000
set_option maxHeartbeats 4000000
/-! Numbers of places, led through deeds: where a place stands behind. -/
namespace Tl
open PySem L2
/-! ### where a place stands behind a deed -/
def bPut (q : List Nat) (n : Nat) (p : List Nat) : List Nat :=
  if pre q p = true then (match p.drop q.length with
    | j :: r => if n ≤ j then q ++ (j + 1) :: r else p
    | [] => p) else p
theorem pre_app (q r : List Nat) : pre q (q ++ r) = true := pre_iff.mpr ⟨r, rfl⟩
theorem pre_split {q p : List Nat} (h : pre q p = true) : ∃ r, p = q ++ r := by
  obtain ⟨r, h⟩ := pre_iff.mp h
  exact ⟨r, h.symm⟩
theorem drop_app (q r : List Nat) : (q ++ r).drop q.length = r := List.drop_left
theorem bPut_under (q : List Nat) (n j : Nat) (r : List Nat) : bPut q n (q ++ j :: r) = q ++ (if n ≤ j then j + 1 else j) :: r := by
  rw [bPut, if_pos (pre_app _ _), drop_app]
  show (if n ≤ j then q ++ (j + 1) :: r else q ++ j :: r) = _
  by_cases c : n ≤ j
  · rw [if_pos c, if_pos c]
  · rw [if_neg c, if_neg c]
theorem bPut_at (q : List Nat) (n : Nat) : bPut q n q = q := by
  unfold bPut
  rw [List.drop_length]
  split <;> rfl
theorem bPut_far {q p : List Nat} {n : Nat} (h : pre q p = false) : bPut q n p = p := by
  rw [bPut, if_neg (by rw [h]; decide)]
/-- a path is none within q, q itself, or beneath it -/
theorem path3 (q p : List Nat) : pre q p = false ∨ p = q ∨ ∃ j r, p = q ++ j :: r := by
  cases c : pre q p with
  | false => exact .inl rfl
  | true =>
    obtain ⟨r, rfl⟩ := pre_split c
    cases r with
    | nil => exact .inr (.inl (List.append_nil q))
    | cons j r => exact .inr (.inr ⟨j, r, rfl⟩)
/-! ### the numbers of a tree of lists, but for a part -/
/-! ### places led -/
theorem pre_snoc (r p : List Nat) (i j : Nat) : pre (r ++ [i]) (r ++ j :: p) = decide (i = j) := by
  induction r with
  | nil =>
    show pre (i :: []) (j :: p) = _
    rw [pre_cons, pre_nil, Bool.and_true]
  | cons a r ih => rw [List.cons_append, List.cons_append, pre_cons, ih, decide_eq_true rfl, Bool.true_and]
/-! ### a part moved, two exchanged -/
/-! ### trees alike by their numbers -/
end Tl
set_option Elab.async false
set_option linter.all false
set_option maxRecDepth 100000
set_option maxHeartbeats 4000000
/-! A deed done on a tree of lists: its numbers, led. -/
set_option Elab.async false
set_option linter.all false
set_option maxRecDepth 100000
set_option maxHeartbeats 4000000
/-! The way back of a deed: it fits, leads back, each place too; its own way back is the deed. -/
namespace Tl
open PySem L2
/-! ### parts replaced, as data -/
theorem sub_consE {d e : PyData} {i : Nat} {q : List Nat} (h : sub d (i :: q) = some e) : ∃ (s : PyData) (ks : List PyData) (k : PyData), d = .tuple [s, .tuple ks] ∧ ks[i]? = some k ∧ sub k q = some e := by
  rw [sub.eq_def] at h
  split at h
  · rename_i h0; cases h0
  · rename_i s ks n q h0
    cases h0
    split at h
    · rename_i k hk
      exact ⟨_, _, k, rfl, hk, h⟩
    · cases h
  · cases h
/-! ### runs of kids, and back -/
theorem kidsN_of {d s : PyData} {ks : List PyData} {q : List Nat} (h : sub d q = some (.tuple [s, .tuple ks])) : kidsN d q = ks.length := by
  rw [kidsN, partD_of h, kidsD_node]
/-! ### paths, there and back -/
theorem no_under (q : List Nat) (n : Nat) (p : List Nat) : pre (q ++ [n]) (bPut q n p) = false := by
  rcases path3 q p with c | rfl | ⟨j, r, rfl⟩
  · rw [bPut_far c]
    cases h : pre (q ++ [n]) p with
    | false => rfl
    | true =>
      obtain ⟨t, rfl⟩ := pre_split h
      rw [List.append_assoc, pre_app] at c
      cases c
  · rw [bPut_at]
    cases h : pre (p ++ [n]) p with
    | false => rfl
    | true =>
      obtain ⟨t, h⟩ := pre_split h
      have := congrArg List.length h
      rw [List.length_append, List.length_append] at this
      simp at this
      omega
  · rw [bPut_under, pre_snoc]
    by_cases c : n ≤ j
    · rw [if_pos c]; exact decide_eq_false (by omega)
    · rw [if_neg c]; exact decide_eq_false (by omega)
/-! ### the deed back -/
theorem pre_up (r : List Nat) (i : Nat) : pre (r ++ [i]) r = false := by
  have := no_under r i r
  rwa [bPut_at] at this
end Tl
set_option Elab.async false
set_option linter.all false
set_option maxRecDepth 100000
set_option maxHeartbeats 4000000
/-! Places in their order; the ways from a place. -/
namespace Tl
open PySem L2
open PySem.W (alike alikeAll AllAlike dataLe dataLt keyToks keyToksAll rowLt dataLt_tuple dataLt_cons dataLt_int toks_all_cons)
open PyProof.Rows
def ltN : List Nat → List Nat → Bool
  | [], [] => false
  | [], _ :: _ => true
  | _ :: _, [] => false
  | x :: a, y :: b => if x = y then ltN a b else decide (x < y)
theorem ltN_irr : ∀ a, ltN a a = false
  | [] => rfl
  | x :: a => by rw [ltN, if_pos rfl, ltN_irr a]
theorem ltN_asy : ∀ {a b : List Nat}, ltN a b = true → ltN b a = false
  | [], [], h => by cases h
  | [], _ :: _, _ => rfl
  | _ :: _, [], h => by cases h
  | x :: a, y :: b, h => by
    rw [ltN] at h ⊢
    by_cases e : x = y
    · rw [if_pos e] at h
      rw [if_pos e.symm]
      exact ltN_asy h
    · rw [if_neg e] at h
      rw [if_neg fun z => e z.symm]
      simp at h ⊢
      omega
theorem ltN_tr : ∀ {a b c : List Nat}, ltN a b = true → ltN b c = true → ltN a c = true
  | [], [], _, h, _ => by cases h
  | [], _ :: _, [], _, h => by cases h
  | [], _ :: _, _ :: _, _, _ => rfl
  | _ :: _, [], _, h, _ => by cases h
  | _ :: _, _ :: _, [], _, h => by cases h
  | x :: a, y :: b, z :: c, h, g => by
    rw [ltN] at h g ⊢
    by_cases e : x = y
    · subst e
      rw [if_pos rfl] at h
      by_cases e2 : x = z
      · subst e2
        rw [if_pos rfl] at g ⊢
        exact ltN_tr h g
      · rw [if_neg e2] at g ⊢
        exact g
    · rw [if_neg e] at h
      by_cases e2 : y = z
      · subst e2
        rw [if_neg e]
        exact h
      · rw [if_neg e2] at g
        simp at h g
        rw [if_neg (by omega)]
        simp
        omega
theorem ltN_app : ∀ (q : List Nat) {a b : List Nat}, ltN (q ++ a) (q ++ b) = ltN a b
  | [], _, _ => rfl
  | x :: q, a, b => by rw [List.cons_append, List.cons_append, ltN, if_pos rfl, ltN_app q]
theorem ltN_ext (q : List Nat) {r : List Nat} (h : r ≠ []) : ltN q (q ++ r) = true := by
  have := ltN_app q (a := []) (b := r)
  rw [List.append_nil] at this
  rw [this]
  cases r with
  | nil => exact absurd rfl h
  | cons => rfl
/-- rising, each once -/
abbrev Up (l : List (List Nat)) : Prop := l.Pairwise fun a b => ltN a b = true
theorem up_ext : ∀ {a b : List (List Nat)}, Up a → Up b → (∀ x, x ∈ a ↔ x ∈ b) → a = b
  | [], [], _, _, _ => rfl
  | [], y :: b, _, _, h => absurd ((h y).mpr (.head _)) List.not_mem_nil
  | x :: a, [], _, _, h => absurd ((h x).mp (.head _)) List.not_mem_nil
  | x :: a, y :: b, ha, hb, h => by
    unfold Up at ha hb
    rw [List.pairwise_cons] at ha hb
    have e : x = y := by
      rcases List.mem_cons.mp ((h x).mp (.head _)) with e | e
      · exact e
      · rcases List.mem_cons.mp ((h y).mpr (.head _)) with e2 | e2
        · exact e2.symm
        · have h1 := hb.1 x e
          have h2 := ltN_asy (ha.1 y e2)
          rw [h1] at h2
          cases h2
    subst e
    rw [up_ext ha.2 hb.2 fun z => ⟨fun hz => ?_, fun hz => ?_⟩]
    · rcases List.mem_cons.mp ((h z).mp (.tail _ hz)) with e | e
      · have := ha.1 z hz
        rw [e, ltN_irr] at this
        cases this
      · exact e
    · rcases List.mem_cons.mp ((h z).mpr (.tail _ hz)) with e | e
      · have := hb.1 z hz
        rw [e, ltN_irr] at this
        cases this
      · exact e
theorem Up.pre (q : List Nat) {l : List (List Nat)} (h : Up l) : Up (l.map (q ++ ·)) := List.Pairwise.map _ (fun a b k => by rw [ltN_app]; exact k) h
mutual
theorem plc_up : ∀ {n : Nat} {d : PyData}, TrT n d → Up (plc d)
  | 0, _, h => h.elim
  | n + 1, d, h => by
    obtain ⟨s, ks, rfl, _, hk⟩ := h
    rw [plc_node]
    refine List.pairwise_cons.mpr ⟨fun q hq => ?_, plcAll_up 0 hk⟩
    obtain ⟨i, r, k, rfl, _⟩ := plcAll_sub 0 hk q hq
    rfl
theorem plcAll_up : ∀ {n : Nat} {ks : List PyData} (j : Nat), (∀ k ∈ ks, TrT n k) → Up (plcAll j ks)
  | _, [], _, _ => by rw [plcAll]; exact .nil
  | n, k :: ks, j, h => by
    rw [plcAll]
    refine List.pairwise_append.mpr ⟨(plc_up (h k (.head _))).pre [j], plcAll_up (j + 1) fun x hx => h x (.tail _ hx), fun a ha b hb => ?_⟩
    obtain ⟨r, _, rfl⟩ := List.mem_map.mp ha
    obtain ⟨i, r2, k2, rfl, hi, _⟩ := plcAll_sub (j + 1) (fun x hx => h x (.tail _ hx)) b hb
    rw [ltN, if_neg (by omega)]
    simp
    omega
end
theorem mem_plcAll : ∀ {ks : List PyData} {i : Nat} {k : PyData} {r : List Nat} (j : Nat), ks[i]? = some k → r ∈ plc k → (j + i) :: r ∈ plcAll j ks
  | [], i, k, r, j, h, _ => by simp at h
  | a :: ks, 0, k, r, j, h, hr => by
    have e : a = k := Option.some.inj h
    subst e
    rw [plcAll]
    exact List.mem_append.mpr (.inl (List.mem_map.mpr ⟨r, hr, rfl⟩))
  | a :: ks, i + 1, k, r, j, h, hr => by
    rw [plcAll]
    refine List.mem_append.mpr (.inr ?_)
    have := mem_plcAll (ks := ks) (i := i) (j + 1) h hr
    rw [show j + (i + 1) = j + 1 + i by omega]
    exact this
theorem sub_plc : ∀ {q : List Nat} {n : Nat} {d e : PyData}, TrT n d → sub d q = some e → q ∈ plc d
  | _, 0, _, _, h, _ => h.elim
  | [], n + 1, d, e, h, _ => by
    obtain ⟨s, ks, rfl, _, hk⟩ := h
    rw [plc_node]
    exact .head _
  | i :: q, n + 1, d, e, h, hs => by
    obtain ⟨s, ks, rfl, _, hk⟩ := h
    rw [sub_node] at hs
    rw [plc_node]
    refine .tail _ ?_
    cases c : ks[i]? with
    | none => rw [c] at hs; cases hs
    | some k =>
      rw [c] at hs
      have := mem_plcAll 0 c (sub_plc (hk k (List.mem_of_getElem? c)) hs)
      rw [Nat.zero_add] at this
      exact this
/-! the order of paths as data -/
theorem rowLt_N : ∀ a b : List Nat, rowLt (a.map fun n : Nat => PyData.int (n : Int)) (b.map fun n : Nat => PyData.int (n : Int)) = ltN a b
  | [], [] => lex_irrefl _
  | [], y :: b => by
    show rowLt [] (PyData.int (y : Int) :: _) = _
    unfold rowLt
    rw [toks_all_cons]
    simp only [keyToksAll]
    rw [lex_diff (O := itemOrd) (by simp)]
    rfl
  | x :: a, [] => by
    show rowLt (PyData.int (x : Int) :: _) [] = _
    unfold rowLt
    rw [toks_all_cons]
    simp only [keyToksAll]
    rw [lex_diff (O := itemOrd) (by simp)]
    rfl
  | x :: a, y :: b => by
    have e : rowLt (PyData.int (x : Int) :: a.map fun n : Nat => PyData.int (n : Int)) (PyData.int (y : Int) :: b.map fun n : Nat => PyData.int (n : Int)) = if (x : Int) = y then rowLt (a.map fun n : Nat => PyData.int (n : Int)) (b.map fun n : Nat => PyData.int (n : Int)) else decide ((x : Int) < y) := by
      unfold rowLt
      rw [dataLt_cons (by simp [alike]), dataLt_int]
      simp only [PyData.eqv, beq_iff_eq]
    rw [List.map_cons, List.map_cons, e, ltN, rowLt_N a b]
    by_cases h : x = y
    · rw [if_pos h, if_pos (by omega)]
    · rw [if_neg h, if_neg (by omega)]
      simp
theorem dataLt_path (a b : List Nat) : dataLt (pathD a) (pathD b) = ltN a b := by
  unfold pathD
  rw [dataLt_tuple, ← rowLt_N]
  rfl
theorem path_depth (q : List Nat) : (pathD q).depth ≤ 2 := by
  have h : ∀ q : List Nat, PyData.depthAll (q.map fun n : Nat => PyData.int (n : Int)) ≤ 1 := by
    intro q
    induction q with
    | nil => exact Nat.zero_le _
    | cons x r ih =>
      rw [List.map_cons, PyData.depthAll]
      have e : (PyData.int (x : Int)).depth = 0 := rfl
      omega
  have := h q
  unfold pathD
  rw [PyData.depth]
  omega
theorem alike_paths : ∀ a b : List Nat, alikeAll (a.map fun n : Nat => PyData.int (n : Int)) (b.map fun n : Nat => PyData.int (n : Int)) = true
  | [], _ => by rw [List.map_nil, alikeAll]
  | _ :: _, [] => by rw [List.map_cons, List.map_nil, alikeAll]
  | x :: a, y :: b => by rw [List.map_cons, List.map_cons, alikeAll, alike_paths a b]; rfl
/-! the ways -/
theorem sub_cut {n : Nat} {d e : PyData} {a b : List Nat} (h : TrT n d) (hs : sub d (a ++ b) = some e) : ∃ u, sub d a = some u := by
  rw [sub_app b h] at hs
  cases c : sub d a with
  | none => rw [c] at hs; cases hs
  | some u => exact ⟨u, rfl⟩
theorem sub_kid {n : Nat} {d e : PyData} {q : List Nat} (h : TrT n d) (hs : sub d q = some e) (j : Nat) : (∃ u, sub d (q ++ [j]) = some u) ↔ j < kidsN d q := by
  obtain ⟨s, ks, rfl, _⟩ := node_at h hs
  rw [kidsN_of hs, sub_app [j] h, hs]
  show (∃ u, sub (.tuple [.str s, .tuple ks]) [j] = some u) ↔ _
  rw [sub_node]
  constructor
  · rintro ⟨u, hu⟩
    cases c : ks[j]? with
    | none => rw [c] at hu; cases hu
    | some k => exact (List.getElem?_eq_some_iff.mp c).1
  · intro hj
    rw [List.getElem?_eq_getElem hj]
    exact ⟨_, sub_nil _⟩
end Tl
set_option Elab.async false
set_option linter.all false
set_option maxRecDepth 100000
set_option maxHeartbeats 4000000
/-! < and >= of data that are alike; x in a tuple of data; sorted(..) of a tuple. -/
namespace Tl
open PySem L2 PyProof.Rows
open PySem.W (alike alikeAll AllAlike dataLe dataLt SortsAt EachIs keyToks)
/-- data that may be compared by < -/
structure CmpOk (d e : PyData) : Prop where
  al : alike d e = true
  nn : d ≠ .none
  nd : d.hasDict = false ∧ e.hasDict = false
  dp : d.depth ≤ 60
def rCmp (K : PySem.W.Frag) (g : PyData → PyData → Bool) : R2 := fun x y H Q => ∃ d e, Dp K H x d ∧ Dp K H y e ∧ CmpOk d e ∧ Q (.bl (g d e)) H
section
variable {X : Cx}
theorem room60 {A : Around} {d e : PyData} (h : d.depth ≤ 60) (hu : A.units + 65 < cLine) : A.units + min d.depth e.depth < cLine :=
  Nat.lt_of_le_of_lt (Nat.add_le_add_left (Nat.le_trans (Nat.min_le_left _ _) (Nat.le_trans h (by decide : 60 ≤ 65))) _) hu
theorem op_geD (hu : X.A.units + 65 < cLine) : OpR X (compareOp .GtE) (rCmp X.K fun d e => !dataLt d e) := by
  intro pins s σ H x y v u Q I rx ry ⟨d, e, hd, he, c, q⟩
  obtain ⟨as, r1⟩ := Dp.reads I d x v hd rx
  obtain ⟨bs, r2⟩ := Dp.reads I e y u he ry
  exact PySem.W.ge_data r1 r2 c.al c.nn (room60 c.dp hu) ⟨.bl _, H, I, rfl, q⟩
def rInTD (K : PySem.W.Frag) (neg : Bool) : R2 := fun x y H Q => ∃ d ds, Dp K H x d ∧ Dp K H y (.tuple ds) ∧ (SeqAt.shaped d = true ∧ SeqAt.shaped (.tuple ds) = true) ∧ Q (.bl (ng neg (ds.any fun z => PyData.eqv z d))) H
theorem op_inTD (hu : X.A.units + 65 < cLine) : OpR X (compareOp .In) (rInTD X.K false) := by
  intro pins s σ H x y v u Q I rx ry ⟨d, ds, hd, he, ⟨sd, se⟩, q⟩
  obtain ⟨as, r1⟩ := Dp.reads I d x v hd rx
  obtain ⟨bs, r2⟩ := Dp.reads I (.tuple ds) y u he ry
  exact SeqAt.in_tuple_reads r2 r1 (SeqAt.canLay_of_shaped se) (SeqAt.canLay_of_shaped sd) (PyProof.Rows.room_in_shaped sd hu) ⟨.bl _, H, I, rfl, q⟩
end
section
variable {K : PySem.W.Frag}
@[reducible] def fCmp (g : PyData → PyData → Bool) : F2 := fun x y M R => gD x fun d => gD y fun e => CmpOk d e ∧ R (.d (.bool (g d e))) M
theorem so_cmp {g : PyData → PyData → Bool} : SO K (rCmp K g) (fCmp g) := fun F H M v u x y R Q hr rx ry hf k => by
  obtain ⟨d, rfl, h1⟩ := gD_of hf
  obtain ⟨e, rfl, c, h2⟩ := gD_of h1
  exact ⟨d, e, Dx.dp _ _ (Dx.mono hr.fh _ _ rx.dx) c.nd.1, Dx.dp _ _ (Dx.mono hr.fh _ _ ry.dx) c.nd.2, c, k _ H F M _ hr .refl (.d (.bl _)) h2⟩
@[reducible] def fInTD (neg : Bool) : F2 := fun x y M R => gD x fun d => gT y fun ds => (eqOk d = true ∧ eqOk (.tuple ds) = true) ∧ R (.d (.bool (ng neg (ds.any fun z => PyData.eqv z d)))) M
theorem so_inTD {neg : Bool} : SO K (rInTD K neg) (fInTD neg) := fun F H M v u x y R Q hr rx ry hf k => by
  obtain ⟨d, rfl, h1⟩ := gD_of hf
  obtain ⟨ds, rfl, ⟨c1, c2⟩, h2⟩ := gT_of h1
  exact ⟨d, ds, Dx.dp _ _ (Dx.mono hr.fh _ _ rx.dx) (eqOk_of c1).1, Dx.dp _ _ (Dx.mono hr.fh _ _ ry.dx) (eqOk_of c2).1, ⟨(eqOk_of c1).2, (eqOk_of c2).2⟩, k _ H F M _ hr .refl (.d (.bl _)) h2⟩
end
end Tl
set_option Elab.async false
set_option linter.all false
set_option maxRecDepth 100000
set_option maxHeartbeats 4000000
/-! Matchings: pairs of places, their order, what stands in step. -/
namespace Tl
open PySem L2
open PySem.W (alike alikeAll AllAlike dataLe dataLt rowLt dataLt_tuple dataLt_cons)
abbrev PPr := List Nat × List Nat
def pairD (x : PPr) : PyData := .tuple [pathD x.1, pathD x.2]
theorem pairD_inj {x y : PPr} (h : pairD x = pairD y) : x = y := by
  unfold pairD at h
  injection h with h
  injection h with h1 h
  injection h with h2 _
  exact Prod.ext (pathD_inj h1) (pathD_inj h2)
theorem prs_inj : ∀ {a b : List PPr}, a.map pairD = b.map pairD → a = b
  | [], [], _ => rfl
  | [], _ :: _, h => by cases h
  | _ :: _, [], h => by cases h
  | x :: a, y :: b, h => by
    rw [List.map_cons, List.map_cons] at h
    injection h with h1 h2
    rw [pairD_inj h1, prs_inj h2]
/-! ### order -/
def ltP (x y : PPr) : Bool := if x.1 = y.1 then ltN x.2 y.2 else ltN x.1 y.1
theorem eqv_pair (x y : PPr) : PyData.eqv (pairD x) (pairD y) = decide (x = y) := by
  obtain ⟨a, b⟩ := x
  obtain ⟨c, d⟩ := y
  unfold pairD
  rw [PyData.eqv, PyData.eqvAll, PyData.eqvAll, PyData.eqvAll, eqv_path, eqv_path, Bool.and_true, ← Bool.decide_and]
  exact decide_eq_decide.mpr ⟨fun ⟨h1, h2⟩ => Prod.ext h1 h2, fun h => by cases h; exact ⟨rfl, rfl⟩⟩
theorem alike_path (a b : List Nat) : alike (pathD a) (pathD b) = true := by
  unfold pathD
  rw [alike]
  exact alike_paths a b
theorem alike_pair (x y : PPr) : alike (pairD x) (pairD y) = true := by
  unfold pairD
  rw [alike, alikeAll, alikeAll, alike_path, alike_path, alikeAll]
  rfl
theorem pair_depth (x : PPr) : (pairD x).depth ≤ 3 := by
  have h1 := path_depth x.1
  have h2 := path_depth x.2
  unfold pairD
  rw [PyData.depth, PyData.depthAll, PyData.depthAll, PyData.depthAll]
  omega
theorem path_nd (a : List Nat) : (pathD a).hasDict = false := (eqOk_of (eqOk_path a)).1
theorem pair_nd (x : PPr) : (pairD x).hasDict = false := by
  unfold pairD
  rw [PyData.hasDict, PyData.hasDictAll, PyData.hasDictAll, PyData.hasDictAll, path_nd, path_nd]
  rfl
theorem cmp_path (a b : List Nat) : CmpOk (pathD a) (pathD b) := ⟨alike_path a b, (fun h => by unfold pathD at h; cases h), ⟨path_nd a, path_nd b⟩, by have := path_depth a; omega⟩
theorem pairs_ok : ∀ ps : List PPr, PyData.hasDictAll (ps.map pairD) = false ∧ PyData.canLayAll0 (ps.map pairD) = true ∧ PyData.depthAll (ps.map pairD) ≤ 3 := fun ps => by
  induction ps with
  | nil => exact ⟨rfl, rfl, by decide⟩
  | cons x r ih =>
    obtain ⟨h1, h2, h3⟩ := ih
    obtain ⟨a1, a2⟩ := eqOk_of (eqOk_path x.1)
    obtain ⟨b1, b2⟩ := eqOk_of (eqOk_path x.2)
    have a3 := SeqAt.canLay_of_shaped a2
    have b3 := SeqAt.canLay_of_shaped b2
    have hd := pair_depth x
    refine ⟨by rw [List.map_cons, PyData.hasDictAll, pair_nd, h1]; rfl, ?_, by rw [List.map_cons, PyData.depthAll]; omega⟩
    rw [List.map_cons, PyData.canLayAll0, h2]
    unfold pairD
    rw [PyData.canLay0, PyData.canLayAll0, PyData.canLayAll0, PyData.canLayAll0, a3, b3]
    rfl
theorem eqOk_pairs (ps : List PPr) : eqOk (.tuple (ps.map pairD)) = true := by
  obtain ⟨h1, h2, h3⟩ := pairs_ok ps
  unfold eqOk SeqAt.shaped
  rw [PyData.hasDict, PyData.canLay0, PyData.depth, h1, h2]
  simp
  omega
theorem eqOk_pair (x : PPr) : eqOk (pairD x) = true := by
  obtain ⟨h1, h2, h3⟩ := pairs_ok [x]
  rw [List.map_singleton] at h1 h2 h3
  rw [PyData.hasDictAll, PyData.hasDictAll] at h1
  rw [PyData.canLayAll0, PyData.canLayAll0] at h2
  rw [PyData.depthAll, PyData.depthAll] at h3
  unfold eqOk SeqAt.shaped
  simp at h1 h2
  rw [h1, h2]
  simp
  omega
theorem dataLt_two (x y : PPr) : dataLt (pairD x) (pairD y) = ltP x y := by
  unfold pairD ltP
  rw [PySem.W.dataLt_pair (alike_path _ _) (alike_path _ _), eqv_path, eqv_path, dataLt_path, dataLt_path]
  by_cases h : x.1 = y.1
  · rw [if_pos h, if_pos (decide_eq_true h)]
    by_cases g : x.2 = y.2
    · rw [if_pos (decide_eq_true g), g, ltN_irr]
    · rw [if_neg (by simpa using g)]
  · rw [if_neg h, if_neg (by simpa using h)]
theorem ltP_tr {x y z : PPr} (h : ltP x y = true) (g : ltP y z = true) : ltP x z = true := by
  unfold ltP at h g ⊢
  by_cases e : x.1 = y.1
  · rw [if_pos e] at h
    by_cases e2 : y.1 = z.1
    · rw [if_pos e2] at g
      rw [if_pos (e.trans e2)]
      exact ltN_tr h g
    · rw [if_neg e2] at g
      rw [if_neg (by rw [e]; exact e2), e]
      exact g
  · rw [if_neg e] at h
    by_cases e2 : y.1 = z.1
    · rw [← e2, if_neg e]
      exact h
    · rw [if_neg e2] at g
      have := ltN_tr h g
      rw [if_neg fun c => by rw [c, ltN_irr] at this; cases this]
      exact this
/-! ### rows, each behind each -/
theorem pw_drop {α : Type} {R : α → α → Prop} : ∀ {ps : List α}, ps.Pairwise R ↔ ∀ (i : Nat) (x : α), ps[i]? = some x → ∀ y ∈ ps.drop (i + 1), R x y
  | [] => ⟨fun _ i x h => by simp at h, fun _ => .nil⟩
  | a :: r => by
    rw [List.pairwise_cons, pw_drop (ps := r)]
    refine ⟨fun ⟨h1, h2⟩ i x hi y hy => ?_, fun h => ⟨fun y hy => h 0 a rfl y hy, fun i x hi y hy => h (i + 1) x hi y hy⟩⟩
    cases i with
    | zero =>
      cases hi
      exact h1 y hy
    | succ i => exact h2 i x hi y hy
/-! ### what stands in step -/
def step1 (x y : PPr) : Bool := ltN x.1 y.1 && ltN x.2 y.2 && decide (pre x.1 y.1 = pre x.2 y.2)
def fitP (x y : PPr) : Bool := !decide (x.1 = y.1) && !decide (x.2 = y.2) && decide (ltN x.1 y.1 = ltN x.2 y.2) && decide (pre x.1 y.1 = pre x.2 y.2) && decide (pre y.1 x.1 = pre y.2 x.2)
theorem pre_lt {a b : List Nat} (h : ltN a b = true) : pre b a = false := by
  rw [pre_no]
  rintro ⟨r, rfl⟩
  by_cases e : r = []
  · rw [e, List.append_nil, ltN_irr] at h
    cases h
  · have := ltN_asy h
    rw [ltN_ext b e] at this
    cases this
theorem ltN_ne {a b : List Nat} (h : ltN a b = true) : a ≠ b := fun e => by rw [e, ltN_irr] at h; cases h
theorem step_fit {x y : PPr} (h : step1 x y = true) : ltP x y = true ∧ fitP x y = true := by
  unfold step1 at h
  rw [Bool.and_eq_true, Bool.and_eq_true, decide_eq_true_eq] at h
  obtain ⟨⟨h1, h2⟩, h3⟩ := h
  have n1 := ltN_ne h1
  have n2 := ltN_ne h2
  refine ⟨by unfold ltP; rw [if_neg n1]; exact h1, ?_⟩
  unfold fitP
  rw [h1, h2, h3, pre_lt h1, pre_lt h2, decide_eq_false n1, decide_eq_false n2]
  simp
theorem fit_step {x y : PPr} (h : ltP x y = true) (g : fitP x y = true) : step1 x y = true := by
  unfold fitP at g
  simp only [Bool.and_eq_true, decide_eq_true_eq, Bool.not_eq_true', decide_eq_false_iff_not] at g
  obtain ⟨⟨⟨⟨g1, g2⟩, g3⟩, g4⟩, g5⟩ := g
  unfold ltP at h
  rw [if_neg g1] at h
  unfold step1
  rw [← g3, h, g4]
  simp
theorem steps_fits {ps : List PPr} : ps.Pairwise (fun x y => step1 x y = true) ↔ ps.Pairwise (fun x y => ltP x y = true) ∧ ps.Pairwise (fun x y => fitP x y = true) :=
  ⟨fun h => ⟨h.imp fun k => (step_fit k).1, h.imp fun k => (step_fit k).2⟩, fun ⟨h, g⟩ => (h.and g).imp fun k => fit_step k.1 k.2⟩
/-- a matching of two trees -/
structure Mat (t u : PyData) (ps : List PPr) : Prop where
  at_ : ∀ x ∈ ps, x.1 ∈ plc t ∧ x.2 ∈ plc u
  hd : ps.head? = some ([], [])
  st : ps.Pairwise fun x y => step1 x y = true
theorem up_len : ∀ {a b : List (List Nat)}, Up a → (∀ x ∈ a, x ∈ b) → a.length ≤ b.length
  | [], _, _, _ => Nat.zero_le _
  | x :: r, b, h, hs => by
    unfold Up at h
    rw [List.pairwise_cons] at h
    have h2 := up_len (b := b.erase x) h.2 fun y hy => (List.mem_erase_of_ne (fun e => ltN_ne (h.1 y hy) e.symm)).mpr (hs y (.tail _ hy))
    have hx := hs x (.head _)
    have := List.length_pos_of_mem hx
    rw [List.length_erase_of_mem hx] at h2
    rw [List.length_cons]
    omega
theorem Mat.len {t u : PyData} {ps : List PPr} (h : Mat t u ps) : ps.length ≤ (plc t).length := by
  have e : Up (ps.map (·.1)) := by
    unfold Up
    rw [List.pairwise_map]
    refine h.st.imp fun {x y} k => ?_
    unfold step1 at k
    rw [Bool.and_eq_true, Bool.and_eq_true] at k
    exact k.1.1
  have := up_len e (b := plc t) fun x hx => by
    obtain ⟨y, hy, rfl⟩ := List.mem_map.mp hx
    exact (h.at_ y hy).1
  rwa [List.length_map] at this
def IsMat (t u d : PyData) : Prop := ∃ ps, d = .tuple (ps.map pairD) ∧ Mat t u ps
noncomputable def matB (t u d : PyData) : Bool := @decide (IsMat t u d) (Classical.propDecidable _)
theorem matB_yes {t u d : PyData} (h : IsMat t u d) : matB t u d = true := by
  unfold matB
  exact @decide_eq_true _ (Classical.propDecidable _) h
theorem matB_no {t u d : PyData} (h : ¬ IsMat t u d) : matB t u d = false := by
  unfold matB
  exact @decide_eq_false _ (Classical.propDecidable _) h
theorem matB_true {t u d : PyData} : matB t u d = true ↔ IsMat t u d := by
  unfold matB
  rw [@decide_eq_true_iff _ (Classical.propDecidable _)]
def IsTop (t u d : PyData) : Prop := ∃ ps, d = .tuple (ps.map pairD) ∧ Mat t u ps ∧ ∀ x ∈ ps.drop 1, (x.1.dropLast, x.2.dropLast) ∈ ps
noncomputable def topB (t u d : PyData) : Bool := @decide (IsTop t u d) (Classical.propDecidable _)
theorem topB_yes {t u d : PyData} (h : IsTop t u d) : topB t u d = true := by
  unfold topB
  exact @decide_eq_true _ (Classical.propDecidable _) h
theorem topB_no {t u d : PyData} (h : ¬ IsTop t u d) : topB t u d = false := by
  unfold topB
  exact @decide_eq_false _ (Classical.propDecidable _) h
/-! ### places and pairs among all things -/
noncomputable def plB (t : PyData) (d : PyData) : Bool := @decide (∃ q ∈ plc t, d = pathD q) (Classical.propDecidable _)
noncomputable def prB (t u : PyData) (d : PyData) : Bool := @decide (∃ x : PPr, d = pairD x ∧ x.1 ∈ plc t ∧ x.2 ∈ plc u) (Classical.propDecidable _)
theorem plB_iff {t d : PyData} : plB t d = true ↔ ∃ q ∈ plc t, d = pathD q := by
  unfold plB
  rw [@decide_eq_true_iff _ (Classical.propDecidable _)]
theorem prB_iff {t u d : PyData} : prB t u d = true ↔ ∃ x : PPr, d = pairD x ∧ x.1 ∈ plc t ∧ x.2 ∈ plc u := by
  unfold prB
  rw [@decide_eq_true_iff _ (Classical.propDecidable _)]
theorem bool_eq {a b : Bool} (h : a = true ↔ b = true) : a = b := by cases a <;> cases b <;> simp at h <;> rfl
theorem prB_two (t u a b : PyData) : prB t u (.tuple [a, b]) = (plB t a && plB u b) := by
  refine bool_eq ?_
  rw [Bool.and_eq_true, prB_iff, plB_iff, plB_iff]
  constructor
  · rintro ⟨x, hx, h1, h2⟩
    unfold pairD at hx
    injection hx with hx
    injection hx with e1 hx
    injection hx with e2 _
    exact ⟨⟨_, h1, e1⟩, _, h2, e2⟩
  · rintro ⟨⟨p, hp, rfl⟩, q, hq, rfl⟩
    exact ⟨(p, q), rfl, hp, hq⟩
theorem prB_no {t u d : PyData} (h : ∀ a b, d ≠ .tuple [a, b]) : prB t u d = false := by
  cases e : prB t u d with
  | false => rfl
  | true =>
    obtain ⟨x, hx, _⟩ := prB_iff.mp e
    exact absurd hx (h _ _)
/-- a row of pairs -/
theorem prs_of {t u : PyData} : ∀ {ds : List PyData}, (∀ d ∈ ds, prB t u d = true) → ∃ ps : List PPr, ds = ps.map pairD ∧ ∀ x ∈ ps, x.1 ∈ plc t ∧ x.2 ∈ plc u
  | [], _ => ⟨[], rfl, fun _ h => by cases h⟩
  | d :: ds, h => by
    obtain ⟨ps, rfl, h2⟩ := prs_of (ds := ds) fun x hx => h x (.tail _ hx)
    obtain ⟨x, rfl, hx⟩ := prB_iff.mp (h d (.head _))
    refine ⟨x :: ps, rfl, fun y hy => ?_⟩
    rcases List.mem_cons.mp hy with e | e
    · rw [e]; exact hx
    · exact h2 y e
theorem IsMat.prs {t u : PyData} {ps : List PPr} (h : IsMat t u (.tuple (ps.map pairD))) : Mat t u ps := by
  obtain ⟨qs, e, m⟩ := h
  injection e with e
  rw [prs_inj e]
  exact m
theorem isMat_no {t u : PyData} {ds : List PyData} {d : PyData} (h : d ∈ ds) (h2 : prB t u d = false) : ¬ IsMat t u (.tuple ds) := by
  rintro ⟨ps, e, m⟩
  injection e with e
  subst e
  obtain ⟨x, hx, rfl⟩ := List.mem_map.mp h
  rw [prB_iff.mpr ⟨x, rfl, m.at_ x hx⟩] at h2
  cases h2
/-! ### what a matching costs -/
def tagAt (t : PyData) (q : List Nat) : PyData := match sub t q with
  | some (.tuple [s, _]) => s
  | _ => .none
noncomputable def unlikeN (t u : PyData) (ps : List PPr) : Nat := (ps.filter fun x => !@decide (tagAt t x.1 = tagAt u x.2) (Classical.propDecidable _)).length
end Tl
set_option Elab.async false
set_option linter.all false
set_option maxRecDepth 100000
set_option maxHeartbeats 8000000
namespace Tl
open PySem L2 RZ
local macro_rules
  | `(tactic| decreasing_trivial) => `(tactic| ((with_reducible (conv => whnf)); (repeat ((first | (with_reducible refine gDs_c ?_) | (with_reducible refine gDs_n ?_) | (with_reducible refine gNs_c ?_) | (with_reducible refine gNs_n ?_) | (with_reducible refine gO_i tyAny_lt ?_) | (with_reducible refine gIs_c ?_) | (with_reducible refine gIs_n ?_) | (with_reducible refine gBs_c ?_) | (with_reducible refine gBs_n ?_) | (with_reducible refine gSs_c ?_) | (with_reducible refine gSs_n ?_) | (with_reducible refine gO_i tyIs_int ?_) | (with_reducible refine gO_i tyIs_bool ?_) | (with_reducible refine gO_i tyIs_str ?_) | (with_reducible refine gO_i tyIs_tuple ?_) | (with_reducible refine gO_i tyIs_list ?_) | (with_reducible refine gDs_i ?_) | (with_reducible refine gO_i (Eq.refl _) ?_) | (with_reducible refine gO_i (by assumption) ?_) | (with_reducible refine gO_i at_0 ?_) | (with_reducible refine gO_i at_m0 ?_) | (with_reducible refine gO_i at_1 ?_) | (with_reducible refine gO_i at_m1 ?_) | (with_reducible refine gO_i at_2 ?_) | (with_reducible refine gO_i at_m2 ?_) | (with_reducible refine gO_i at_3 ?_) | (with_reducible refine gO_i at_m3 ?_) | (with_reducible refine gO_i at_4 ?_) | (with_reducible refine gO_i at_m4 ?_) | (with_reducible refine gO_i at_5 ?_) | (with_reducible refine gO_i at_m5 ?_) | (with_reducible refine gO_i at_6 ?_) | (with_reducible refine gO_i at_m6 ?_) | (with_reducible refine gO_i at_7 ?_) | (with_reducible refine gO_i at_m7 ?_) | (with_reducible refine IfB.ngf ?_) | (with_reducible refine IfB.ngt ?_) | (with_reducible refine IfB.not ?_) | (with_reducible refine IfB.nil ?_) | (with_reducible refine IfB.nilT ?_) | (with_reducible refine IfB.f isE_c ?_) | (with_reducible refine IfB.t isE_n ?_) | (with_reducible refine IfB.t ?gha ?_; (case gha => rfl)) | (with_reducible refine IfB.f ?gha ?_; (case gha => rfl)) | (with_reducible refine IfB.t ?gha ?_; (case gha => assumption)) | (with_reducible refine IfB.f ?gha ?_; (case gha => assumption)) | (with_reducible refine IfB.yes (Eq.refl _) ?_) | (with_reducible refine IfB.yes ?gha ?_; (case gha => (first | omega | (simp only [len_c, len_n, List.length_map]; omega)))) | (with_reducible refine IfB.no ?gha ?_; (case gha => (first | omega | (simp only [len_c, len_n, List.length_map]; omega)))) | (with_reducible refine IfB.t ?gha ?_; (case gha => decide +kernel)) | (with_reducible refine IfB.f ?gha ?_; (case gha => decide +kernel))); (with_reducible (conv => whnf))))))
local macro_rules
  | `(tactic| decreasing_trivial_pre_omega) => `(tactic| (decreasing_trivial; (repeat ((first | ((with_reducible refine And.intro ?gha ?_); (case gha => (first | assumption | omega | exact rfl | (exact mset_same) | (exact ⟨_, mset_same⟩) | (exact Exists.intro _ (by first | exact mset_same | assumption | (rw [mset_ne (by assumption)]; first | exact mset_same | assumption))) | (exact sm_of (by omega) (by omega)) | (exact sz1000 (by first | omega | (simp; done) | (simp; omega))) | (exact Or.inl ⟨by decide, by decide⟩) | decide | (simp; done) | (refine ⟨?_, ?_⟩ <;> (first | assumption | omega | exact rfl | (exact mset_same) | (exact ⟨_, mset_same⟩) | (exact Exists.intro _ (by first | exact mset_same | assumption | (rw [mset_ne (by assumption)]; first | exact mset_same | assumption))) | (exact sm_of (by omega) (by omega)) | (exact sz1000 (by first | omega | (simp; done) | (simp; omega))) | (exact Or.inl ⟨by decide, by decide⟩) | decide | (simp; done))) | (refine ⟨?_, ?_, ?_⟩ <;> (first | assumption | omega | exact rfl | (exact mset_same) | (exact ⟨_, mset_same⟩) | (exact Exists.intro _ (by first | exact mset_same | assumption | (rw [mset_ne (by assumption)]; first | exact mset_same | assumption))) | (exact sm_of (by omega) (by omega)) | (exact sz1000 (by first | omega | (simp; done) | (simp; omega))) | (exact Or.inl ⟨by decide, by decide⟩) | decide | (simp; done))) | (refine ⟨?_, ?_, ?_, ?_⟩ <;> (first | assumption | omega | exact rfl | (exact mset_same) | (exact ⟨_, mset_same⟩) | (exact Exists.intro _ (by first | exact mset_same | assumption | (rw [mset_ne (by assumption)]; first | exact mset_same | assumption))) | (exact sm_of (by omega) (by omega)) | (exact sz1000 (by first | omega | (simp; done) | (simp; omega))) | (exact Or.inl ⟨by decide, by decide⟩) | decide | (simp; done)))))) | (with_reducible refine exW (by first | exact mset_same | assumption | (rw [mset_ne (by assumption)]; first | exact mset_same | assumption)) ?_)); decreasing_trivial))))
@[reducible] def tfWithin : TF := fun ws M R _ => ∃ p t : List Nat, ws = [.d (pathD p), .d (pathD t)] ∧ (p.length ≤ 1000 ∧ t.length ≤ 1000) ∧ R (.d (.bool (pre t p))) M
section
variable {P : Program} {w : World} {K : PySem.W.Frag} {mg : Str → Option Value} {base : Heap}
abbrev sIsPath : Stmt := top 15
theorem scIsPath : FnScope ["thing", "step"] ["thing"] (defScope sIsPath) := ⟨rfl, rfl, rfl, by decide +kernel, rfl, by decide +kernel, by decide +kernel⟩
theorem ok_path {f : Addr} {fd : FuncData} {k j : Nat} (F : Fun K "is_path" "is_path" sIsPath f fd) (Uis_number : Use P w K mg base "is_number" ["thing", "most"] j (spD K 2 (tfB2 isNum))) (hj : j ≤ k) (T : Bl mg) (C : Cs mg) : FnOk P w K mg base CX0 (k + 1) f fd ["thing"] (spD K 1 (tfB isPath)) := by
  refine okD F scIsPath rfl fun cdv A outer s H E hr => ?_
  refine ⟨_, _, (pss_cons (ps_if (PW.pt (pw_or (pt_not (pt_val (pe_callB (r := rIsi K) call_isi (by rfl) T.isi PyProof.Rows.boot_isinstance (pa_cons (pv 0) (pa_cons (b_tuple T) pa_nil))))) (pw_or1 (pt_cmpR op_ge (pe_callB call_len_seq (by rfl) T.len PySem.boot_len (pa_cons (pv 0) pa_nil)) (c_DEPTH C) (nomark _))))) (pss_one (ps_ret pe_bl)) pss_nil)
    (pss_one (ps_ret (pe_callB (cr_all rfl) (by rfl) T.all PyProof.Rows.boot_all (pa_cons (pe_lc (own := [("step", 1)]) (g := gName 1) (tt := tYes) (by rfl) scIsPath.nd (pi_tup (pv 0)) (blkOk_by (N := ["thing", "step"]) (sc := defScope sIsPath) (own := [("step", 1)]) (by decide +kernel)) (fun _ _ _ _ _ => pg_name (i := 1) scIsPath.nd rfl (Or.inl rfl)) (fun _ _ _ _ _ => pts_nil) (fun _ _ _ _ _ => (pe_call Uis_number.ok (hr.mono (by omega)) rfl Uis_number.m Uis_number.kp Uis_number.b .nil pass0 (pa_cons (pv 1) (pa_cons (pe_op op_sub (c_SIZE C) pe_int) pa_nil))))) pa_nil))))),
    (ss_cons (ss_if (st_or (st_not (st_val (se_cb sc_isi (sa_cons se_nm (sa_cons se_o sa_nil))))) (st_test (se_op so_ge (se_cb sc_len (sa_cons se_nm sa_nil)) se_int))) (ss_ret se_bl) ss_nil)
    (ss_ret (se_cb sc_all (sa_cons (se_lcF (si_tup se_nm) sg_name st_yes (se_call (sa_cons se_nm (sa_cons (se_op so_sub se_int se_int) sa_nil)))) sa_nil)))), fun ws M R RX hl h => ?_⟩
  obtain ⟨x, rfl, h1⟩ := g1_of h
  obtain ⟨d, rfl, ht, h2⟩ := gD_of h1
  cases d with
  | tuple ds =>
    rw [isPath] at h2
    have htd : txtAll ds = true := by rw [txt] at ht; exact ht
    simp only [start0, len_c, len_n, map_c, map_n, app_c, app_n, rep_0, rep_s, Nat.reduceAdd, Nat.reduceSub]
    decreasing_trivial_pre_omega
    refine IfB.d (fun c => ?_) (fun c => ?_)
    · decreasing_trivial_pre_omega
      rw [decide_eq_false (p := ds.length < 12) (by omega)] at h2
      exact h2
    · rw [decide_eq_true (p := ds.length < 12) (by omega), Bool.true_and] at h2
      decreasing_trivial_pre_omega
      refine lc1F (k := fun _ => True) (b := bName 1) (fun d => .bool (isNum 59 d)) trivial (fun d hm Rk q => ?_) (sz1000 (by omega)) ?_
      · obtain ⟨i, hi⟩ := List.getElem?_of_mem hm
        have := txtAll_get htd hi
        decreasing_trivial_pre_omega
        exact q
      · decreasing_trivial_pre_omega
        rw [List.map_map]
        show gBs (ds.map fun d => W.d (.bool (isNum 59 d))) _
        rw [gBs_map]
        rw [List.all_map]
        exact h2
  | _ => simp only [start0, len_c, len_n, map_c, map_n, app_c, app_n, rep_0, rep_s, Nat.reduceAdd, Nat.reduceSub]; decreasing_trivial_pre_omega; exact h2
abbrev sWithin : Stmt := top 23
theorem scWithin : FnScope ["path", "top"] ["path", "top"] (defScope sWithin) := ⟨rfl, rfl, rfl, by decide +kernel, rfl, by decide +kernel, by decide +kernel⟩
theorem ok_within {f : Addr} {fd : FuncData} {k : Nat} (F : Fun K "is_within" "is_within" sWithin f fd) (T : Bl mg) : FnOk P w K mg base CX0 (k + 1) f fd ["path", "top"] (spD K 2 tfWithin) := by
  refine okD F scWithin rfl fun cdv A outer s H E hr => ?_
  refine ⟨_, _, (pss_one (ps_ret (pe_cmpR (op_eqD hr.units) (pe_slice sl_tupA (pv 0) po_none (po_some (pe_callB call_len_seq (by rfl) T.len PySem.boot_len (pa_cons (pv 1) pa_nil)))) (pv 1) (nomark _)))),
    (ss_ret (se_op so_eqD (se_sl sl_T se_nm sp_no (sp_some (se_cb sc_len (sa_cons se_nm sa_nil)))) se_nm)), fun ws M R RX hl h => ?_⟩
  obtain ⟨p, t, rfl, ⟨h1, h2⟩, h3⟩ := h
  unfold pathD
  simp only [start0, len_c, len_n, map_c, map_n, app_c, app_n, rep_0, rep_s, Nat.reduceAdd, Nat.reduceSub]
  decreasing_trivial_pre_omega
  rw [List.length_map, cut_to, ← List.map_take]
  refine ⟨⟨eqOk_path (p.take t.length), eqOk_path t⟩, ?_⟩
  have e := eqv_path (p.take t.length) t
  unfold pathD at e
  rw [e]
  exact h3
end
end Tl
set_option Elab.async false
set_option linter.all false
set_option maxRecDepth 100000
set_option maxHeartbeats 8000000
namespace Tl
open PySem L2 RZ
local macro_rules
  | `(tactic| decreasing_trivial) => `(tactic| ((with_reducible (conv => whnf)); (repeat ((first | (with_reducible refine gDs_c ?_) | (with_reducible refine gDs_n ?_) | (with_reducible refine gNs_c ?_) | (with_reducible refine gNs_n ?_) | (with_reducible refine gO_i tyAny_lt ?_) | (with_reducible refine gIs_c ?_) | (with_reducible refine gIs_n ?_) | (with_reducible refine gBs_c ?_) | (with_reducible refine gBs_n ?_) | (with_reducible refine gSs_c ?_) | (with_reducible refine gSs_n ?_) | (with_reducible refine gO_i tyIs_int ?_) | (with_reducible refine gO_i tyIs_bool ?_) | (with_reducible refine gO_i tyIs_str ?_) | (with_reducible refine gO_i tyIs_tuple ?_) | (with_reducible refine gO_i tyIs_list ?_) | (with_reducible refine gDs_i ?_) | (with_reducible refine gO_i (Eq.refl _) ?_) | (with_reducible refine gO_i (by assumption) ?_) | (with_reducible refine gO_i at_0 ?_) | (with_reducible refine gO_i at_m0 ?_) | (with_reducible refine gO_i at_1 ?_) | (with_reducible refine gO_i at_m1 ?_) | (with_reducible refine gO_i at_2 ?_) | (with_reducible refine gO_i at_m2 ?_) | (with_reducible refine gO_i at_3 ?_) | (with_reducible refine gO_i at_m3 ?_) | (with_reducible refine gO_i at_4 ?_) | (with_reducible refine gO_i at_m4 ?_) | (with_reducible refine gO_i at_5 ?_) | (with_reducible refine gO_i at_m5 ?_) | (with_reducible refine gO_i at_6 ?_) | (with_reducible refine gO_i at_m6 ?_) | (with_reducible refine gO_i at_7 ?_) | (with_reducible refine gO_i at_m7 ?_) | (with_reducible refine IfB.ngf ?_) | (with_reducible refine IfB.ngt ?_) | (with_reducible refine IfB.not ?_) | (with_reducible refine IfB.nil ?_) | (with_reducible refine IfB.nilT ?_) | (with_reducible refine IfB.f isE_c ?_) | (with_reducible refine IfB.t isE_n ?_) | (with_reducible refine IfB.t ?gha ?_; (case gha => rfl)) | (with_reducible refine IfB.f ?gha ?_; (case gha => rfl)) | (with_reducible refine IfB.t ?gha ?_; (case gha => assumption)) | (with_reducible refine IfB.f ?gha ?_; (case gha => assumption)) | (with_reducible refine IfB.yes (Eq.refl _) ?_) | (with_reducible refine IfB.yes ?gha ?_; (case gha => (first | omega | (simp only [len_c, len_n, List.length_map]; omega)))) | (with_reducible refine IfB.no ?gha ?_; (case gha => (first | omega | (simp only [len_c, len_n, List.length_map]; omega)))) | (with_reducible refine IfB.t ?gha ?_; (case gha => decide +kernel)) | (with_reducible refine IfB.f ?gha ?_; (case gha => decide +kernel))); (with_reducible (conv => whnf))))))
local macro_rules
  | `(tactic| decreasing_trivial_pre_omega) => `(tactic| (decreasing_trivial; (repeat ((first | ((with_reducible refine And.intro ?gha ?_); (case gha => (first | assumption | omega | exact rfl | (exact mset_same) | (exact ⟨_, mset_same⟩) | (exact Exists.intro _ (by first | exact mset_same | assumption | (rw [mset_ne (by assumption)]; first | exact mset_same | assumption))) | (exact sm_of (by omega) (by omega)) | (exact sz1000 (by first | omega | (simp; done) | (simp; omega))) | (exact Or.inl ⟨by decide, by decide⟩) | decide | (simp; done) | (refine ⟨?_, ?_⟩ <;> (first | assumption | omega | exact rfl | (exact mset_same) | (exact ⟨_, mset_same⟩) | (exact Exists.intro _ (by first | exact mset_same | assumption | (rw [mset_ne (by assumption)]; first | exact mset_same | assumption))) | (exact sm_of (by omega) (by omega)) | (exact sz1000 (by first | omega | (simp; done) | (simp; omega))) | (exact Or.inl ⟨by decide, by decide⟩) | decide | (simp; done))) | (refine ⟨?_, ?_, ?_⟩ <;> (first | assumption | omega | exact rfl | (exact mset_same) | (exact ⟨_, mset_same⟩) | (exact Exists.intro _ (by first | exact mset_same | assumption | (rw [mset_ne (by assumption)]; first | exact mset_same | assumption))) | (exact sm_of (by omega) (by omega)) | (exact sz1000 (by first | omega | (simp; done) | (simp; omega))) | (exact Or.inl ⟨by decide, by decide⟩) | decide | (simp; done))) | (refine ⟨?_, ?_, ?_, ?_⟩ <;> (first | assumption | omega | exact rfl | (exact mset_same) | (exact ⟨_, mset_same⟩) | (exact Exists.intro _ (by first | exact mset_same | assumption | (rw [mset_ne (by assumption)]; first | exact mset_same | assumption))) | (exact sm_of (by omega) (by omega)) | (exact sz1000 (by first | omega | (simp; done) | (simp; omega))) | (exact Or.inl ⟨by decide, by decide⟩) | decide | (simp; done)))))) | (with_reducible refine exW (by first | exact mset_same | assumption | (rw [mset_ne (by assumption)]; first | exact mset_same | assumption)) ?_)); decreasing_trivial))))
theorem path_of : ∀ {d : PyData}, isPath d = true → ∃ q : List Nat, d = pathD q ∧ pathOk q
  | .tuple ds, h => by
    rw [isPath, Bool.and_eq_true, decide_eq_true_eq] at h
    obtain ⟨h1, h2⟩ := h
    rw [List.all_eq_true] at h2
    have : ∀ ds : List PyData, (∀ x ∈ ds, isNum 59 x = true) → ∃ q : List Nat, ds = q.map (fun n : Nat => PyData.int (n : Int)) ∧ ∀ i ∈ q, i ≤ 59 := by
      intro ds
      induction ds with
      | nil => exact fun _ => ⟨[], rfl, fun _ h => by cases h⟩
      | cons x r ih =>
        intro h
        obtain ⟨q, rfl, hq⟩ := ih fun y hy => h y (.tail _ hy)
        have hx := h x (.head _)
        cases x with
        | int i =>
          rw [isNum, Bool.and_eq_true, decide_eq_true_eq, decide_eq_true_eq] at hx
          refine ⟨i.toNat :: q, by rw [List.map_cons, show ((i.toNat : Nat) : Int) = i by omega], fun j hj => ?_⟩
          rcases List.mem_cons.mp hj with e | e
          · omega
          · exact hq j e
        | _ => cases hx
    obtain ⟨q, rfl, hq⟩ := this ds h2
    exact ⟨q, rfl, by rw [List.length_map] at h1; exact h1, hq⟩
  | .none, h => by cases h
  | .bool _, h => by cases h
  | .int _, h => by cases h
  | .str _, h => by cases h
  | .list _, h => by cases h
  | .dict _, h => by cases h
theorem plc_ok {t : PyData} {q : List Nat} (h : TrT 12 t) (hn : nn t ≤ 60) (hq : q ∈ plc t) : pathOk q := by
  obtain ⟨e, he⟩ := plc_sub h q hq
  obtain ⟨t1, t2, t3⟩ := sub_tr h he
  refine ⟨?_, fun i hi => ?_⟩
  · obtain ⟨s0, ks, rfl, h1, _⟩ := node_at h he
    omega
  · obtain ⟨a, b, rfl⟩ := List.append_of_mem hi
    have h1 : ∃ u, sub t (a ++ [i]) = some u := sub_cut (b := b) h (by rw [List.append_assoc]; exact he)
    obtain ⟨u, hu⟩ := sub_cut (a := a) (b := [i]) h h1.choose_spec
    have h2 := (sub_kid h hu i).mp h1
    obtain ⟨s1, ks1, rfl, _, h5, _⟩ := node_at h hu
    rw [kidsN_of hu] at h2
    have := len_nn ks1
    omega
/-- good trees -/
structure Tr2 (t : PyData) : Prop where
  tr : TrT 12 t
  n : nn t ≤ 60
theorem Tr2.is {t : PyData} (h : Tr2 t) : isTreeD t = true := tree_iff.mpr ⟨h.tr, h.n⟩
theorem Tr2.txt {t : PyData} (h : Tr2 t) : txt t = true := gd_txt t h.tr.gd.1
@[reducible] def tfPlaceB : TF := fun ws M R _ => ∃ t d, ws = [.d t, .d d] ∧ (Tr2 t ∧ txt d = true) ∧ R (.d (.bool (plB t d))) M
@[reducible] def tfPairB : TF := fun ws M R _ => ∃ t u d, ws = [.d t, .d u, .d d] ∧ (Tr2 t ∧ Tr2 u ∧ txt d = true) ∧ R (.d (.bool (prB t u d))) M
@[reducible] def tfStep : TF := fun ws M R _ => ∃ x y : PPr, ws = [.d (pairD x), .d (pairD y)] ∧ (x.1.length ≤ 100 ∧ x.2.length ≤ 100 ∧ y.1.length ≤ 100 ∧ y.2.length ≤ 100) ∧ R (.d (.bool (step1 x y))) M
@[reducible] def tfMatB (g : PyData → PyData → PyData → Bool) : TF := fun ws M R _ => ∃ t u d, ws = [.d t, .d u, .d d] ∧ (Tr2 t ∧ Tr2 u ∧ txt d = true) ∧ R (.d (.bool (g t u d))) M
theorem plB_path {t : PyData} {q : List Nat} : plB t (pathD q) = true ↔ q ∈ plc t := by
  rw [plB_iff]
  exact ⟨fun ⟨p, h, e⟩ => by rw [pathD_inj e]; exact h, fun h => ⟨q, h, rfl⟩⟩
theorem plB_no {t d : PyData} (h : Tr2 t) (h2 : isPath d = false) : plB t d = false := by
  cases e : plB t d with
  | false => rfl
  | true =>
    obtain ⟨q, hq, rfl⟩ := plB_iff.mp e
    rw [isPath_ok (plc_ok h.tr h.n hq)] at h2
    cases h2
section
variable {P : Program} {w : World} {K : PySem.W.Frag} {mg : Str → Option Value} {base : Heap}
abbrev sIsPlace : Stmt := top 43
theorem scIsPlace : FnScope ["tree", "thing"] ["tree", "thing"] (defScope sIsPlace) := ⟨rfl, rfl, rfl, by decide +kernel, rfl, by decide +kernel, by decide +kernel⟩
theorem ok_isPlace {f : Addr} {fd : FuncData} {k j : Nat} (F : Fun K "is_place" "is_place" sIsPlace f fd) (Uis_path : Use P w K mg base "is_path" ["thing"] j (spD K 1 (tfB isPath))) (Upart_at : Use P w K mg base "part_at" ["tree", "path"] j (spD K 2 tfPartAt)) (hj : j ≤ k) (T : Bl mg) : FnOk P w K mg base CX0 (k + 1) f fd ["tree", "thing"] (spD K 2 tfPlaceB) := by
  refine okD F scIsPlace rfl fun cdv A outer s H E hr => ?_
  refine ⟨_, _, (pss_one (ps_ret (pe_and (pe_call Uis_path.ok (hr.mono (by omega)) rfl Uis_path.m Uis_path.kp Uis_path.b .nil pass0 (pa_cons (pv 1) pa_nil)) (pe_one (pe_cmpR op_notN (pe_call Upart_at.ok (hr.mono (by omega)) rfl Upart_at.m Upart_at.kp Upart_at.b .nil pass0 (pa_cons (pv 0) (pa_cons (pv 1) pa_nil))) pe_non (nomark _)))))),
    (ss_ret (se_and (se_call (sa_cons se_nm sa_nil)) (se_op so_notN (se_call (sa_cons se_nm (sa_cons se_nm sa_nil))) se_non))), fun ws M R RX hl h => ?_⟩
  obtain ⟨t, d, rfl, ⟨ht, hx⟩, h2⟩ := h
  cases c : isPath d with
  | false =>
    rw [plB_no ht c] at h2
    simp only [start0, len_c, len_n, map_c, map_n, app_c, app_n, rep_0, rep_s, Nat.reduceAdd, Nat.reduceSub]
    decreasing_trivial_pre_omega
    exact h2
  | true =>
    obtain ⟨q, rfl, hq⟩ := path_of c
    simp only [start0, len_c, len_n, map_c, map_n, app_c, app_n, rep_0, rep_s, Nat.reduceAdd, Nat.reduceSub]
    decreasing_trivial_pre_omega
    refine ⟨t, q, 12, rfl, ht.tr, ?_⟩
    cases hs : sub t q with
    | none =>
      have e : plB t (pathD q) = false := by
        cases e : plB t (pathD q) with
        | false => rfl
        | true =>
          obtain ⟨e, he⟩ := plc_sub ht.tr q (plB_path.mp e)
          rw [hs] at he
          cases he
      rw [e] at h2
      decreasing_trivial_pre_omega
      exact h2
    | some e =>
      rw [plB_path.mpr (sub_plc ht.tr hs)] at h2
      obtain ⟨s0, ks, rfl, _⟩ := node_at ht.tr hs
      decreasing_trivial_pre_omega
      exact h2
abbrev sIsPair : Stmt := top 42
theorem scIsPair : FnScope ["one", "other", "thing"] ["one", "other", "thing"] (defScope sIsPair) := ⟨rfl, rfl, rfl, by decide +kernel, rfl, by decide +kernel, by decide +kernel⟩
theorem ok_isPair {f : Addr} {fd : FuncData} {k j : Nat} (F : Fun K "is_pair" "is_pair" sIsPair f fd) (Uis_place : Use P w K mg base "is_place" ["tree", "thing"] j (spD K 2 tfPlaceB)) (hj : j ≤ k) (T : Bl mg) : FnOk P w K mg base CX0 (k + 1) f fd ["one", "other", "thing"] (spD K 3 tfPairB) := by
  refine okD F scIsPair rfl fun cdv A outer s H E hr => ?_
  refine ⟨_, _, (pss_cons (ps_if (PW.pt (pw_or (pt_not (pt_val (pe_callB (r := rIsi K) call_isi (by rfl) T.isi PyProof.Rows.boot_isinstance (pa_cons (pv 2) (pa_cons (b_tuple T) pa_nil))))) (pw_or1 (pt_cmpR op_ne (pe_callB call_len_seq (by rfl) T.len PySem.boot_len (pa_cons (pv 2) pa_nil)) pe_int (nomark _))))) (pss_one (ps_ret pe_bl)) pss_nil)
    (pss_one (ps_ret (pe_and (pe_call Uis_place.ok (hr.mono (by omega)) rfl Uis_place.m Uis_place.kp Uis_place.b .nil pass0 (pa_cons (pv 0) (pa_cons (pe_ix ix_tup (pv 2) pe_int (fun _ _ => rfl)) pa_nil))) (pe_one (pe_call Uis_place.ok (hr.mono (by omega)) rfl Uis_place.m Uis_place.kp Uis_place.b .nil pass0 (pa_cons (pv 1) (pa_cons (pe_ix ix_tup (pv 2) pe_int (fun _ _ => rfl)) pa_nil)))))))),
    (ss_cons (ss_if (st_or (st_not (st_val (se_cb sc_isi (sa_cons se_nm (sa_cons se_o sa_nil))))) (st_test (se_op so_neS (se_cb sc_len (sa_cons se_nm sa_nil)) se_int))) (ss_ret se_bl) ss_nil)
    (ss_ret (se_and (se_call (sa_cons se_nm (sa_cons (se_op so_ixT se_nm se_int) sa_nil))) (se_call (sa_cons se_nm (sa_cons (se_op so_ixT se_nm se_int) sa_nil)))))), fun ws M R RX hl h => ?_⟩
  obtain ⟨t, u, d, rfl, ⟨ht, hu, hx⟩, h2⟩ := h
  cases d with
  | tuple ds =>
    simp only [start0, len_c, len_n, map_c, map_n, app_c, app_n, rep_0, rep_s, Nat.reduceAdd, Nat.reduceSub]
    decreasing_trivial_pre_omega
    refine IfB.n (fun c => ?_) (fun c => ?_)
    · rw [prB_no fun a b e => by injection e with e; rw [e] at c; exact c rfl] at h2
      decreasing_trivial_pre_omega
      exact h2
    · obtain ⟨a, b, rfl⟩ : ∃ a b, ds = [a, b] := by
        match ds, c with
        | [a, b], _ => exact ⟨a, b, rfl⟩
        | [], c => simp at c
        | [_], c => simp at c
        | _ :: _ :: _ :: _, c => simp at c; omega
      rw [prB_two] at h2
      rw [txt, txtAll, txtAll, txtAll, Bool.and_true, Bool.and_eq_true] at hx
      obtain ⟨hx1, hx2⟩ := hx
      obtain ⟨i0, i1⟩ := at2 (a := a) (b := b)
      decreasing_trivial_pre_omega
      refine ⟨t, a, rfl, ⟨ht, hx1⟩, ?_⟩
      cases c1 : plB t a with
      | false =>
        rw [c1] at h2
        decreasing_trivial_pre_omega
        exact h2
      | true =>
        rw [c1] at h2
        decreasing_trivial_pre_omega
        refine ⟨u, b, rfl, ⟨hu, hx2⟩, ?_⟩
        decreasing_trivial_pre_omega
        exact h2
  | _ =>
    rw [prB_no fun a b e => by cases e] at h2
    simp only [start0, len_c, len_n, map_c, map_n, app_c, app_n, rep_0, rep_s, Nat.reduceAdd, Nat.reduceSub]
    decreasing_trivial_pre_omega
    exact h2
abbrev sInStep : Stmt := top 44
theorem scInStep : FnScope ["pair", "later", "path", "place", "later_path", "later_place"] ["pair", "later"] (defScope sInStep) := ⟨rfl, rfl, rfl, by decide +kernel, rfl, by decide +kernel, by decide +kernel⟩
theorem ok_inStep {f : Addr} {fd : FuncData} {k j : Nat} (F : Fun K "is_in_step" "is_in_step" sInStep f fd) (Uis_within : Use P w K mg base "is_within" ["path", "top"] j (spD K 2 tfWithin)) (hj : j ≤ k) (T : Bl mg) : FnOk P w K mg base CX0 (k + 1) f fd ["pair", "later"] (spD K 2 tfStep) := by
  refine okD F scInStep rfl fun cdv A outer s H E hr => ?_
  refine ⟨_, _, (pss_cons (ps_asg (pv 0) (pg_tup rfl (pgs_cons (pg_name (i := 2) scInStep.nd rfl (.inl rfl)) (pgs_cons (pg_name (i := 3) scInStep.nd rfl (.inl rfl)) pgs_nil))))
    (pss_cons (ps_asg (pv 1) (pg_tup rfl (pgs_cons (pg_name (i := 4) scInStep.nd rfl (.inl rfl)) (pgs_cons (pg_name (i := 5) scInStep.nd rfl (.inl rfl)) pgs_nil))))
    (pss_cons (ps_if (PW.pt (pw_or (pt_cmpR (op_geD (room65 hr)) (pv 2) (pv 4) (nomark _)) (pw_or1 (pt_cmpR (op_geD (room65 hr)) (pv 3) (pv 5) (nomark _))))) (pss_one (ps_ret pe_bl)) pss_nil)
    (pss_one (ps_ret (pe_cmpR op_eq (pe_call Uis_within.ok (hr.mono (by omega)) rfl Uis_within.m Uis_within.kp Uis_within.b .nil pass0 (pa_cons (pv 4) (pa_cons (pv 2) pa_nil))) (pe_call Uis_within.ok (hr.mono (by omega)) rfl Uis_within.m Uis_within.kp Uis_within.b .nil pass0 (pa_cons (pv 5) (pa_cons (pv 3) pa_nil))) (nomark _))))))),
    (ss_cons (ss_unp sg_tup2 se_nm)
    (ss_cons (ss_unp sg_tup2 se_nm)
    (ss_cons (ss_if (st_or (st_test (se_op so_cmp se_nm se_nm)) (st_test (se_op so_cmp se_nm se_nm))) (ss_ret se_bl) ss_nil)
    (ss_ret (se_op so_eqS (se_call (sa_cons se_nm (sa_cons se_nm sa_nil))) (se_call (sa_cons se_nm (sa_cons se_nm sa_nil)))))))), fun ws M R RX hl h => ?_⟩
  obtain ⟨x, y, rfl, ⟨l1, l2, l3, l4⟩, h2⟩ := h
  unfold pairD
  unfold step1 at h2
  simp only [start0, len_c, len_n, map_c, map_n, app_c, app_n, rep_0, rep_s, Nat.reduceAdd, Nat.reduceSub]
  decreasing_trivial_pre_omega
  have e1 := dataLt_path x.1 y.1
  have e2 := dataLt_path x.2 y.2
  cases c1 : ltN x.1 y.1 with
  | false =>
    rw [c1] at h2 e1
    refine ⟨cmp_path _ _, ?_⟩
    decreasing_trivial_pre_omega
    exact h2
  | true =>
    rw [c1] at h2 e1
    refine ⟨cmp_path _ _, ?_⟩
    decreasing_trivial_pre_omega
    refine ⟨cmp_path _ _, ?_⟩
    cases c2 : ltN x.2 y.2 with
    | false =>
      rw [c2] at h2 e2
      decreasing_trivial_pre_omega
      exact h2
    | true =>
      rw [c2] at h2 e2
      decreasing_trivial_pre_omega
      refine ⟨y.1, x.1, rfl, ⟨by omega, by omega⟩, ?_⟩
      decreasing_trivial_pre_omega
      refine ⟨y.2, x.2, rfl, ⟨by omega, by omega⟩, ?_⟩
      decreasing_trivial_pre_omega
      exact h2
abbrev sIsMat : Stmt := top 41
theorem scIsMat : FnScope ["one", "other", "thing", "at", "pair", "later"] ["one", "other", "thing"] (defScope sIsMat) := ⟨rfl, rfl, rfl, by decide +kernel, rfl, by decide +kernel, by decide +kernel⟩
theorem ok_isMat {f C : Addr} {fd : FuncData} {k j : Nat} (F : Fun K "is_matching" "is_matching" sIsMat f fd) (Ucheck_tree : UseX P w K mg base "check_tree" ["thing"] j (spD K 1 (tfChk isTreeD C))) (Ucount_places : Use P w K mg base "count_places" ["tree"] j (spD K 1 (tfN nn 12))) (Uis_pair : Use P w K mg base "is_pair" ["one", "other", "thing"] j (spD K 3 tfPairB)) (Uis_in_step : Use P w K mg base "is_in_step" ["pair", "later"] j (spD K 2 tfStep)) (hj : j ≤ k) (T : Bl mg) : FnOk P w K mg base CX0 (k + 1) f fd ["one", "other", "thing"] (spD K 3 (tfMatB matB)) := by
  refine okDL F scIsMat rfl fun cdv A outer s H E hr => ?_
  refine ⟨_, _, (pss_cons (ps_expr (pe_callS Ucheck_tree.ok (hr.mono (by omega)) rfl Ucheck_tree.m Ucheck_tree.kp Ucheck_tree.b (fun σ => passAt takes0 σ) (pa_cons (pv 0) pa_nil)))
    (pss_cons (ps_expr (pe_callS Ucheck_tree.ok (hr.mono (by omega)) rfl Ucheck_tree.m Ucheck_tree.kp Ucheck_tree.b (fun σ => passAt takes0 σ) (pa_cons (pv 1) pa_nil)))
    (pss_cons (ps_if (PW.pt (pw_or (pt_not (pt_val (pe_callB (r := rIsi K) call_isi (by rfl) T.isi PyProof.Rows.boot_isinstance (pa_cons (pv 2) (pa_cons (b_tuple T) pa_nil))))) (pw_or1 (pt_not (pt_chain op_le op_le pe_int (pe_callB call_len_seq (by rfl) T.len PySem.boot_len (pa_cons (pv 2) pa_nil)) (pe_call Ucount_places.ok (hr.mono (by omega)) rfl Ucount_places.m Ucount_places.kp Ucount_places.b .nil pass0 (pa_cons (pv 0) pa_nil))))))) (pss_one (ps_ret pe_bl)) pss_nil)
    (pss_cons (ps_if (PW.pt (pw_or (pt_not (pt_val (pe_callB (cr_all rfl) (by rfl) T.all PyProof.Rows.boot_all (pa_cons (pe_lc (own := [("pair", 4)]) (g := gName 4) (tt := tYes) (by rfl) scIsMat.nd (pi_tup (pv 2)) (blkOk_by (N := ["one", "other", "thing", "at", "pair", "later"]) (sc := defScope sIsMat) (own := [("pair", 4)]) (by decide +kernel)) (fun _ _ _ _ _ => pg_name (i := 4) scIsMat.nd rfl (Or.inl rfl)) (fun _ _ _ _ _ => pts_nil) (fun _ _ _ _ _ => (pe_call Uis_pair.ok (hr.mono (by omega)) rfl Uis_pair.m Uis_pair.kp Uis_pair.b .nil pass0 (pa_cons (pv 0) (pa_cons (pv 1) (pa_cons (pv 4) pa_nil)))))) pa_nil)))) (pw_or1 (pt_cmpR (op_neD hr.units) (pe_ix ix_tup (pv 2) pe_int (fun _ _ => rfl)) (pe_tup (pa_cons (pe_tup pa_nil) (pa_cons (pe_tup pa_nil) pa_nil))) (nomark _))))) (pss_one (ps_ret pe_bl)) pss_nil)
    (pss_cons (ps_for PassesOwn.never rfl (pi_enumT (by rfl) T.enum (pa_cons (pv 2) pa_nil)) (pg_tup rfl (pgs_cons (pg_name (i := 3) scIsMat.nd rfl (.inl rfl)) (pgs_cons (pg_name (i := 4) scIsMat.nd rfl (.inr rfl)) pgs_nil))) (pss_one (ps_if (pt_not (pt_val (pe_callB (cr_all rfl) (by rfl) T.all PyProof.Rows.boot_all (pa_cons (pe_lc (own := [("later", 5)]) (g := gName 5) (tt := tYes) (by rfl) scIsMat.nd (pi_tup (pe_slice sl_tupA (pv 2) (po_some (pe_op op_add (pv 3) pe_int)) po_none)) (blkOk_by (N := ["one", "other", "thing", "at", "pair", "later"]) (sc := defScope sIsMat) (own := [("later", 5)]) (by decide +kernel)) (fun _ _ _ _ _ => pg_name (i := 5) scIsMat.nd rfl (Or.inl rfl)) (fun _ _ _ _ _ => pts_nil) (fun _ _ _ _ _ => (pe_call Uis_in_step.ok (hr.mono (by omega)) rfl Uis_in_step.m Uis_in_step.kp Uis_in_step.b .nil pass0 (pa_cons (pv 4) (pa_cons (pv 5) pa_nil))))) pa_nil)))) (pss_one (ps_ret pe_bl)) pss_nil)))
    (pss_one (ps_ret pe_bl))))))),
    (ss_cons (ss_drop (se_callX (sa_cons se_nm sa_nil)))
    (ss_cons (ss_drop (se_callX (sa_cons se_nm sa_nil)))
    (ss_cons (ss_if (st_or (st_not (st_val (se_cb sc_isi (sa_cons se_nm (sa_cons se_o sa_nil))))) (st_not (st_test (se_chain so_le so_le se_int (se_cb sc_len (sa_cons se_nm sa_nil)) (se_call (sa_cons se_nm sa_nil)))))) (ss_ret se_bl) ss_nil)
    (ss_cons (ss_if (st_or (st_not (st_val (se_cb sc_all (sa_cons (se_lcF (si_tup se_nm) sg_name st_yes (se_call (sa_cons se_nm (sa_cons se_nm (sa_cons se_nm sa_nil))))) sa_nil)))) (st_test (se_op so_neD (se_op so_ixT se_nm se_int) (se_tup (sa_cons (se_tup sa_nil) (sa_cons (se_tup sa_nil) sa_nil)))))) (ss_ret se_bl) ss_nil)
    (ss_cons (ss_for (si_enT (sa_cons se_nm sa_nil)) sg_pair (ss_if (st_not (st_val (se_cb sc_all (sa_cons (se_lcF (si_tup (se_sl sl_T se_nm (sp_some (se_op so_add se_nm se_int)) sp_no)) sg_name st_yes (se_call (sa_cons se_nm (sa_cons se_nm sa_nil)))) sa_nil)))) (ss_ret se_bl) ss_nil))
    (ss_ret se_bl)))))), fun ws M R RX hl h => ?_⟩
  obtain ⟨t, u, d, rfl, ⟨ht, hu, hx⟩, h2⟩ := h
  have yt := ht.is
  have yu := hu.is
  have xt := ht.txt
  have xu := hu.txt
  simp only [start0, len_c, len_n, map_c, map_n, app_c, app_n, rep_0, rep_s, Nat.reduceAdd, Nat.reduceSub]
  decreasing_trivial_pre_omega
  refine ⟨fun _ => ?_, fun c => (by rw [yt] at c; cases c)⟩
  decreasing_trivial_pre_omega
  refine ⟨fun _ => ?_, fun c => (by rw [yu] at c; cases c)⟩
  decreasing_trivial_pre_omega
  cases d with
  | tuple ds =>
    rw [txt] at hx
    have hno : ∀ h : ¬ (1 ≤ ds.length ∧ ds.length ≤ nn t), matB t u (.tuple ds) = false := fun h => matB_no fun ⟨ps, e, m⟩ => by
      injection e with e
      have h1 := m.len
      rw [plc_len ht.tr, ← List.length_map (f := pairD) (as := ps), ← e] at h1
      have h2 := m.hd
      refine h ⟨?_, h1⟩
      rw [e, List.length_map]
      cases ps with
      | nil => cases h2
      | cons => rw [List.length_cons]; omega
    have hn60 := ht.n
    have htr := ht.tr
    decreasing_trivial_pre_omega
    refine IfB.d (fun c1 => ?_) (fun c1 => ?_)
    · refine ⟨⟨htr, by omega⟩, ?_⟩
      decreasing_trivial_pre_omega
      refine IfB.d (fun c2 => ?_) (fun c2 => ?_)
      · decreasing_trivial_pre_omega
        have hpr : ∀ d ∈ ds, txt d = true := fun d hd => by
          obtain ⟨i, hi⟩ := List.getElem?_of_mem hd
          exact txtAll_get hx hi
        refine lc1F (k := fun _ => True) (b := bName 4) (fun d => .bool (prB t u d)) trivial (fun d hm Rk q => ?_) (sz1000 (by omega)) ?_
        · have := hpr d hm
          decreasing_trivial_pre_omega
          refine ⟨t, u, d, rfl, ⟨ht, hu, this⟩, ?_⟩
          exact q
        · decreasing_trivial_pre_omega
          show gBs ((ds.map fun d => PyData.bool (prB t u d)).map W.d) _
          rw [mapW, gBs_map]
          by_cases hall : ∀ d ∈ ds, prB t u d = true
          · have ea : (ds.map fun d => prB t u d).all id = true := by
              rw [List.all_map, List.all_eq_true]
              exact fun d hd => hall d hd
            rw [ea]
            obtain ⟨ps, rfl, hps⟩ := prs_of hall
            decreasing_trivial_pre_omega
            have hlen : ∀ x ∈ ps, x.1.length ≤ 100 ∧ x.2.length ≤ 100 := fun x hx => by
              have h1 := (plc_ok ht.tr ht.n (hps x hx).1).1
              have h2 := (plc_ok hu.tr hu.n (hps x hx).2).1
              omega
            have hno2 : ∀ {i : Nat} {x y : PPr}, ps[i]? = some x → y ∈ ps.drop (i + 1) → step1 x y = false → matB t u (.tuple (ps.map pairD)) = false := fun {i x y} hi hy hs => matB_no fun m => by
              have := pw_drop.mp m.prs.st i x hi y hy
              rw [hs] at this
              cases this
            rw [List.length_map] at c1 c2
            cases ps with
            | nil => simp at c1
            | cons x0 r =>
              have i0 : atI ((x0 :: r).map pairD) 0 = some (pairD x0) := atI_nat (j := 0) rfl
              refine gO_i i0 ?_
              decreasing_trivial_pre_omega
              refine ⟨⟨eqOk_pair _, eqOk_pair ([], [])⟩, ?_⟩
              rw [show PyData.tuple [.tuple [], .tuple []] = pairD ([], []) from rfl, eqv_pair]
              by_cases c3 : x0 = ([], [])
              · subst c3
                decreasing_trivial_pre_omega
                generalize hps' : (([], []) :: r : List PPr) = ps at *
                have hhd : ps.head? = some ([], []) := by rw [← hps']; rfl
                refine forE (fun i ρ M' => M = M' ∧ ∃ y z, ρ = [some (W.d t), some (W.d u), some (W.d (.tuple (ps.map pairD))), y, z, none] ∧ ∀ (i' : Nat) (x : PPr), i' < i → ps[i']? = some x → ∀ y ∈ ps.drop (i' + 1), step1 x y = true) ⟨rfl, none, none, rfl, fun i' x h => absurd h (Nat.not_lt_zero _)⟩ (fun _ _ _ _ _ => trivial) (fun i a ρ M' N ha p hN => ?_) (fun ρ M' p => ?_)
                · obtain ⟨rfl, y, z, rfl, hi⟩ := p
                  rw [List.getElem?_map, List.getElem?_map] at ha
                  obtain ⟨x, hx2, rfl⟩ := Option.map_eq_some_iff.mp ha
                  obtain ⟨x1, hx1, rfl⟩ := Option.map_eq_some_iff.mp hx2
                  decreasing_trivial_pre_omega
                  rw [cut_from1, ← List.map_drop, mapW]
                  have hmx := hlen x1 (List.mem_of_getElem? hx1)
                  refine lc1F (k := fun _ => True) (b := bName 5) (fun y => .bool (step1 x1 y)) trivial (fun y hy Rk q => ?_) (sz1000 (by rw [List.length_drop]; omega)) ?_
                  · have hmy := hlen y (List.mem_of_mem_drop hy)
                    decreasing_trivial_pre_omega
                    refine ⟨x1, y, rfl, ⟨hmx.1, hmx.2, hmy.1, hmy.2⟩, ?_⟩
                    exact q
                  · decreasing_trivial_pre_omega
                    show gBs (((ps.drop (i + 1)).map fun y => PyData.bool (step1 x1 y)).map W.d) _
                    rw [mapW, gBs_map]
                    by_cases hst : ∀ y ∈ ps.drop (i + 1), step1 x1 y = true
                    · have ea2 : ((ps.drop (i + 1)).map fun y => step1 x1 y).all id = true := by
                        rw [List.all_map, List.all_eq_true]
                        exact fun d hd => hst d hd
                      rw [ea2]
                      decreasing_trivial_pre_omega
                      refine hN _ _ ⟨rfl, _, _, rfl, fun i' x hi' hx y hy => ?_⟩
                      rcases Nat.lt_succ_iff_lt_or_eq.mp hi' with h | h
                      · exact hi i' x h hx y hy
                      · subst h
                        rw [hx1] at hx
                        cases hx
                        exact hst y hy
                    · have ea2 : ((ps.drop (i + 1)).map fun y => step1 x1 y).all id = false := by
                        cases e : ((ps.drop (i + 1)).map fun y => step1 x1 y).all id with
                        | false => rfl
                        | true =>
                          rw [List.all_map, List.all_eq_true] at e
                          exact absurd (fun d hd => e d hd) hst
                      obtain ⟨y, hy, hy2⟩ : ∃ y ∈ ps.drop (i + 1), step1 x1 y = false := by
                        apply Classical.byContradiction
                        intro c
                        exact hst fun d hd => by
                          cases e : step1 x1 d with
                          | true => rfl
                          | false => exact absurd ⟨d, hd, e⟩ c
                      rw [hno2 hx1 hy hy2] at h2
                      rw [ea2]
                      decreasing_trivial_pre_omega
                      exact ⟨_, fun _ _ h => h, h2⟩
                · obtain ⟨rfl, y, z, rfl, hi⟩ := p
                  rw [matB_yes ⟨ps, rfl, hps, hhd, pw_drop.mpr fun i x hx y hy => hi i x (by have := (List.getElem?_eq_some_iff.mp hx).1; simpa using this) hx y hy⟩] at h2
                  decreasing_trivial_pre_omega
                  exact ⟨_, fun _ _ h => h, h2⟩
              · rw [matB_no (fun m => c3 (by have := m.prs.hd; simpa using this))] at h2
                decreasing_trivial_pre_omega
                exact ⟨_, fun _ _ h => h, h2⟩
          · have : ∃ d ∈ ds, prB t u d = false := by
              apply Classical.byContradiction
              intro c
              exact hall fun d hd => by
                cases e : prB t u d with
                | true => rfl
                | false => exact absurd ⟨d, hd, e⟩ c
            obtain ⟨d, hd, hd2⟩ := this
            rw [matB_no (isMat_no hd hd2)] at h2
            have ea : (ds.map fun d => prB t u d).all id = false := by
              cases e : (ds.map fun d => prB t u d).all id with
              | false => rfl
              | true =>
                rw [List.all_map, List.all_eq_true] at e
                have := e d hd
                rw [show (id ∘ fun d => prB t u d) d = prB t u d from rfl, hd2] at this
                cases this
            rw [ea]
            decreasing_trivial_pre_omega
            exact ⟨_, fun _ _ h => h, h2⟩
      · rw [hno (fun h => by omega)] at h2
        decreasing_trivial_pre_omega
        exact ⟨_, fun _ _ h => h, h2⟩
    · rw [hno (fun h => by omega)] at h2
      decreasing_trivial_pre_omega
      exact ⟨_, fun _ _ h => h, h2⟩
  | _ =>
    rw [matB_no fun ⟨ps, e, m⟩ => by cases e] at h2
    decreasing_trivial_pre_omega
    exact ⟨_, fun _ _ h => h, h2⟩
end
end Tl
set_option Elab.async false
set_option linter.all false
set_option maxRecDepth 100000
set_option maxHeartbeats 4000000
/-! Objects of own classes, as gen2 writes them: methods, makers, try .. finally, a suite that is never run. -/
namespace Tl
open PySem PySem.Spec PyProof.Rows L2
/-- a method that raises nothing -/
structure UseM (P : Program) (w : World) (K : PySem.W.Frag) (mg : Str → Option Value) (base : Heap) (C : Addr) (x : Str) (ps : List Str) (k : Nat) (sp : Sp) where
  f : Addr
  fd : FuncData
  ok : FnOk P w K mg base CX0 k f fd ps sp
  hm : L2.Meth K C x f
  b : Binds K fd ps []
/-- a class that is called; its __init__ may raise -/
structure UseC (P : Program) (w : World) (K : PySem.W.Frag) (mg : Str → Option Value) (base : Heap) (C : Addr) (x : Str) (ps : List Str) (k : Nat) (sp : Sp) where
  f : Addr
  fd : FuncData
  ok : FnOk P w K mg base (L2.CX P w) k f fd ps sp
  made : L2.Mk K C f
  m : mg x = some (.ref C)
  b : Binds K fd ps []
section
variable {X : Cx} {CX : CXT} {k : Nat} {f C : Addr} {fd : FuncData} {ps : List Str} {sp : Sp} {E : L2.St → XK} {x m : Str} {p pos apos : Pos} {e o : Expr} {es : List Expr} {ta : TE} {t : TA}
theorem run_makeS {pins : List (Addr × Obj)} {σ : L2.St} {H : Hp} {s : Shared} {Q : VK} {us : List Value} {vs : List V} (M : L2.Mk X.K C f) (F : FnOk X.prog X.w X.K X.mg X.base CX k f fd ps sp) (hr : Room (k + 1) X.A) (hb : Binds X.K fd ps []) (hx : PassesAt CX X σ (E σ)) (I : Inv X pins σ H s) (r : Vals vs us)
    (h : ∀ x dx, H x = none → H dx = none → dx ≠ x → sp (.ref x :: vs) (upd (upd H dx (.own x)) x (.ins C dx [])) (fun v H2 => v = .non ∧ Q (.ref x) H2) (E σ)) :
    wpAny (model X.prog X.w) X.A (call (.ref C) us) (EP X pins σ Q) X.xe s := by
  have hq := h (s.heap.objs.size + 1) s.heap.objs.size (I.hok.fresh (Nat.le_succ _)) (I.hok.fresh (Nat.le_refl _)) (Nat.ne_of_lt (Nat.lt_succ_self _))
  have I2 := Inv.made (C := C) I
  have r2 : Vals (V.ref (s.heap.objs.size + 1) :: vs) (Value.ref (s.heap.objs.size + 1) :: us) := .cons rfl r
  have hl : (Value.ref (s.heap.objs.size + 1) :: us).length = ps.length := by rw [← r2.length]; exact F.len _ _ _ _ hq
  have bd := hb _ (Value.ref (s.heap.objs.size + 1) :: us) I2.kIn (by rw [List.append_nil]; exact hl)
  rw [List.append_nil] at bd
  refine wpAny_call (make_map (f := f) I.kIn M.makes M.init (beq_iff_eq.mp M.fn) (codeAny_mono (F.run _ X.stack _ _ ⟨Value.ref (s.heap.objs.size + 1) :: us, []⟩ (Value.ref (s.heap.objs.size + 1) :: us) _ _ (E σ) (hr.make C us []) (I2.env0.make C us []) bd r2 hq) fun r s' hq' => ?_))
  cases r with
  | error e => exact hx pins _ _ e s' I2 hq'
  | ok fl =>
    cases fl with
    | ret u =>
      obtain ⟨v, H', I3, rv, ev, q3⟩ := I2.after hq'
      subst ev
      exact ⟨rv, ⟨V.ref (s.heap.objs.size + 1), H', I3, rfl, q3⟩⟩
    | next => exact False.elim hq'
    | brk => exact False.elim hq'
    | cont => exact False.elim hq'
theorem pe_makeE (M : L2.Mk X.K C f) (F : FnOk X.prog X.w X.K X.mg X.base CX k f fd ps sp) (hr : Room (k + 1) X.A) (hg : Gl X x) (hm : X.mg x = some (.ref C)) (hb : Binds X.K fd ps []) (hx : ∀ σ, PassesAt CX X σ (E σ))
    (ha : PA X (e :: es) t) (hdb : (x == ("__debug__" : Str)) = false := by decide) (he : starEach (e :: es) X.env = (false, eval e X.env) :: starEach es X.env := by rfl) (hpl : (backTo pos (starEach es X.env)).any (·.1) = false := by rfl) :
    PE X (.Call (.Name x p) (e :: es) [] pos) (tMakeS C sp E t) := by
  refine ⟨fun pins s σ H Q I h => ?_⟩
  refine wpAny_Call_Name_kw (ld_glob I hg hm ?_ hdb)
  refine PySem.W.callWith_K (h₀ := X.base) I.ok.mod.kin M.kp (thn (ha.run pos pins s σ H _ I h) fun us s1 ⟨vs, H1, I1, r, q⟩ => ⟨I1.kIn, ?_⟩) he hpl
  exact run_makeS M F hr hb (hx σ) I1 r q
end
/-! ### try .. finally of a suite that raises nothing and goes on behind -/
/-! ### a def that errors may leave; what is left over in the memory is dropped both ways -/
def laxX (RX : Ex → Mem → Prop) : Ex → Mem → Prop := fun x M => ∃ M0, (∀ a o, M0 a = some o → M a = some o) ∧ RX x M0
section
variable {P : Program} {w : World} {K : PySem.W.Frag} {mg : Str → Option Value} {base : Heap}
theorem okDXLL {f : Addr} {fd : FuncData} {k n : Nat} {x qual : Str} {st : Stmt} {N ps : List Str} {tf : TF} (F : Fun K x qual st f fd) (S : FnScope N ps (defScope st)) (hp : ps.length = n)
    (hb : ∀ (cdv : Value) (A : Around) (outer : List Env) (s : Shared) (H : Hp) (E : XK), Room k (A.deeper (PyProof.Rows.envOfC qual (defScope st) s.heap.objs.size f cdv)) →
      ∃ (t : TS) (T : REx → TDS), PSs (cxOf (L2.CX P w) P w K mg base N qual (defScope st) f cdv A outer s H E) (defBody st) t ∧ (∀ RE, SSt K (fun cls d _ H => E cls d H) RE t (T RE)) ∧
        ∀ ws M R RX, ws.length = n → tf ws M R RX → T (fun x _ M => laxX RX x M) (endD (lax R)) (start0 N.length ws) M) : FnOk P w K mg base (L2.CX P w) (k + 1) f fd ps (spD K n tf) := by
  refine F.okX S (fun vs H Q E h => ?_) (fun cdv A outer s H vs Q E hr h => ?_)
  · obtain ⟨F0, M, ws, R, RX, r, rs, hl, _⟩ := h
    rw [rs.len, hl, hp]
  · obtain ⟨F0, M, ws, R, RX, r, rs, hl, hf, hk, hx⟩ := h
    obtain ⟨t, T, h1, h2, h3⟩ := hb cdv A outer s H E hr
    refine ⟨t, h1, h2 (fun x _ M => laxX RX x M) F0 H M _ _ _ _ r (fun F' H' M' σ ρ cls d x g r' _ xr ⟨M0, e, z⟩ => hx cls d H' F' M0 x (r'.less e) ⟨g.ff, fun b u h1 h2 => ⟨(g.un b u h1 h2).1, none_less e (g.un b u h1 h2).2⟩, g.nf⟩ xr z) (rel_start rs) (h3 ws M R RX hl hf) (ek_def (kt_lax hk))⟩
end
/-! ### a statement that is never reached -/
end Tl
set_option Elab.async false
set_option linter.all false
set_option maxRecDepth 100000
set_option maxHeartbeats 4000000
/-! Several except clauses, each with the same name behind 'as'. -/
set_option Elab.async false
set_option linter.all false
set_option maxRecDepth 100000
set_option maxHeartbeats 4000000
set_option Elab.async false
set_option linter.all false
set_option maxRecDepth 100000
set_option maxHeartbeats 4000000
/-! Dicts keyed by tuples of numbers: {}, d[k], d[k] = v, k in d. -/
namespace Tl
open PySem PySem.Spec PyProof.Rows L2
/-! ### as the hand layer asks -/
structure IsU (K : PySem.W.Frag) (H : Hp) (x : V) (a : Addr) (xs : List DU1) : Prop where
  e : x = .ref a
  h : H a = some (DU a xs)
  k : KeysU K H a xs
structure IsK (K : PySem.W.Frag) (H : Hp) (y : V) (b : Addr) (k : NestedKey) : Prop where
  e : y = .ref b
  h : KeyV K H (.ref b) k
  d : k.depth ≤ 8
def rInU (K : PySem.W.Frag) : R2 := fun y x H Q => ∃ a b xs k, IsU K H x a xs ∧ IsK K H y b k ∧ Q (.bl (findU xs k).isSome) H
def rSetU (K : PySem.W.Frag) : V → V → V → Hp → (Hp → Prop) → Prop := fun o i v H Q => ∃ a b xs k, IsU K H o a xs ∧ IsK K H i b k ∧ noTxt k = true ∧ xs.length < sizeLine ∧ Q (upd H a (DU a (putU xs k b v)))
def tUNew : TE := fun _ H Q => ∀ p, H p = none → (p == sysModules) = false → Q (.ref p) (upd H p (DU p []))
section
variable {X : Cx} {o i : Expr} {pos : Pos} {td ty : TE}
theorem pe_unew : PE X (.Dict [] [] pos) tUNew := ⟨fun pins s σ H Q I h =>
  wpAny_Dict_empty ⟨.ref s.heap.objs.size, _, I.laid (a := s.heap.objs.size) (o := DU s.heap.objs.size []) (t' := s.toks) (fun _ _ q => Heap.get?_push_of_some _ q) (Nat.le_refl _) (du_empty s.heap), rfl, h _ (I.hok.fresh (Nat.le_refl _)) (beq_eq_false_iff_ne.mpr (Ne.symm (Nat.ne_of_lt I.big)))⟩⟩
theorem op_inU (hu : X.A.units + 20 < cLine) : OpR X (compareOp .In) (rInU X.K) := by
  intro pins s σ H y x v u Q I ry rx h
  obtain ⟨a, b, xs, k, ⟨ex, ea, eu⟩, ⟨ey, ek, ed⟩, q⟩ := h
  subst ex ey
  obtain rfl : u = Value.ref a := rx
  obtain rfl : v = Value.ref b := ry
  exact u_in hu I ea eu ek ed fun s' I' => ⟨.bl _, H, I', rfl, q⟩
theorem set_U (hu : X.A.units + 20 < cLine) : PSet X (rSetU X.K) := by
  intro pins s σ H o i v ov iv u Q I ro ri rv h
  obtain ⟨a, b, xs, k, ⟨ex, ea, eu⟩, ⟨ey, ek, ed⟩, hn, hz, q⟩ := h
  subst ex ey
  obtain rfl : ov = Value.ref a := ro
  obtain rfl : iv = Value.ref b := ri
  exact u_setItem hu I ea eu ek ed hn hz rv fun s' I' => ⟨_, I', q⟩
end
/-! ### as memory tells -/
def valU (kw : List (PyData × W)) (k : PyData) : Option W := (kw.find? fun x => decide (keyN x.1 = keyN k)).map (·.2)
def putW2 (kw : List (PyData × W)) (k : PyData) (w : W) : List (PyData × W) := if (valU kw k).isSome then kw.map (fun x => if keyN x.1 = keyN k then (x.1, w) else x) else kw ++ [(k, w)]
section
variable {K : PySem.W.Frag} {F H : Hp} {M : Mem}
theorem Rl.dT (h : Rl K F H M) {a : Addr} {kw : List (PyData × W)} (e : M a = some (.dT kw)) : ∃ xs, IsU K H (.ref a) a xs ∧ KeysU K F a xs ∧ xs.map (·.1) = kw.map (fun x => keyN x.1) ∧ (∀ x ∈ kw, keyOk x.1 = true) ∧ RWs K F (xs.map (·.2.2)) (kw.map (·.2)) := by
  obtain ⟨_, h1, xs, rfl, h2, h3, h4, h5⟩ := h.at_ a _ e
  exact ⟨xs, ⟨rfl, h1, h2.mono h.fh⟩, h2, h3, h4, h5⟩
theorem find_U {F : Hp} : ∀ {xs : List DU1} {kw : List (PyData × W)} (k : PyData), xs.map (·.1) = kw.map (fun x => keyN x.1) → RWs K F (xs.map (·.2.2)) (kw.map (·.2)) → (∀ w, valU kw k = some w → ∃ v, findU xs (keyN k) = some v ∧ RW K F v w) ∧ (valU kw k = none → findU xs (keyN k) = none)
  | [], [], k, _, _ => ⟨fun w h => (by simp [valU] at h), fun _ => rfl⟩
  | [], _ :: _, _, h, _ => by simp at h
  | _ :: _, [], _, h, _ => by simp at h
  | (kx, ax, vx) :: xs, (d, w) :: kw, k, h, r => by
    rw [List.map_cons, List.map_cons] at h r
    injection h with h1 h2
    simp only at h1
    cases r with
    | cons r1 r2 =>
      obtain ⟨i1, i2⟩ := find_U k h2 r2
      unfold valU findU at i1 i2 ⊢
      by_cases e : keyN d = keyN k
      · rw [List.find?_cons_of_pos (by simpa using e), List.find?_cons_of_pos (by simp only [decide_eq_true_eq]; exact h1.trans e)]
        exact ⟨fun w' hw => (by cases hw; exact ⟨vx, rfl, r1⟩), fun z => nomatch z⟩
      · rw [List.find?_cons_of_neg (by simpa using e), List.find?_cons_of_neg (by simp only [decide_eq_true_eq]; exact fun z => e (h1.symm.trans z))]
        exact ⟨i1, i2⟩
theorem some_U {F : Hp} {xs : List DU1} {kw : List (PyData × W)} (k : PyData) (h : xs.map (·.1) = kw.map (fun x => keyN x.1)) (r : RWs K F (xs.map (·.2.2)) (kw.map (·.2))) : (findU xs (keyN k)).isSome = (valU kw k).isSome := by
  obtain ⟨i1, i2⟩ := find_U k h r
  cases c : valU kw k with
  | none => rw [i2 c]; rfl
  | some w =>
    obtain ⟨v, e, _⟩ := i1 w c
    rw [e]
    rfl
theorem put_U {F : Hp} {xs : List DU1} {kw : List (PyData × W)} {k : PyData} {b : Addr} {v : V} {w : W} (h : xs.map (·.1) = kw.map (fun x => keyN x.1)) (r : RWs K F (xs.map (·.2.2)) (kw.map (·.2))) (rv : RW K F v w) :
    (putU xs (keyN k) b v).map (·.1) = (putW2 kw k w).map (fun x => keyN x.1) ∧ RWs K F ((putU xs (keyN k) b v).map (·.2.2)) ((putW2 kw k w).map (·.2)) := by
  have e := some_U k h r
  unfold putU putW2
  rw [e]
  split
  · rename_i hc
    clear hc e
    induction xs generalizing kw with
    | nil => cases kw with
      | nil => exact ⟨rfl, .nil⟩
      | cons y kw => simp at h
    | cons x xs ih => cases kw with
      | nil => simp at h
      | cons y kw =>
        obtain ⟨kx, ax, vx⟩ := x
        obtain ⟨d, w'⟩ := y
        rw [List.map_cons, List.map_cons] at h r
        injection h with h1 h2
        simp only at h1
        cases r with
        | cons r1 r2 =>
          obtain ⟨j1, j2⟩ := ih h2 r2
          subst h1
          simp only [List.map_cons]
          by_cases c : keyN d = keyN k
          · rw [if_pos c, if_pos c]
            exact ⟨by rw [j1], .cons rv j2⟩
          · rw [if_neg c, if_neg c]
            exact ⟨by rw [j1], .cons r1 j2⟩
  · rename_i hc
    clear hc e
    rw [List.map_append, List.map_append, List.map_append, List.map_append, h]
    refine ⟨rfl, ?_⟩
    generalize xs.map (·.2.2) = us at r
    generalize kw.map (·.2) = ws at r
    induction r with
    | nil => exact .cons rv .nil
    | cons a b ih => exact .cons a ih
theorem keys_put {F : Hp} {a : Addr} {xs : List DU1} {k : NestedKey} {b : Addr} {v : V} (h : KeysU K F a xs) (hk : KeyV K F (.ref b) k) (hd : k.depth ≤ 8) (hn : noTxt k = true) (hz : xs.length < sizeLine) : KeysU K F a (putU xs k b v) := by
  unfold putU
  split
  · refine ⟨h.sm, by rw [List.length_map]; exact h.sz, ?_, fun x hx => ?_⟩
    · have e : (xs.map fun x => if x.1 = k then (x.1, x.2.1, v) else x).map (·.1) = xs.map (·.1) := by
        rw [List.map_map]
        refine List.map_congr_left fun x _ => ?_
        show (if x.1 = k then (x.1, x.2.1, v) else x).1 = x.1
        split <;> rfl
      rw [e]
      exact h.nd
    · obtain ⟨y, hy, rfl⟩ := List.mem_map.mp hx
      have := h.ks y hy
      split
      · exact this
      · exact this
  · rename_i c
    refine ⟨h.sm, by rw [List.length_append]; exact hz, ?_, fun x hx => ?_⟩
    · rw [List.map_append, List.nodup_append]
      refine ⟨h.nd, by simp, fun x hx y hy e => ?_⟩
      simp only [List.map_cons, List.map_nil, List.mem_singleton] at hy
      subst hy
      subst e
      obtain ⟨z, hz, rfl⟩ := List.mem_map.mp hx
      refine c ?_
      unfold findU
      rw [Option.isSome_map]
      exact List.find?_isSome.mpr ⟨z, hz, by simp⟩
    · rcases List.mem_append.mp hx with hx | hx
      · exact h.ks x hx
      · rw [List.mem_singleton.mp hx]
        exact ⟨hk, hd, hn⟩
theorem ok_put {kw : List (PyData × W)} {k : PyData} {w : W} (h : ∀ x ∈ kw, keyOk x.1 = true) (hk : keyOk k = true) : ∀ x ∈ putW2 kw k w, keyOk x.1 = true := by
  unfold putW2
  intro x hx
  split at hx
  · obtain ⟨y, hy, rfl⟩ := List.mem_map.mp hx
    split
    · exact h y hy
    · exact h y hy
  · rcases List.mem_append.mp hx with hx | hx
    · exact h x hx
    · rw [List.mem_singleton.mp hx]; exact hk
end
/-- a key that is asked for -/
@[reducible] def gU (x : W) (k : PyData → Prop) : Prop := gT x fun ds => (keyOk (.tuple ds) = true ∧ (PyData.tuple ds).depth ≤ 8) ∧ k (.tuple ds)
section
variable {K : PySem.W.Frag} {Wx : WX} {RE : REx}
theorem gU_of {F H : Hp} {M : Mem} {v : V} {x : W} {k : PyData → Prop} (hr : Rl K F H M) (r : RW K F v x) (h : gU x k) : ∃ d b, x = .d d ∧ v = .ref b ∧ IsK K H v b (keyN d) ∧ KeyV K F (.ref b) (keyN d) ∧ (keyN d).depth ≤ 8 ∧ keyOk d = true ∧ k d := by
  obtain ⟨ds, rfl, ⟨h1, h2⟩, h3⟩ := gT_of h
  obtain ⟨b, xs, rfl, q1, q2⟩ := r.tup
  have kv := keyV_of (.tuple ds) _ (Dx.tup q1 q2) h1
  have kd := Nat.le_trans (keyN_depth (.tuple ds)) h2
  exact ⟨.tuple ds, b, rfl, rfl, ⟨rfl, KeyV.mono hr.fh _ _ kv, kd⟩, kv, kd, h1, h3⟩
/-- {} -/
@[reducible] def newUT : TDE := fun _ M R => ∀ p, M p = none → R (.r p) (mset M p (.dT []))
theorem se_newU : SE K Wx RE tUNew newUT := fun F H M σ ρ R Q hr hx hs ht k p hp hsm => by
  obtain ⟨r1, g1⟩ := hr.born (u := DU p []) (o := .dT []) hp ⟨[], rfl, ⟨hsm, Nat.zero_le _, List.nodup_nil, fun x hx => (by cases hx)⟩, rfl, (fun x hx => by cases hx), .nil⟩
  exact k _ _ _ _ _ r1 g1 (.r p) (ht p (hr.new hp))
/-- k in d -/
@[reducible] def fInU (neg : Bool) : F2 := fun i x M R => gR x fun a => gU i fun k => ∃ kw, M a = some (.dT kw) ∧ R (.d (.bool (ng neg (valU kw k).isSome))) M
theorem so_inU : SO K (rInU K) (fInU false) := fun F H M v u x y R Q hr rx ry hf k => by
  obtain ⟨a, rfl, q2⟩ := gR_of hf
  obtain ⟨d, b, rfl, rfl, ik, _, _, _, kw, e, q4⟩ := gU_of hr rx q2
  obtain ⟨xs, iu, _, e1, _, e2⟩ := hr.dT e
  rw [ry.ref]
  refine ⟨a, b, xs, keyN d, iu, ik, ?_⟩
  rw [some_U d e1 e2]
  exact k _ H F M _ hr .refl (.d (.bl _)) q4
/-- d[k] = v -/
@[reducible] def setU (T O I : TDE) : TDS := fun D ρ M => T ρ M fun y M1 => O ρ M1 fun x M2 => I ρ M2 fun i M3 => gR x fun a => gU i fun k => ∃ kw, M3 a = some (.dT kw) ∧ kw.length < sizeLine ∧ D.nx ρ (mset M3 a (.dT (putW2 kw k y)))
theorem ss_setU {t to ti : TE} {T O I : TDE} (h1 : SE K Wx RE t T) (h2 : SE K Wx RE to O) (h3 : SE K Wx RE ti I) : SSt K Wx RE (tAsg t (gSub to ti (rSetU K))) (setU T O I) := fun F H M σ ρ D E hr hx hs ht k =>
  h1 F H M σ ρ _ _ hr hx hs ht fun v H1 F1 M1 x r1 g1 rx q1 => h2 F1 H1 M1 σ ρ _ _ r1 (hx.mono g1) (hs.mono g1.ff) q1 fun v2 H2 F2 M2 x2 r2 g2 rx2 q2 =>
    h3 F2 H2 M2 σ ρ _ _ r2 (hx.mono (g1.trans g2)) (hs.mono (g1.trans g2).ff) q2 fun v3 H3 F3 M3 x3 r3 g3 rx3 q3 => by
      obtain ⟨a, rfl, q4⟩ := gR_of q3
      obtain ⟨d, b, rfl, rfl, ik, kv, kd, ko, kw, e, hl, q5⟩ := gU_of r3 rx3 q4
      obtain ⟨xs, iu, ku, e1, e3, e2⟩ := r3.dT e
      have hn := keyN_noTxt d ko
      have hz : xs.length < sizeLine := by
        have := congrArg List.length e1
        rw [List.length_map, List.length_map] at this
        omega
      have rv := rx.mono (g2.trans g3).ff
      obtain ⟨p1, p2⟩ := put_U (k := d) (b := b) e1 e2 rv
      obtain ⟨r4, g4⟩ := r3.put (u := DU a (putU xs (keyN d) b v)) (o := .dT (putW2 kw d x)) e ⟨_, rfl, keys_put ku kv kd hn hz, p1, ok_put e3 ko, p2⟩
      have g := ((g1.trans g2).trans g3).trans g4
      have e4 := (rx2.mono g3.ff).ref
      rw [e4]
      exact ⟨a, b, xs, keyN d, iu, ik, hn, hz, k.nx σ _ _ _ ρ r4 g (hs.mono g.ff) q5⟩
end
end Tl
set_option Elab.async false
set_option linter.all false
set_option maxRecDepth 100000
set_option maxHeartbeats 4000000
/-! dict(xs), xs a list of pairs (tuple of numbers, value). -/
namespace Tl
open PySem PySem.Spec PyProof.Rows L2
/-! ### as memory tells -/
theorem hu20 {k : Nat} {A : Around} (hr : Room k A) : A.units + 20 < cLine := by have := hr.un; omega
/-! ### xs.index(x), data -/
/-! ### ord(x) -/
end Tl
set_option Elab.async false
set_option linter.all false
set_option maxRecDepth 100000
set_option maxHeartbeats 4000000
/-! len of a dict keyed by tuples. -/
set_option Elab.async false
set_option linter.all false
set_option maxRecDepth 100000
set_option maxHeartbeats 4000000
/-! d.setdefault(k, x), d keyed by tuples. -/
set_option Elab.async false
set_option linter.all false
set_option maxRecDepth 100000
set_option maxHeartbeats 4000000
/-! list(d), d keyed by tuples of numbers: its keys, in order. -/
set_option Elab.async false
set_option linter.all false
set_option maxRecDepth 100000
set_option maxHeartbeats 8000000
namespace Tl
open PySem L2 RZ
local macro_rules
  | `(tactic| decreasing_trivial) => `(tactic| ((with_reducible (conv => whnf)); (repeat ((first | (with_reducible refine exI (by first | exact mset_same | assumption | (rw [mset_ne (by assumption)]; first | exact mset_same | assumption)) ?_) | (with_reducible refine exI2 (by first | exact mset_same | assumption | (rw [mset_ne (by assumption)]; first | exact mset_same | assumption)) ?_) | (with_reducible refine gPut_n ?_) | (with_reducible refine gPut_0 ?_) | (with_reducible refine (gPut_s (by decide +kernel)) ?_) | (with_reducible refine (gO_i lk_one) ?_) | (with_reducible refine (gO_i lk_oth) ?_) | (with_reducible refine (gO_i lk_cst) ?_) | (with_reducible refine gDs_c ?_) | (with_reducible refine gDs_n ?_) | (with_reducible refine gNs_c ?_) | (with_reducible refine gNs_n ?_) | (with_reducible refine gO_i tyAny_lt ?_) | (with_reducible refine gIs_c ?_) | (with_reducible refine gIs_n ?_) | (with_reducible refine gBs_c ?_) | (with_reducible refine gBs_n ?_) | (with_reducible refine gSs_c ?_) | (with_reducible refine gSs_n ?_) | (with_reducible refine gO_i tyIs_int ?_) | (with_reducible refine gO_i tyIs_bool ?_) | (with_reducible refine gO_i tyIs_str ?_) | (with_reducible refine gO_i tyIs_tuple ?_) | (with_reducible refine gO_i tyIs_list ?_) | (with_reducible refine gDs_i ?_) | (with_reducible refine gO_i (Eq.refl _) ?_) | (with_reducible refine gO_i (by assumption) ?_) | (with_reducible refine gO_i at_0 ?_) | (with_reducible refine gO_i at_m0 ?_) | (with_reducible refine gO_i at_1 ?_) | (with_reducible refine gO_i at_m1 ?_) | (with_reducible refine gO_i at_2 ?_) | (with_reducible refine gO_i at_m2 ?_) | (with_reducible refine gO_i at_3 ?_) | (with_reducible refine gO_i at_m3 ?_) | (with_reducible refine gO_i at_4 ?_) | (with_reducible refine gO_i at_m4 ?_) | (with_reducible refine gO_i at_5 ?_) | (with_reducible refine gO_i at_m5 ?_) | (with_reducible refine gO_i at_6 ?_) | (with_reducible refine gO_i at_m6 ?_) | (with_reducible refine gO_i at_7 ?_) | (with_reducible refine gO_i at_m7 ?_) | (with_reducible refine IfB.ngf ?_) | (with_reducible refine IfB.ngt ?_) | (with_reducible refine IfB.not ?_) | (with_reducible refine IfB.nil ?_) | (with_reducible refine IfB.nilT ?_) | (with_reducible refine IfB.f isE_c ?_) | (with_reducible refine IfB.t isE_n ?_) | (with_reducible refine IfB.t ?gha ?_; (case gha => rfl)) | (with_reducible refine IfB.f ?gha ?_; (case gha => rfl)) | (with_reducible refine IfB.t ?gha ?_; (case gha => assumption)) | (with_reducible refine IfB.f ?gha ?_; (case gha => assumption)) | (with_reducible refine IfB.yes (Eq.refl _) ?_) | (with_reducible refine IfB.yes ?gha ?_; (case gha => (first | omega | (simp only [len_c, len_n, List.length_map]; omega)))) | (with_reducible refine IfB.no ?gha ?_; (case gha => (first | omega | (simp only [len_c, len_n, List.length_map]; omega)))) | (with_reducible refine IfB.t ?gha ?_; (case gha => decide +kernel)) | (with_reducible refine IfB.f ?gha ?_; (case gha => decide +kernel))); (with_reducible (conv => whnf))))))
local macro_rules
  | `(tactic| decreasing_trivial_pre_omega) => `(tactic| (decreasing_trivial; (repeat ((first | ((with_reducible refine And.intro ?gha ?_); (case gha => (first | assumption | omega | exact rfl | (exact mset_same) | (exact ⟨_, mset_same⟩) | (exact Exists.intro _ (by first | exact mset_same | assumption | (rw [mset_ne (by assumption)]; first | exact mset_same | assumption))) | (exact sm_of (by omega) (by omega)) | (exact sz1000 (by first | omega | (simp; done) | (simp; omega))) | (exact Or.inl ⟨by decide, by decide⟩) | decide | (simp; done) | (refine ⟨?_, ?_⟩ <;> (first | assumption | omega | exact rfl | (exact mset_same) | (exact ⟨_, mset_same⟩) | (exact Exists.intro _ (by first | exact mset_same | assumption | (rw [mset_ne (by assumption)]; first | exact mset_same | assumption))) | (exact sm_of (by omega) (by omega)) | (exact sz1000 (by first | omega | (simp; done) | (simp; omega))) | (exact Or.inl ⟨by decide, by decide⟩) | decide | (simp; done))) | (refine ⟨?_, ?_, ?_⟩ <;> (first | assumption | omega | exact rfl | (exact mset_same) | (exact ⟨_, mset_same⟩) | (exact Exists.intro _ (by first | exact mset_same | assumption | (rw [mset_ne (by assumption)]; first | exact mset_same | assumption))) | (exact sm_of (by omega) (by omega)) | (exact sz1000 (by first | omega | (simp; done) | (simp; omega))) | (exact Or.inl ⟨by decide, by decide⟩) | decide | (simp; done))) | (refine ⟨?_, ?_, ?_, ?_⟩ <;> (first | assumption | omega | exact rfl | (exact mset_same) | (exact ⟨_, mset_same⟩) | (exact Exists.intro _ (by first | exact mset_same | assumption | (rw [mset_ne (by assumption)]; first | exact mset_same | assumption))) | (exact sm_of (by omega) (by omega)) | (exact sz1000 (by first | omega | (simp; done) | (simp; omega))) | (exact Or.inl ⟨by decide, by decide⟩) | decide | (simp; done)))))) | (with_reducible refine exW (by first | exact mset_same | assumption | (rw [mset_ne (by assumption)]; first | exact mset_same | assumption)) ?_)); decreasing_trivial))))
/-- the labels of a tree: tags, and the numbers where their parts begin -/
abbrev Lab := List (Str × Nat)
@[reducible] def labD (A : Lab) : PyData := .list (A.map fun x => .tuple [.str x.1, .int (x.2 : Nat)])
structure Cst where
  name : Nat
  out : Nat
  into : Nat
@[reducible] def cstD (c : Cst) : PyData := .tuple [.int (c.name : Nat), .int (c.out : Nat), .int (c.into : Nat)]
def wgF (A B : Lab) (c : Cst) : List (Str × W) := [("one", .d (labD A)), ("other", .d (labD B)), ("costs", .d (cstD c))]
theorem lk_one {A B : Lab} {c : Cst} : List.lookup ("one" : Str) (wgF A B c) = some (.d (labD A)) := by
  unfold wgF
  rw [List.lookup, show (("one" : Str) == "one") = true by decide +kernel]
theorem lk_oth {A B : Lab} {c : Cst} : List.lookup ("other" : Str) (wgF A B c) = some (.d (labD B)) := by
  unfold wgF
  rw [List.lookup, show (("other" : Str) == "one") = false by decide +kernel, List.lookup, show (("other" : Str) == "other") = true by decide +kernel]
theorem lk_cst {A B : Lab} {c : Cst} : List.lookup ("costs" : Str) (wgF A B c) = some (.d (cstD c)) := by
  unfold wgF
  rw [List.lookup, show (("costs" : Str) == "one") = false by decide +kernel, List.lookup, show (("costs" : Str) == "other") = false by decide +kernel, List.lookup, show (("costs" : Str) == "costs") = true by decide +kernel]
structure WgC (K : PySem.W.Frag) (C : Addr) : Prop where
  cls : L2.Cls K C
  n1 : NoAttr K C "one"
  n2 : NoAttr K C "other"
  n3 : NoAttr K C "costs"
/-- four numbers: a span here, a span there -/
structure Sp4 where
  a : Nat
  b : Nat
  c : Nat
  d : Nat
@[reducible] def spD4 (s : Sp4) : PyData := .tuple [.int (s.a : Nat), .int (s.b : Nat), .int (s.c : Nat), .int (s.d : Nat)]
def Sp4.mt (s : Sp4) : Bool := decide (s.a = s.b) || decide (s.c = s.d)
@[reducible] def tfMt : TF := fun ws M R _ => ∃ s : Sp4, ws = [.d (spD4 s)] ∧ R (.d (.bool s.mt)) M
@[reducible] def tfTops (C : Addr) : TF := fun ws M R _ => ∃ (a dx : Addr) (A B : Lab) (c : Cst), ws = [.r a] ∧ (M a = some (.ins C dx (wgF A B c)) ∧ 1 ≤ A.length ∧ 1 ≤ B.length ∧ A.length ≤ 1000 ∧ B.length ≤ 1000) ∧ R (.d (spD4 ⟨0, A.length - 1, 0, B.length - 1⟩)) M
/-- what naming costs -/
def nam (A B : Lab) (c : Cst) (i j : Nat) : Nat := if (A[i]?).map (·.1) = (B[j]?).map (·.1) then 0 else c.name
@[reducible] def tfNaming (C : Addr) : TF := fun ws M R _ => ∃ (a dx : Addr) (A B : Lab) (c : Cst) (i j : Nat), ws = [.r a, .d (.int (i : Nat)), .d (.int (j : Nat))] ∧ (M a = some (.ins C dx (wgF A B c)) ∧ i < A.length ∧ j < B.length) ∧ R (.d (.int (nam A B c i j : Nat))) M
section
variable {P : Program} {w : World} {K : PySem.W.Frag} {mg : Str → Option Value} {base : Heap}
abbrev sMt : Stmt := top 33
theorem scMt : FnScope ["spans"] ["spans"] (defScope sMt) := ⟨rfl, rfl, rfl, by decide +kernel, rfl, by decide +kernel, by decide +kernel⟩
theorem ok_mt {f : Addr} {fd : FuncData} {k : Nat} (F : Fun K "is_empty" "is_empty" sMt f fd) (T : Bl mg) : FnOk P w K mg base CX0 (k + 1) f fd ["spans"] (spD K 1 tfMt) := by
  refine okD F scMt rfl fun cdv A outer s H E hr => ?_
  refine ⟨_, _, (pss_one (ps_ret (pe_or (pe_cmpR op_eq (pe_ix ix_tup (pv 0) pe_int (fun _ _ => rfl)) (pe_ix ix_tup (pv 0) pe_int (fun _ _ => rfl)) (nomark _)) (pe_one (pe_cmpR op_eq (pe_ix ix_tup (pv 0) pe_int (fun _ _ => rfl)) (pe_ix ix_tup (pv 0) pe_int (fun _ _ => rfl)) (nomark _)))))),
    (ss_ret (se_or (se_op so_eqS (se_op so_ixT se_nm se_int) (se_op so_ixT se_nm se_int)) (se_op so_eqS (se_op so_ixT se_nm se_int) (se_op so_ixT se_nm se_int)))), fun ws M R RX hl h => ?_⟩
  obtain ⟨s4, rfl, h2⟩ := h
  obtain ⟨a, b, c, d⟩ := s4
  unfold Sp4.mt at h2
  dsimp only at h2
  unfold spD4
  simp only [start0, len_c, len_n, map_c, map_n, app_c, app_n, rep_0, rep_s, Nat.reduceAdd, Nat.reduceSub]
  decreasing_trivial_pre_omega
  refine IfB.d (fun c1 => ?_) (fun c1 => ?_)
  · rw [decide_eq_true (by omega), Bool.true_or] at h2
    decreasing_trivial_pre_omega
    exact h2
  · rw [decide_eq_false (by omega), Bool.false_or] at h2
    decreasing_trivial_pre_omega
    rw [show (decide (((c : Nat) : Int) = ((d : Nat) : Int))) = decide (c = d) by exact decide_eq_decide.mpr (by omega)]
    exact h2
abbrev sTops : Stmt := inClsN (top 31) 1
theorem scTops : FnScope ["self"] ["self"] (defScope sTops) := ⟨rfl, rfl, rfl, by decide +kernel, rfl, by decide +kernel, by decide +kernel⟩
theorem ok_tops {f C : Addr} {fd : FuncData} {k : Nat} (F : Fun K "below_tops" "Weighing.below_tops" sTops f fd) (MWeighing : WgC K C) (T : Bl mg) : FnOk P w K mg base CX0 (k + 1) f fd ["self"] (spD K 1 (tfTops C)) := by
  refine okD F scTops rfl fun cdv A' outer s H E hr => ?_
  refine ⟨_, _, (pss_one (ps_ret (pe_tup (pa_cons pe_int (pa_cons (pe_op op_sub (pe_callB call_len_seq (by rfl) T.len PySem.boot_len (pa_cons (pe_fld (pv 0) (by rfl)) pa_nil)) pe_int) (pa_cons pe_int (pa_cons (pe_op op_sub (pe_callB call_len_seq (by rfl) T.len PySem.boot_len (pa_cons (pe_fld (pv 0) (by rfl)) pa_nil)) pe_int) pa_nil))))))),
    (ss_ret (se_tup (sa_cons se_int (sa_cons (se_op so_sub (se_cb sc_len (sa_cons (se_fld se_nm) sa_nil)) se_int) (sa_cons se_int (sa_cons (se_op so_sub (se_cb sc_len (sa_cons (se_fld se_nm) sa_nil)) se_int) sa_nil)))))), fun ws M R RX hl h => ?_⟩
  obtain ⟨a, dx, A, B, c, rfl, ⟨hM, a1, b1, a2, b2⟩, h2⟩ := h
  have c1 := MWeighing.cls
  have c2 := MWeighing.n1
  have c3 := MWeighing.n2
  have c4 := MWeighing.n3
  have l1 : (A.map fun x => PyData.tuple [.str x.1, .int (x.2 : Nat)]).length = A.length := List.length_map ..
  have l2 : (B.map fun x => PyData.tuple [.str x.1, .int (x.2 : Nat)]).length = B.length := List.length_map ..
  simp only [start0, len_c, len_n, map_c, map_n, app_c, app_n, rep_0, rep_s, Nat.reduceAdd, Nat.reduceSub]
  decreasing_trivial_pre_omega
  rw [List.length_map] at *
  decreasing_trivial_pre_omega
  rw [List.length_map] at *
  decreasing_trivial_pre_omega
  have l3 : ((B.map fun x => PyData.tuple [.str x.1, .int (x.2 : Nat)]).map W.d).length = B.length := by rw [List.length_map, List.length_map]
  rw [l3]
  dsimp only
  rw [show ((A.length : Nat) : Int) - 1 = ((A.length - 1 : Nat) : Int) by omega, show ((B.length : Nat) : Int) - 1 = ((B.length - 1 : Nat) : Int) by omega]
  exact h2
abbrev sNaming : Stmt := inClsN (top 31) 2
theorem scNaming : FnScope ["self", "number", "other"] ["self", "number", "other"] (defScope sNaming) := ⟨rfl, rfl, rfl, by decide +kernel, rfl, by decide +kernel, by decide +kernel⟩
theorem ok_naming {f C : Addr} {fd : FuncData} {k : Nat} (F : Fun K "naming" "Weighing.naming" sNaming f fd) (MWeighing : WgC K C) (T : Bl mg) : FnOk P w K mg base CX0 (k + 1) f fd ["self", "number", "other"] (spD K 3 (tfNaming C)) := by
  refine okD F scNaming rfl fun cdv A' outer s H E hr => ?_
  refine ⟨_, _, (pss_one (ps_ret (pe_ifExp (pt_cmpR op_ne (pe_ix ix_tup (pe_ix ix_list (pe_fld (pv 0) (by rfl)) (pv 1) (fun _ _ => rfl)) pe_int (fun _ _ => rfl)) (pe_ix ix_tup (pe_ix ix_list (pe_fld (pv 0) (by rfl)) (pv 2) (fun _ _ => rfl)) pe_int (fun _ _ => rfl)) (nomark _)) (pe_ix ix_tup (pe_fld (pv 0) (by rfl)) pe_int (fun _ _ => rfl)) pe_int))),
    (ss_ret (se_if (st_test (se_op so_neS (se_op so_ixT (se_op so_ixL (se_fld se_nm) se_nm) se_int) (se_op so_ixT (se_op so_ixL (se_fld se_nm) se_nm) se_int))) (se_op so_ixT (se_fld se_nm) se_int) se_int)), fun ws M R RX hl h => ?_⟩
  obtain ⟨a, dx, A, B, c, i, j, rfl, ⟨hM, hi, hj⟩, h2⟩ := h
  have c1 := MWeighing.cls
  have c2 := MWeighing.n1
  have c3 := MWeighing.n2
  have c4 := MWeighing.n3
  have at1 : atI ((A.map fun x => PyData.tuple [.str x.1, .int (x.2 : Nat)]).map W.d) (i : Int) = some (W.d (.tuple [.str A[i].1, .int (A[i].2 : Nat)])) := atI_nat (by rw [List.getElem?_map, List.getElem?_map, List.getElem?_eq_getElem hi]; rfl)
  have at2 : atI ((B.map fun x => PyData.tuple [.str x.1, .int (x.2 : Nat)]).map W.d) (j : Int) = some (W.d (.tuple [.str B[j].1, .int (B[j].2 : Nat)])) := atI_nat (by rw [List.getElem?_map, List.getElem?_map, List.getElem?_eq_getElem hj]; rfl)
  unfold nam at h2
  rw [List.getElem?_eq_getElem hi, List.getElem?_eq_getElem hj, Option.map_some, Option.map_some] at h2
  simp only [start0, len_c, len_n, map_c, map_n, app_c, app_n, rep_0, rep_s, Nat.reduceAdd, Nat.reduceSub]
  decreasing_trivial_pre_omega
  refine IfB.d (fun e => ?_) (fun e => ?_)
  · rw [if_pos (by rw [e])] at h2
    decreasing_trivial_pre_omega
    exact h2
  · rw [if_neg (fun z => e (Option.some.inj z))] at h2
    decreasing_trivial_pre_omega
    exact h2
/-- one choice: what it costs, and what is left inside -/
structure Cho where
  cost : Nat
  inn : List Sp4
def choD (x : Cho) : PyData := .tuple [.int (x.cost : Nat), .list (x.inn.map spD4)]
/-- where the part numbered n begins -/
def lowOf (A : Lab) (n : Nat) : Nat := ((A[n]?).map (·.2)).getD 0
def chos (A B : Lab) (c : Cst) (s : Sp4) : List Cho := [⟨c.out, [⟨s.a, s.b - 1, s.c, s.d⟩]⟩, ⟨c.into, [⟨s.a, s.b, s.c, s.d - 1⟩]⟩, ⟨nam A B c (s.b - 1) (s.d - 1), [⟨s.a, lowOf A (s.b - 1), s.c, lowOf B (s.d - 1)⟩, ⟨lowOf A (s.b - 1), s.b - 1, lowOf B (s.d - 1), s.d - 1⟩]⟩]
@[reducible] def tfChos (C : Addr) : TF := fun ws M R _ => ∃ (a dx : Addr) (A B : Lab) (c : Cst) (s : Sp4), ws = [.r a, .d (spD4 s)] ∧ (M a = some (.ins C dx (wgF A B c)) ∧ 1 ≤ s.b ∧ s.b ≤ A.length ∧ 1 ≤ s.d ∧ s.d ≤ B.length) ∧ R (.d (.list ((chos A B c s).map choD))) M
abbrev sChos : Stmt := top 34
theorem scChos : FnScope ["weighing", "spans", "a", "b", "c", "d", "low", "other_low"] ["weighing", "spans"] (defScope sChos) := ⟨rfl, rfl, rfl, by decide +kernel, rfl, by decide +kernel, by decide +kernel⟩
theorem ok_chos {f C : Addr} {fd : FuncData} {k j : Nat} (F : Fun K "choices_of" "choices_of" sChos f fd) (MWeighing : WgC K C) (UWeighing_naming : UseM P w K mg base C "naming" ["self", "number", "other"] j (spD K 3 (tfNaming C))) (hj : j ≤ k) (T : Bl mg) : FnOk P w K mg base CX0 (k + 1) f fd ["weighing", "spans"] (spD K 2 (tfChos C)) := by
  refine okD F scChos rfl fun cdv A' outer s H E hr => ?_
  refine ⟨_, _, (pss_cons (ps_asg (pv 1) (pg_tup rfl (pgs_cons (pg_name (i := 2) scChos.nd rfl (.inl rfl)) (pgs_cons (pg_name (i := 3) scChos.nd rfl (.inl rfl)) (pgs_cons (pg_name (i := 4) scChos.nd rfl (.inl rfl)) (pgs_cons (pg_name (i := 5) scChos.nd rfl (.inl rfl)) pgs_nil))))))
    (pss_cons (ps_par (i := 6) (j := 7) (by rfl) scChos.nd rfl rfl (by decide) rfl rfl (pa_cons (pe_ix ix_tup (pe_ix ix_list (pe_fld (pv 0) (by rfl)) (pe_op op_sub (pv 3) pe_int) (fun _ _ => rfl)) pe_int (fun _ _ => rfl)) (pa_cons (pe_ix ix_tup (pe_ix ix_list (pe_fld (pv 0) (by rfl)) (pe_op op_sub (pv 5) pe_int) (fun _ _ => rfl)) pe_int (fun _ _ => rfl)) pa_nil)) (by rfl))
    (pss_one (ps_ret (pe_lst (pa_cons (pe_tup (pa_cons (pe_ix ix_tup (pe_fld (pv 0) (by rfl)) pe_int (fun _ _ => rfl)) (pa_cons (pe_lst (pa_cons (pe_tup (pa_cons (pv 2) (pa_cons (pe_op op_sub (pv 3) pe_int) (pa_cons (pv 4) (pa_cons (pv 5) pa_nil))))) pa_nil)) pa_nil))) (pa_cons (pe_tup (pa_cons (pe_ix ix_tup (pe_fld (pv 0) (by rfl)) pe_int (fun _ _ => rfl)) (pa_cons (pe_lst (pa_cons (pe_tup (pa_cons (pv 2) (pa_cons (pv 3) (pa_cons (pv 4) (pa_cons (pe_op op_sub (pv 5) pe_int) pa_nil))))) pa_nil)) pa_nil))) (pa_cons (pe_tup (pa_cons (pe_meth (E := fun _ _ _ => False) (pv 0) MWeighing.cls UWeighing_naming.hm UWeighing_naming.ok (hr.mono (by omega)) UWeighing_naming.b .nil pass0 (pa_cons (pe_op op_sub (pv 3) pe_int) (pa_cons (pe_op op_sub (pv 5) pe_int) pa_nil))) (pa_cons (pe_lst (pa_cons (pe_tup (pa_cons (pv 2) (pa_cons (pv 6) (pa_cons (pv 4) (pa_cons (pv 7) pa_nil))))) (pa_cons (pe_tup (pa_cons (pv 6) (pa_cons (pe_op op_sub (pv 3) pe_int) (pa_cons (pv 7) (pa_cons (pe_op op_sub (pv 5) pe_int) pa_nil))))) pa_nil))) pa_nil))) pa_nil)))))))),
    (ss_cons (ss_unp sg_tup4 se_nm)
    (ss_cons (ss_par (sa_cons (se_op so_ixT (se_op so_ixL (se_fld se_nm) (se_op so_sub se_nm se_int)) se_int) (sa_cons (se_op so_ixT (se_op so_ixL (se_fld se_nm) (se_op so_sub se_nm se_int)) se_int) sa_nil)))
    (ss_ret (se_lsf (sa_cons (se_tup (sa_cons (se_op so_ixT (se_fld se_nm) se_int) (sa_cons (se_lsf (sa_cons (se_tup (sa_cons se_nm (sa_cons (se_op so_sub se_nm se_int) (sa_cons se_nm (sa_cons se_nm sa_nil))))) sa_nil)) sa_nil))) (sa_cons (se_tup (sa_cons (se_op so_ixT (se_fld se_nm) se_int) (sa_cons (se_lsf (sa_cons (se_tup (sa_cons se_nm (sa_cons se_nm (sa_cons se_nm (sa_cons (se_op so_sub se_nm se_int) sa_nil))))) sa_nil)) sa_nil))) (sa_cons (se_tup (sa_cons (se_meth se_nm (sa_cons (se_op so_sub se_nm se_int) (sa_cons (se_op so_sub se_nm se_int) sa_nil))) (sa_cons (se_lsf (sa_cons (se_tup (sa_cons se_nm (sa_cons se_nm (sa_cons se_nm (sa_cons se_nm sa_nil))))) (sa_cons (se_tup (sa_cons se_nm (sa_cons (se_op so_sub se_nm se_int) (sa_cons se_nm (sa_cons (se_op so_sub se_nm se_int) sa_nil))))) sa_nil))) sa_nil))) sa_nil))))))), fun ws M R RX hl h => ?_⟩
  obtain ⟨a, dx, A, B, c, s4, rfl, ⟨hM, hb, hb2, hd, hd2⟩, h2⟩ := h
  have c1 := MWeighing.cls
  have c2 := MWeighing.n1
  have c3 := MWeighing.n2
  have c4 := MWeighing.n3
  have hi : s4.b - 1 < A.length := by omega
  have hj2 : s4.d - 1 < B.length := by omega
  have e1 : ((s4.b : Nat) : Int) - 1 = ((s4.b - 1 : Nat) : Int) := by omega
  have e2 : ((s4.d : Nat) : Int) - 1 = ((s4.d - 1 : Nat) : Int) := by omega
  have at1 : atI ((A.map fun x => PyData.tuple [.str x.1, .int (x.2 : Nat)]).map W.d) (((s4.b : Nat) : Int) - 1) = some (W.d (.tuple [.str A[s4.b - 1].1, .int (A[s4.b - 1].2 : Nat)])) := by rw [e1]; exact atI_nat (by rw [List.getElem?_map, List.getElem?_map, List.getElem?_eq_getElem hi]; rfl)
  have at2 : atI ((B.map fun x => PyData.tuple [.str x.1, .int (x.2 : Nat)]).map W.d) (((s4.d : Nat) : Int) - 1) = some (W.d (.tuple [.str B[s4.d - 1].1, .int (B[s4.d - 1].2 : Nat)])) := by rw [e2]; exact atI_nat (by rw [List.getElem?_map, List.getElem?_map, List.getElem?_eq_getElem hj2]; rfl)
  have lo1 : lowOf A (s4.b - 1) = A[s4.b - 1].2 := by unfold lowOf; rw [List.getElem?_eq_getElem hi]; rfl
  have lo2 : lowOf B (s4.d - 1) = B[s4.d - 1].2 := by unfold lowOf; rw [List.getElem?_eq_getElem hj2]; rfl
  unfold chos at h2
  rw [lo1, lo2] at h2
  simp only [start0, len_c, len_n, map_c, map_n, app_c, app_n, rep_0, rep_s, Nat.reduceAdd, Nat.reduceSub]
  decreasing_trivial_pre_omega
  dsimp only
  rw [e1, e2]
  refine ⟨a, dx, A, B, c, _, _, rfl, ⟨hM, hi, hj2⟩, ?_⟩
  decreasing_trivial_pre_omega
  dsimp only
  rw [e1, e2]
  exact h2
end
end Tl
set_option Elab.async false
set_option linter.all false
set_option maxRecDepth 100000
set_option maxHeartbeats 4000000
/-! Dicts keyed by tuples of numbers: read while they are walked, walked, made by a comprehension. -/
namespace Tl
open PySem PySem.Spec PyProof.Rows L2
/-! ### there, walked or not -/
def HasU (H : Hp) (a : Addr) (xs : List DU1) : Prop := H a = some (DU a xs) ∨ ∃ od, H a = some (.frz od (DU a xs))
section
variable {X : Cx} {pins : List (Addr × Obj)} {σ : L2.St} {H : Hp} {s : Shared} {a b : Addr} {xs : List DU1} {k : NestedKey} {A : Around} {E : Value → Shared → Prop}
theorem HasU.phi (I : Inv X pins σ H s) (e : HasU H a xs) : phiU a xs s.heap := by
  rcases e with e | ⟨od, e⟩
  · exact DU_get I.hok e
  · exact (show ObjOk X.prog X.w H s.heap a (.frz od (DU a xs)) from I.hok a _ e).2.1
theorem DV_of (I : Inv X pins σ H s) (e : HasU H a xs) (ku : KeysU X.K H a xs) : ∃ ys, Paired RelU xs ys ∧ s.heap.DictOfH (nestedKind X.prog X.w) a ys ∧ ∀ y ∈ ys, noTxt y.1 = true := by
  obtain ⟨ys, o, es, ep, h1, h2, h3, h4, h5⟩ := e.phi I
  refine ⟨ys, h1, ⟨o, es, ep, h2, h3, h4, h5 X.w, fun y hy => ?_, by rw [← Paired.fst h1]; exact ku.nd⟩, fun y hy => ?_⟩
  · obtain ⟨x, hx, r1, r2, _⟩ := Paired.memU h1 y hy
    obtain ⟨q1, q2, _⟩ := ku.ks x hx
    rw [← r1, ← r2]
    exact ⟨q1.is I rfl, q2⟩
  · obtain ⟨x, hx, r1, r2, _⟩ := Paired.memU h1 y hy
    rw [← r1]
    exact (ku.ks x hx).2.2
end
structure IsV (K : PySem.W.Frag) (H : Hp) (x : V) (a : Addr) (xs : List DU1) : Prop where
  e : x = .ref a
  h : HasU H a xs
  k : KeysU K H a xs
/-! ### {k: v for x in ..} -/
section
variable {X : Cx}
/-! ### for k in d -/
/-! ### d[k], d.get(k), d walked or not -/
def tVM (K : PySem.W.Frag) (r : V → List V → Hp → VK → Prop) (to : TE) (t : TA) : TE := fun σ H Q => to σ H fun x H1 => (∃ a xs, IsV K H1 x a xs) ∧ t σ H1 fun ys H2 => r x ys H2 Q
theorem pe_vbm {o e : Expr} {es : List Expr} {to : TE} {t : TA} {name : Str} {apos cpos : Pos} {id : String} {r : V → List V → Hp → VK → Prop} (slot : Slot "dict" name id) (hty : typeOf (.builtin id) = pure (.type "method_descriptor")) (hm : MtR X id r) (ho : PE X o to) (ha : PA X (e :: es) t)
    (hbase : attributeBase o name X.env (eval o X.env) = eval o X.env := by rfl)
    (hfew : ((backTo cpos (starEach (e :: es) X.env)).all (fun x => !x.1) && (backToKw cpos (keywordEach [] X.env)).all (fun x => x.1.isSome)
      && decide ((e :: es).length + ([] : List Keyword).length + (if ([] : List Keyword).isEmpty then 0 else 1) < 30)) = true := by rfl)
    (hline : (apos.endLine == cpos.line) = true := by rfl) (hs : starEach (e :: es) X.env = (false, eval e X.env) :: starEach es X.env := by rfl) (hplain : (backTo cpos (starEach es X.env)).any (·.1) = false := by rfl) :
    PE X (.Call (.Attribute o name apos) (e :: es) [] cpos) (tVM X.K r to t) := by
  refine ⟨fun pins s σ H Q I h => ?_⟩
  refine wpAny_Call_method_late hbase hfew hline rfl (thn (ho.run pins s σ H _ I h) fun v s1 ⟨x, H1, I1, r1, ⟨a, xs, ⟨ex, ea, eu⟩⟩, q1⟩ => ?_)
  subst ex
  obtain ⟨zs, h1, dd, _⟩ := DV_of I1 ea eu
  have hA := ha.run cpos pins s1 σ H1 _ I1 q1
  obtain rfl : v = Value.ref a := r1
  have hob : ∀ b, Value.ref a = .ref b → ∃ ob, s1.heap.get? b = some ob ∧ ob.dict = none := fun b e => by
    cases e
    obtain ⟨ob, _, _, g1, g2, _⟩ := dd
    exact ⟨ob, g1, g2.2.1⟩
  refine ⟨"dict", id, PySem.F.plainAttrs_dict, slot, hty, dd.typeIs, hob, ?_⟩
  rw [hs] at hA ⊢
  refine Calls.callWith_builtin (by show (false || (backTo cpos (starEach es X.env)).any (·.1)) = false; rw [hplain] <;> rfl) (Calls.evalArgs_plain ?_)
  exact thn hA fun us s2 ⟨vs, H2, I2, r2, q2⟩ => hm pins s2 σ H2 (.ref a) vs (.ref a) us Q I2 rfl r2 q2
def rGetV (K : PySem.W.Frag) : V → List V → Hp → VK → Prop := fun x ys H Q => ∃ a b xs k y, IsV K H x a xs ∧ ys = [y] ∧ IsK K H y b k ∧ Q ((findU xs k).getD .non) H
theorem mt_getV (hu : X.A.units + 20 < cLine) : MtR X "dict.get" (rGetV X.K) := by
  intro pins s σ H x ys v us Q I rx rys h
  obtain ⟨a, b, xs, k, y, ⟨ex, ea, eu⟩, rfl, ⟨ey, ek, ed⟩, q1⟩ := h
  subst ex ey
  obtain rfl : v = Value.ref a := rx
  rcases rys with _ | ⟨ry, rt⟩
  cases rt
  rename_i uy
  obtain rfl : uy = Value.ref b := ry
  obtain ⟨zs, h1, dd, hnt⟩ := DV_of I ea eu
  have f := Paired.findU h1 k
  refine get_keyed (knd := nestedKind X.prog X.w) (k := k) (kvs := pairsH zs) (show X.A.units + 1 + 8 < cLine by omega) ⟨ek.is I rfl, ed⟩ eu.sm ⟨zs, dd, rfl⟩ ?_
  rw [valueAt_pairsH]
  refine ⟨_, H, I.tok _, ?_, q1⟩
  cases c : findU xs k with
  | none =>
    rw [c] at f
    cases c2 : (atKey zs k).map (·.2) with
    | none => exact rfl
    | some w => rw [c2] at f; exact f.elim
  | some w =>
    rw [c] at f
    cases c2 : (atKey zs k).map (·.2) with
    | none => rw [c2] at f; exact f.elim
    | some w2 => rw [c2] at f; exact f
end
/-! ### as memory tells -/
def toDT : MO → Option (List (PyData × W))
  | .dT kw => some kw
  | .lkT _ _ kw => some kw
  | _ => none
section
variable {K : PySem.W.Frag} {Wx : WX} {RE : REx}
theorem _root_.Tl.Rl.dV {F H : Hp} {M : Mem} (h : Rl K F H M) {a : Addr} {o : MO} {kw : List (PyData × W)} (e : M a = some o) (eo : toDT o = some kw) : ∃ xs, IsV K H (.ref a) a xs ∧ KeysU K F a xs ∧ xs.map (·.1) = kw.map (fun x => keyN x.1) ∧ (∀ x ∈ kw, keyOk x.1 = true) ∧ RWs K F (xs.map (·.2.2)) (kw.map (·.2)) := by
  cases o with
  | dT kw' =>
    cases eo
    obtain ⟨_, h1, xs, rfl, h2, h3, h4, h5⟩ := h.at_ a _ e
    exact ⟨xs, ⟨rfl, .inl h1, h2.mono h.fh⟩, h2, h3, h4, h5⟩
  | lkT od ys kw' =>
    cases eo
    obtain ⟨_, h1, rfl, h2, h3, h4, h5⟩ := h.at_ a _ e
    exact ⟨ys, ⟨rfl, .inr ⟨_, h1⟩, h2.mono h.fh⟩, h2, h3, h4, h5⟩
  | _ => cases eo
theorem _root_.Tl.Rl.lkT {F H : Hp} {M : Mem} (h : Rl K F H M) {a : Addr} {od : Obj} {xs : List DU1} {kw : List (PyData × W)} (e : M a = some (.lkT od xs kw)) : H a = some (.frz od (DU a xs)) ∧ KeysU K F a xs ∧ xs.map (·.1) = kw.map (fun x => keyN x.1) ∧ (∀ x ∈ kw, keyOk x.1 = true) ∧ RWs K F (xs.map (·.2.2)) (kw.map (·.2)) := by
  obtain ⟨_, h1, rfl, h2⟩ := h.at_ a _ e
  exact ⟨h1, h2⟩
@[reducible] def vmT (f : W → List W → Mem → (W → Mem → Prop) → Prop) (T : TDE) (U : TDA) : TDE := fun ρ M R => T ρ M fun x M1 => gR x fun a => ∃ o, M1 a = some o ∧ gO (toDT o) fun _ => U ρ M1 fun xs M2 => f (.r a) xs M2 R
theorem se_vbm {n : Nat} {r : V → List V → Hp → VK → Prop} {f : W → List W → Mem → (W → Mem → Prop) → Prop} {to : TE} {t : TA} {T : TDE} {U : TDA} (ho : SM K r f) (h1 : SE K Wx RE to T) (h2 : SAn K Wx RE n t U) :
    SE K Wx RE (tVM K r to t) (vmT f T U) := fun F H M σ ρ R Q hr hx hs ht k =>
  h1 F H M σ ρ _ _ hr hx hs ht fun v H1 F1 M1 x r1 g1 rx q1 => by
    obtain ⟨a, rfl, o, hw, q2⟩ := gR_of q1
    obtain ⟨kw, eo, q2⟩ := gO_of q2
    rw [rx.ref]
    obtain ⟨ys, iu, _⟩ := r1.dV hw eo
    refine ⟨⟨a, ys, iu⟩, h2 F1 H1 M1 σ ρ _ _ r1 (hx.mono g1) (hs.mono g1.ff) q2 fun us H2 F2 M2 xs r2 g2 rxs hl q3 => ?_⟩
    exact ho F2 H2 M2 _ us _ xs R Q r2 (.r a) rxs q3 fun w H3 F3 M3 z r3 g3 rz hz => k w H3 F3 M3 z r3 ((g1.trans g2).trans g3) rz hz
/-- d.get(k) -/
@[reducible] def fGetV : W → List W → Mem → (W → Mem → Prop) → Prop := fun x xs M R => gR x fun a => g1 xs fun y => gU y fun k => ∃ o, M a = some o ∧ gO (toDT o) fun kw => R ((valU kw k).getD (.d .none)) M
theorem sm_getV : SM K (rGetV K) fGetV := fun F H M v vs x xs R Q hr rx rxs hf k => by
  obtain ⟨a, rfl, h1⟩ := gR_of hf
  obtain ⟨y, rfl, h2⟩ := g1_of h1
  obtain ⟨u1, rfl, ry⟩ := rxs.one
  obtain ⟨d, b, rfl, rfl, ik, kv, kd, ko, o, e, q⟩ := gU_of hr ry h2
  obtain ⟨kw, eo, q⟩ := gO_of q
  obtain ⟨ys, iu, ku, e1, e3, e2⟩ := hr.dV e eo
  obtain ⟨f1, f2⟩ := find_U d e1 e2
  rw [rx.ref]
  refine ⟨a, b, ys, keyN d, _, iu, rfl, ik, ?_⟩
  cases c : valU kw d with
  | none =>
    rw [f2 c]
    rw [c] at q
    exact k _ H F M _ hr .refl (.d .non) q
  | some w' =>
    obtain ⟨v', h5, h6⟩ := f1 w' c
    rw [h5]
    rw [c] at q
    exact k _ H F M _ hr .refl h6 q
end
/-! ### a comprehension's dict, as memory tells -/
/-! ### <= and > of data -/
end Tl
set_option Elab.async false
set_option linter.all false
set_option maxRecDepth 100000
set_option maxHeartbeats 8000000
namespace Tl
open PySem L2 RZ
local macro_rules
  | `(tactic| decreasing_trivial) => `(tactic| ((with_reducible (conv => whnf)); (repeat ((first | (with_reducible refine exI (by first | exact mset_same | assumption | (rw [mset_ne (by assumption)]; first | exact mset_same | assumption)) ?_) | (with_reducible refine exI2 (by first | exact mset_same | assumption | (rw [mset_ne (by assumption)]; first | exact mset_same | assumption)) ?_) | (with_reducible refine (gO_i lk_one) ?_) | (with_reducible refine (gO_i lk_oth) ?_) | (with_reducible refine (gO_i lk_cst) ?_) | (with_reducible refine gDs_c ?_) | (with_reducible refine gDs_n ?_) | (with_reducible refine gNs_c ?_) | (with_reducible refine gNs_n ?_) | (with_reducible refine gO_i tyAny_lt ?_) | (with_reducible refine gIs_c ?_) | (with_reducible refine gIs_n ?_) | (with_reducible refine gBs_c ?_) | (with_reducible refine gBs_n ?_) | (with_reducible refine gSs_c ?_) | (with_reducible refine gSs_n ?_) | (with_reducible refine gO_i tyIs_int ?_) | (with_reducible refine gO_i tyIs_bool ?_) | (with_reducible refine gO_i tyIs_str ?_) | (with_reducible refine gO_i tyIs_tuple ?_) | (with_reducible refine gO_i tyIs_list ?_) | (with_reducible refine gDs_i ?_) | (with_reducible refine gO_i (Eq.refl _) ?_) | (with_reducible refine gO_i (by assumption) ?_) | (with_reducible refine gO_i at_0 ?_) | (with_reducible refine gO_i at_m0 ?_) | (with_reducible refine gO_i at_1 ?_) | (with_reducible refine gO_i at_m1 ?_) | (with_reducible refine gO_i at_2 ?_) | (with_reducible refine gO_i at_m2 ?_) | (with_reducible refine gO_i at_3 ?_) | (with_reducible refine gO_i at_m3 ?_) | (with_reducible refine gO_i at_4 ?_) | (with_reducible refine gO_i at_m4 ?_) | (with_reducible refine gO_i at_5 ?_) | (with_reducible refine gO_i at_m5 ?_) | (with_reducible refine gO_i at_6 ?_) | (with_reducible refine gO_i at_m6 ?_) | (with_reducible refine gO_i at_7 ?_) | (with_reducible refine gO_i at_m7 ?_) | (with_reducible refine IfB.ngf ?_) | (with_reducible refine IfB.ngt ?_) | (with_reducible refine IfB.not ?_) | (with_reducible refine IfB.nil ?_) | (with_reducible refine IfB.nilT ?_) | (with_reducible refine IfB.f isE_c ?_) | (with_reducible refine IfB.t isE_n ?_) | (with_reducible refine IfB.t ?gha ?_; (case gha => rfl)) | (with_reducible refine IfB.f ?gha ?_; (case gha => rfl)) | (with_reducible refine IfB.t ?gha ?_; (case gha => assumption)) | (with_reducible refine IfB.f ?gha ?_; (case gha => assumption)) | (with_reducible refine IfB.yes (Eq.refl _) ?_) | (with_reducible refine IfB.yes ?gha ?_; (case gha => (first | omega | (simp only [len_c, len_n, List.length_map]; omega)))) | (with_reducible refine IfB.no ?gha ?_; (case gha => (first | omega | (simp only [len_c, len_n, List.length_map]; omega)))) | (with_reducible refine IfB.t ?gha ?_; (case gha => decide +kernel)) | (with_reducible refine IfB.f ?gha ?_; (case gha => decide +kernel))); (with_reducible (conv => whnf))))))
local macro_rules
  | `(tactic| decreasing_trivial_pre_omega) => `(tactic| (decreasing_trivial; (repeat ((first | ((with_reducible refine And.intro ?gha ?_); (case gha => (first | assumption | omega | exact rfl | (exact mset_same) | (exact ⟨_, mset_same⟩) | (exact Exists.intro _ (by first | exact mset_same | assumption | (rw [mset_ne (by assumption)]; first | exact mset_same | assumption))) | (exact sm_of (by omega) (by omega)) | (exact sz1000 (by first | omega | (simp; done) | (simp; omega))) | (exact Or.inl ⟨by decide, by decide⟩) | decide | (simp; done) | (refine ⟨?_, ?_⟩ <;> (first | assumption | omega | exact rfl | (exact mset_same) | (exact ⟨_, mset_same⟩) | (exact Exists.intro _ (by first | exact mset_same | assumption | (rw [mset_ne (by assumption)]; first | exact mset_same | assumption))) | (exact sm_of (by omega) (by omega)) | (exact sz1000 (by first | omega | (simp; done) | (simp; omega))) | (exact Or.inl ⟨by decide, by decide⟩) | decide | (simp; done))) | (refine ⟨?_, ?_, ?_⟩ <;> (first | assumption | omega | exact rfl | (exact mset_same) | (exact ⟨_, mset_same⟩) | (exact Exists.intro _ (by first | exact mset_same | assumption | (rw [mset_ne (by assumption)]; first | exact mset_same | assumption))) | (exact sm_of (by omega) (by omega)) | (exact sz1000 (by first | omega | (simp; done) | (simp; omega))) | (exact Or.inl ⟨by decide, by decide⟩) | decide | (simp; done))) | (refine ⟨?_, ?_, ?_, ?_⟩ <;> (first | assumption | omega | exact rfl | (exact mset_same) | (exact ⟨_, mset_same⟩) | (exact Exists.intro _ (by first | exact mset_same | assumption | (rw [mset_ne (by assumption)]; first | exact mset_same | assumption))) | (exact sm_of (by omega) (by omega)) | (exact sz1000 (by first | omega | (simp; done) | (simp; omega))) | (exact Or.inl ⟨by decide, by decide⟩) | decide | (simp; done)))))) | (with_reducible refine exW (by first | exact mset_same | assumption | (rw [mset_ne (by assumption)]; first | exact mset_same | assumption)) ?_)); decreasing_trivial))))
structure Cst.Ok (c : Cst) : Prop where
  n : c.name ≤ 100
  o : c.out ≤ 100
  i : c.into ≤ 100
/-- what a span is worth, by what is known -/
def wrtW (c : Cst) (kw : List (PyData × W)) (s : Sp4) : W := if s.mt = true then .d (.int ((c.out * (s.b - s.a) + c.into * (s.d - s.c) : Nat))) else (valU kw (spD4 s)).getD (.d .none)
@[reducible] def tfWorth (C : Addr) : TF := fun ws M R _ => ∃ (a dx : Addr) (A B : Lab) (c : Cst) (s : Sp4) (d : Addr) (o : MO) (kw : List (PyData × W)), ws = [.r a, .d (spD4 s), .r d] ∧ (M a = some (.ins C dx (wgF A B c)) ∧ (M d = some o ∧ toDT o = some kw) ∧ c.Ok ∧ s.a ≤ s.b ∧ s.c ≤ s.d ∧ s.b ≤ 1000 ∧ s.d ≤ 1000) ∧ R (wrtW c kw s) M
theorem sp4_dp (s : Sp4) : (spD4 s).depth ≤ 8 := by simp [spD4, PyData.depth, PyData.depthAll]
section
variable {P : Program} {w : World} {K : PySem.W.Frag} {mg : Str → Option Value} {base : Heap}
abbrev sWorth : Stmt := top 35
theorem scWorth : FnScope ["weighing", "spans", "rows", "a", "b", "c", "d"] ["weighing", "spans", "rows"] (defScope sWorth) := ⟨rfl, rfl, rfl, by decide +kernel, rfl, by decide +kernel, by decide +kernel⟩
theorem ok_worth {f C : Addr} {fd : FuncData} {k j : Nat} (F : Fun K "worth_in" "worth_in" sWorth f fd) (MWeighing : WgC K C) (Uis_empty : Use P w K mg base "is_empty" ["spans"] j (spD K 1 tfMt)) (hj : j ≤ k) (T : Bl mg) : FnOk P w K mg base CX0 (k + 1) f fd ["weighing", "spans", "rows"] (spD K 3 (tfWorth C)) := by
  refine okD F scWorth rfl fun cdv A' outer s H E hr => ?_
  refine ⟨_, _, (pss_cons (ps_asg (pv 1) (pg_tup rfl (pgs_cons (pg_name (i := 3) scWorth.nd rfl (.inl rfl)) (pgs_cons (pg_name (i := 4) scWorth.nd rfl (.inl rfl)) (pgs_cons (pg_name (i := 5) scWorth.nd rfl (.inl rfl)) (pgs_cons (pg_name (i := 6) scWorth.nd rfl (.inl rfl)) pgs_nil))))))
    (pss_cons (ps_if (pt_val (pe_call Uis_empty.ok (hr.mono (by omega)) rfl Uis_empty.m Uis_empty.kp Uis_empty.b .nil pass0 (pa_cons (pv 1) pa_nil))) (pss_one (ps_ret (pe_op op_add (pe_op op_mul (pe_ix ix_tup (pe_fld (pv 0) (by rfl)) pe_int (fun _ _ => rfl)) (pe_op op_sub (pv 4) (pv 3))) (pe_op op_mul (pe_ix ix_tup (pe_fld (pv 0) (by rfl)) pe_int (fun _ _ => rfl)) (pe_op op_sub (pv 6) (pv 5)))))) pss_nil)
    (pss_one (ps_ret (pe_vbm PySem.F.slot_dict_get PySem.F.type_dict_get (mt_getV (hu20 hr)) (pv 2) (pa_cons (pv 1) pa_nil)))))),
    (ss_cons (ss_unp sg_tup4 se_nm)
    (ss_cons (ss_if (st_val (se_call (sa_cons se_nm sa_nil))) (ss_ret (se_op so_add (se_op so_mul (se_op so_ixT (se_fld se_nm) se_int) (se_op so_sub se_nm se_nm)) (se_op so_mul (se_op so_ixT (se_fld se_nm) se_int) (se_op so_sub se_nm se_nm)))) ss_nil)
    (ss_ret (se_vbm sm_getV se_nm (sa_cons se_nm sa_nil))))), fun ws M R RX hl h => ?_⟩
  obtain ⟨a, dx, A, B, c, s4, d, o, kw, rfl, ⟨hM, ⟨hD, hDk⟩, hc, h3, h4, h5, h6⟩, h2⟩ := h
  have c1 := MWeighing.cls
  have c2 := MWeighing.n1
  have c3 := MWeighing.n2
  have c4 := MWeighing.n3
  have k1 := hc.o
  have k2 := hc.i
  simp only [start0, len_c, len_n, map_c, map_n, app_c, app_n, rep_0, rep_s, Nat.reduceAdd, Nat.reduceSub]
  decreasing_trivial_pre_omega
  refine ⟨s4, rfl, ?_⟩
  unfold wrtW at h2
  cases e : s4.mt
  · rw [e, if_neg Bool.false_ne_true] at h2
    decreasing_trivial_pre_omega
    refine ⟨o, hD, gO_i hDk ?_⟩
    decreasing_trivial_pre_omega
    exact ⟨⟨rfl, sp4_dp s4⟩, o, hD, gO_i hDk h2⟩
  · rw [e, if_pos rfl, Int.natCast_add, Int.natCast_mul, Int.natCast_mul, Int.ofNat_sub h3, Int.ofNat_sub h4] at h2
    decreasing_trivial_pre_omega
    refine ⟨.inl ⟨by omega, by omega⟩, ?_⟩
    decreasing_trivial_pre_omega
    refine ⟨.inl ⟨by omega, by omega⟩, ?_⟩
    decreasing_trivial_pre_omega
    exact h2
end
end Tl
set_option Elab.async false
set_option linter.all false
set_option maxRecDepth 100000
set_option maxHeartbeats 4000000
namespace Tl
open PySem L2
/-- over a row of tuples of two, two names -/
theorem forT2 {α : Type} {i j : Nat} {g h : α → PyData} {keep : Mem → Prop} {body : TDS} {D : EndD} {xs : List α} {ρ : EnvD} {M : Mem} (Pv : Nat → EnvD → Mem → Prop) (h0 : Pv 0 ρ M) (hk : ∀ i ρ M, i ≤ xs.length → Pv i ρ M → keep M)
    (hs : ∀ n a ρ M (N : EnvD → Mem → Prop), xs[n]? = some a → Pv n ρ M → (∀ ρ' M', Pv (n + 1) ρ' M' → N ρ' M') → body ⟨N, D.rt, D.nx, N⟩ (put (put ρ i (some (.d (g a)))) j (some (.d (h a)))) M) (hd : ∀ ρ M, Pv xs.length ρ M → D.nx ρ M) : forGo (bTup2 i j) keep body D (rows1 (xs.map fun a => W.d (.tuple [g a, h a]))) ρ M := by
  have el : (rows1 (xs.map fun a => W.d (.tuple [g a, h a]))).length = xs.length := by rw [rows1_map, List.length_map]
  refine for_ix Pv h0 (fun i ρ M hi p => hk i ρ M (by rw [← el]; exact hi) p) (fun n row ρ M N hrow p hN => ?_) (fun ρ M p => hd ρ M (by rw [← el]; exact p))
  rw [rows1_map, List.getElem?_map] at hrow
  obtain ⟨a, ha, e⟩ := Option.map_eq_some_iff.mp hrow
  subst e
  exact hs n a ρ M N ha p hN
end Tl
set_option Elab.async false
set_option linter.all false
set_option maxRecDepth 100000
set_option maxHeartbeats 8000000
namespace Tl
open PySem L2 RZ
local macro_rules
  | `(tactic| decreasing_trivial) => `(tactic| ((with_reducible (conv => whnf)); (repeat ((first | (with_reducible refine exI (by first | exact mset_same | assumption | (rw [mset_ne (by assumption)]; first | exact mset_same | assumption)) ?_) | (with_reducible refine exI2 (by first | exact mset_same | assumption | (rw [mset_ne (by assumption)]; first | exact mset_same | assumption)) ?_) | (with_reducible refine (gO_i lk_one) ?_) | (with_reducible refine (gO_i lk_oth) ?_) | (with_reducible refine (gO_i lk_cst) ?_) | (with_reducible refine gDs_c ?_) | (with_reducible refine gDs_n ?_) | (with_reducible refine gNs_c ?_) | (with_reducible refine gNs_n ?_) | (with_reducible refine gO_i tyAny_lt ?_) | (with_reducible refine gIs_c ?_) | (with_reducible refine gIs_n ?_) | (with_reducible refine gBs_c ?_) | (with_reducible refine gBs_n ?_) | (with_reducible refine gSs_c ?_) | (with_reducible refine gSs_n ?_) | (with_reducible refine gO_i tyIs_int ?_) | (with_reducible refine gO_i tyIs_bool ?_) | (with_reducible refine gO_i tyIs_str ?_) | (with_reducible refine gO_i tyIs_tuple ?_) | (with_reducible refine gO_i tyIs_list ?_) | (with_reducible refine gDs_i ?_) | (with_reducible refine gO_i (Eq.refl _) ?_) | (with_reducible refine gO_i (by assumption) ?_) | (with_reducible refine gO_i at_0 ?_) | (with_reducible refine gO_i at_m0 ?_) | (with_reducible refine gO_i at_1 ?_) | (with_reducible refine gO_i at_m1 ?_) | (with_reducible refine gO_i at_2 ?_) | (with_reducible refine gO_i at_m2 ?_) | (with_reducible refine gO_i at_3 ?_) | (with_reducible refine gO_i at_m3 ?_) | (with_reducible refine gO_i at_4 ?_) | (with_reducible refine gO_i at_m4 ?_) | (with_reducible refine gO_i at_5 ?_) | (with_reducible refine gO_i at_m5 ?_) | (with_reducible refine gO_i at_6 ?_) | (with_reducible refine gO_i at_m6 ?_) | (with_reducible refine gO_i at_7 ?_) | (with_reducible refine gO_i at_m7 ?_) | (with_reducible refine IfB.ngf ?_) | (with_reducible refine IfB.ngt ?_) | (with_reducible refine IfB.not ?_) | (with_reducible refine IfB.nil ?_) | (with_reducible refine IfB.nilT ?_) | (with_reducible refine IfB.f isE_c ?_) | (with_reducible refine IfB.t isE_n ?_) | (with_reducible refine IfB.t ?gha ?_; (case gha => rfl)) | (with_reducible refine IfB.f ?gha ?_; (case gha => rfl)) | (with_reducible refine IfB.t ?gha ?_; (case gha => assumption)) | (with_reducible refine IfB.f ?gha ?_; (case gha => assumption)) | (with_reducible refine IfB.yes (Eq.refl _) ?_) | (with_reducible refine IfB.yes ?gha ?_; (case gha => (first | omega | (simp only [len_c, len_n, List.length_map]; omega)))) | (with_reducible refine IfB.no ?gha ?_; (case gha => (first | omega | (simp only [len_c, len_n, List.length_map]; omega)))) | (with_reducible refine IfB.t ?gha ?_; (case gha => decide +kernel)) | (with_reducible refine IfB.f ?gha ?_; (case gha => decide +kernel))); (with_reducible (conv => whnf))))))
local macro_rules
  | `(tactic| decreasing_trivial_pre_omega) => `(tactic| (decreasing_trivial; (repeat ((first | ((with_reducible refine And.intro ?gha ?_); (case gha => (first | assumption | omega | exact rfl | (exact mset_same) | (exact ⟨_, mset_same⟩) | (exact Exists.intro _ (by first | exact mset_same | assumption | (rw [mset_ne (by assumption)]; first | exact mset_same | assumption))) | (exact sm_of (by omega) (by omega)) | (exact sz1000 (by first | omega | (simp; done) | (simp; omega))) | (exact Or.inl ⟨by decide, by decide⟩) | decide | (simp; done) | (refine ⟨?_, ?_⟩ <;> (first | assumption | omega | exact rfl | (exact mset_same) | (exact ⟨_, mset_same⟩) | (exact Exists.intro _ (by first | exact mset_same | assumption | (rw [mset_ne (by assumption)]; first | exact mset_same | assumption))) | (exact sm_of (by omega) (by omega)) | (exact sz1000 (by first | omega | (simp; done) | (simp; omega))) | (exact Or.inl ⟨by decide, by decide⟩) | decide | (simp; done))) | (refine ⟨?_, ?_, ?_⟩ <;> (first | assumption | omega | exact rfl | (exact mset_same) | (exact ⟨_, mset_same⟩) | (exact Exists.intro _ (by first | exact mset_same | assumption | (rw [mset_ne (by assumption)]; first | exact mset_same | assumption))) | (exact sm_of (by omega) (by omega)) | (exact sz1000 (by first | omega | (simp; done) | (simp; omega))) | (exact Or.inl ⟨by decide, by decide⟩) | decide | (simp; done))) | (refine ⟨?_, ?_, ?_, ?_⟩ <;> (first | assumption | omega | exact rfl | (exact mset_same) | (exact ⟨_, mset_same⟩) | (exact Exists.intro _ (by first | exact mset_same | assumption | (rw [mset_ne (by assumption)]; first | exact mset_same | assumption))) | (exact sm_of (by omega) (by omega)) | (exact sz1000 (by first | omega | (simp; done) | (simp; omega))) | (exact Or.inl ⟨by decide, by decide⟩) | decide | (simp; done)))))) | (with_reducible refine exW (by first | exact mset_same | assumption | (rw [mset_ne (by assumption)]; first | exact mset_same | assumption)) ?_)); decreasing_trivial))))
/-- rows whose worths are numbers -/
def NumR (kw : List (PyData × W)) : Prop := ∀ s w, valU kw (spD4 s) = some w → ∃ i : Int, w = .d (.int i)
def wN (c : Cst) (kw : List (PyData × W)) (s : Sp4) : Option Int := if s.mt = true then some ((c.out * (s.b - s.a) + c.into * (s.d - s.c) : Nat) : Int) else match valU kw (spD4 s) with
  | some (.d (.int i)) => some i
  | _ => none
def optI : Option Int → PyData
  | some n => .int n
  | none => .none
theorem wrt_wN {c : Cst} {kw : List (PyData × W)} {s : Sp4} (h : NumR kw) : wrtW c kw s = .d (optI (wN c kw s)) := by
  unfold wrtW wN
  cases e : s.mt
  · rw [if_neg Bool.false_ne_true, if_neg Bool.false_ne_true]
    cases v : valU kw (spD4 s) with
    | none => rfl
    | some w =>
      obtain ⟨n, rfl⟩ := h s w v
      rfl
  · rw [if_pos rfl, if_pos rfl]
    rfl
def sumN (f : Sp4 → Option Int) : List Sp4 → Option Int
  | [] => some 0
  | s :: r => (f s).bind fun x => (sumN f r).map (x + ·)
def sumsN (f : Sp4 → Option Int) : List Cho → Option (List Int)
  | [] => some []
  | x :: r => (sumN f x.inn).bind fun v => (sumsN f r).map fun l => ((x.cost : Int) + v) :: l
/-- the least of the choices, where all is known -/
def lstD (A B : Lab) (c : Cst) (kw : List (PyData × W)) (s : Sp4) : PyData := match sumsN (wN c kw) (chos A B c s) with
  | some l => .int (mnI l)
  | none => .none
theorem sumN_some {f : Sp4 → Option Int} : ∀ {l : List Sp4} {n : Int}, sumN f l = some n → ∃ ns : List Int, l.map (fun s => optI (f s)) = ns.map PyData.int ∧ ns.sum = n
  | [], n, h => by cases h; exact ⟨[], rfl, rfl⟩
  | s :: r, n, h => by
    rw [sumN] at h
    obtain ⟨x, h1, h⟩ := Option.bind_eq_some_iff.mp h
    obtain ⟨y, h2, rfl⟩ := Option.map_eq_some_iff.mp h
    obtain ⟨ns, e1, e2⟩ := sumN_some h2
    exact ⟨x :: ns, by rw [List.map_cons, List.map_cons, e1, h1]; rfl, by rw [List.sum_cons, e2]⟩
theorem any_none {f : Sp4 → Option Int} : ∀ {l : List Sp4}, ((l.map fun s => optI (f s)).any fun e => eqP e .none) = (sumN f l).isNone
  | [] => rfl
  | s :: r => by
    rw [List.map_cons, List.any_cons, any_none, sumN]
    cases f s with
    | none => rfl
    | some x =>
      rw [Option.bind_some]
      cases sumN f r <;> rfl
theorem flat_opt {f : Sp4 → Option Int} (l : List Sp4) : (l.map fun s => optI (f s)).all flatP = true := by
  rw [List.all_map, List.all_eq_true]
  intro s _
  show flatP (optI (f s)) = true
  cases f s <;> rfl
theorem sumsN_take {f : Sp4 → Option Int} : ∀ {xs : List Cho} {i : Nat} {x : Cho} {ns : List Int}, xs[i]? = some x → sumsN f (xs.take i) = some ns → (∀ v, sumN f x.inn = some v → sumsN f (xs.take (i + 1)) = some (ns ++ [(x.cost : Int) + v])) ∧ (sumN f x.inn = none → sumsN f xs = none)
  | [], i, x, ns, h, _ => by cases h
  | y :: r, 0, x, ns, h, h2 => by
    cases h
    cases h2
    refine ⟨fun v hv => ?_, fun hn => ?_⟩
    · show sumsN f [y] = _
      rw [sumsN, hv]
      rfl
    · rw [sumsN, hn]
      rfl
  | y :: r, i + 1, x, ns, h, h2 => by
    rw [List.take_succ_cons, sumsN] at h2
    obtain ⟨v, h3, h4⟩ := Option.bind_eq_some_iff.mp h2
    obtain ⟨ms, h5, rfl⟩ := Option.map_eq_some_iff.mp h4
    obtain ⟨q1, q2⟩ := sumsN_take (xs := r) (i := i) (x := x) h h5
    refine ⟨fun u hu => ?_, fun hn => ?_⟩
    · rw [List.take_succ_cons, sumsN, h3, q1 u hu]
      rfl
    · rw [sumsN, h3, q2 hn]
      rfl
@[reducible] def tfLeast (C : Addr) : TF := fun ws M R _ => ∃ (a dx : Addr) (A B : Lab) (c : Cst) (s : Sp4) (d : Addr) (o : MO) (kw : List (PyData × W)), ws = [.r a, .d (spD4 s), .r d] ∧ (M a = some (.ins C dx (wgF A B c)) ∧ (M d = some o ∧ toDT o = some kw) ∧ c.Ok ∧ NumR kw ∧ (s.a < s.b ∧ s.c < s.d ∧ s.b ≤ A.length ∧ s.d ≤ B.length ∧ A.length ≤ 1000 ∧ B.length ≤ 1000) ∧ (s.a ≤ lowOf A (s.b - 1) ∧ lowOf A (s.b - 1) ≤ s.b - 1 ∧ s.c ≤ lowOf B (s.d - 1) ∧ lowOf B (s.d - 1) ≤ s.d - 1)) ∧ R (.d (lstD A B c kw s)) M
section
variable {P : Program} {w : World} {K : PySem.W.Frag} {mg : Str → Option Value} {base : Heap}
abbrev sLeast : Stmt := top 36
theorem scLeast : FnScope ["weighing", "spans", "rows", "sums", "cost", "inner", "worths", "pair"] ["weighing", "spans", "rows"] (defScope sLeast) := ⟨rfl, rfl, rfl, by decide +kernel, rfl, by decide +kernel, by decide +kernel⟩
theorem ok_least {f C : Addr} {fd : FuncData} {k j : Nat} (F : Fun K "least_by" "least_by" sLeast f fd) (MWeighing : WgC K C) (Uchoices_of : Use P w K mg base "choices_of" ["weighing", "spans"] j (spD K 2 (tfChos C))) (Uworth_in : Use P w K mg base "worth_in" ["weighing", "spans", "rows"] j (spD K 3 (tfWorth C))) (hj : j ≤ k) (T : Bl mg) (mS : mg "sum" = none) (mMin : mg "min" = none) : FnOk P w K mg base CX0 (k + 1) f fd ["weighing", "spans", "rows"] (spD K 3 (tfLeast C)) := by
  refine okDL F scLeast rfl fun cdv A' outer s H E hr => ?_
  refine ⟨_, _, (pss_cons (ps_set (i := 3) scLeast.nd rfl (.inl rfl) (pe_lst pa_nil))
    (pss_cons (ps_for PassesOwn.never rfl (pi_list (pe_call Uchoices_of.ok (hr.mono (by omega)) rfl Uchoices_of.m Uchoices_of.kp Uchoices_of.b .nil pass0 (pa_cons (pv 0) (pa_cons (pv 1) pa_nil)))) (pg_tup rfl (pgs_cons (pg_name (i := 4) scLeast.nd rfl (.inl rfl)) (pgs_cons (pg_name (i := 5) scLeast.nd rfl (.inl rfl)) pgs_nil))) (pss_cons (ps_setLc (i := 6) (own := [("pair", 7)]) (g := gName 7) (tt := tYes) (by rfl) scLeast.nd rfl rfl (sw_true rfl rfl rfl (by decide +kernel)) (pi_list (pv 5)) (blkOk_by (N := ["weighing", "spans", "rows", "sums", "cost", "inner", "worths", "pair"]) (sc := defScope sLeast) (own := [("pair", 7)]) (by decide +kernel)) (fun _ _ _ _ _ => pg_name (i := 7) scLeast.nd rfl (Or.inl rfl)) (fun _ _ _ _ _ => pts_nil) (fun _ _ _ _ _ => (pe_call Uworth_in.ok (hr.mono (by omega)) rfl Uworth_in.m Uworth_in.kp Uworth_in.b .nil pass0 (pa_cons (pv 0) (pa_cons (pv 7) (pa_cons (pv 2) pa_nil))))))
      (pss_cons (ps_if (pt_cmpR op_in_seq pe_non (pv 6) (by rfl)) (pss_one (ps_ret pe_non)) pss_nil)
      (pss_one (ps_expr (pe_bm PySem.F.plainAttrs_list PySem.F.slot_list_append PySem.F.type_list_append mt_append (pv 3) (pa_cons (pe_op op_add (pv 4) (pe_callB (cr_sum rfl) (by rfl) mS PyProof.Rows.boot_sum (pa_cons (pv 6) pa_nil))) pa_nil)))))))
    (pss_one (ps_ret (pe_callB (cr_min rfl) (by rfl) mMin PyProof.Rows.boot_min (pa_cons (pv 3) pa_nil)))))),
    (ss_cons (ss_set (se_lst sa_nil))
    (ss_cons (ss_for (si_lst (se_call (sa_cons se_nm (sa_cons se_nm sa_nil)))) sg_tup2 (ss_cons (ss_set (se_lcF (si_lst se_nm) sg_name st_yes (se_call (sa_cons se_nm (sa_cons se_nm (sa_cons se_nm sa_nil))))))
      (ss_cons (ss_if (st_test (se_op so_inQ se_non se_nm)) (ss_ret se_non) ss_nil)
      (ss_drop (se_bmL sm_append se_nm (sa_cons (se_op so_add se_nm (se_cb sc_sum (sa_cons se_nm sa_nil))) sa_nil))))))
    (ss_ret (se_cb sc_min (sa_cons se_nm sa_nil))))), fun ws M R RX hl h => ?_⟩
  obtain ⟨a, dx, A, B, c, s4, d, o, kw, rfl, ⟨hM, ⟨hD, hDk⟩, hc, hn, ⟨h3, h4, h5, h6, h7, h8⟩, g1, g2, g3, g4⟩, h2⟩ := h
  simp only [start0, len_c, len_n, map_c, map_n, app_c, app_n, rep_0, rep_s, Nat.reduceAdd, Nat.reduceSub]
  decreasing_trivial_pre_omega
  intro p hp
  decreasing_trivial_pre_omega
  refine ⟨a, dx, A, B, c, s4, rfl, ⟨by rw [mset_ne (fun z => by rw [← z, hM] at hp; cases hp)]; exact hM, by omega, by omega, by omega, by omega⟩, ?_⟩
  have dp : d ≠ p := fun z => by rw [z, hp] at hD; cases hD
  have ap : a ≠ p := fun z => by rw [z, hp] at hM; cases hM
  have fA : ∀ o, mset M p o a = some (.ins C dx (wgF A B c)) := fun o => by rw [mset_ne ap]; exact hM
  have fD : ∀ u, mset M p u d = some o := fun u => by rw [mset_ne dp]; exact hD
  have hin : ∀ x ∈ chos A B c s4, x.inn.length ≤ 2 := by
    unfold chos
    exact all1 (by simp) (all1 (by simp) (all1 (by simp) all0))
  have hok : ∀ x ∈ chos A B c s4, ∀ s ∈ x.inn, s.a ≤ s.b ∧ s.c ≤ s.d ∧ s.b ≤ 1000 ∧ s.d ≤ 1000 := by
    unfold chos
    refine all1 (all1 ⟨?_, ?_, ?_, ?_⟩ all0) (all1 (all1 ⟨?_, ?_, ?_, ?_⟩ all0) (all1 (all1 ⟨?_, ?_, ?_, ?_⟩ (all1 ⟨?_, ?_, ?_, ?_⟩ all0)) all0)) <;> dsimp only <;> omega
  decreasing_trivial_pre_omega
  rw [show ((chos A B c s4).map choD).map W.d = (chos A B c s4).map fun x => W.d (.tuple [.int (x.cost : Nat), .list (x.inn.map spD4)]) by rw [List.map_map]; rfl]
  refine forT2 (g := fun x : Cho => PyData.int (x.cost : Nat)) (h := fun x : Cho => PyData.list (x.inn.map spD4)) (fun i ρ' M' => ∃ (nl : List Int), (sumsN (wN c kw) ((chos A B c s4).take i) = some nl ∧ nl.length = i) ∧ M' = mset M p (.lst (nl.map fun n => .d (.int n))) ∧ ∃ y4 y5 y6, ρ' = [some (.r a), some (.d (spD4 s4)), some (.r d), some (.r p), y4, y5, y6, none]) ⟨[], ⟨rfl, rfl⟩, rfl, none, none, none, rfl⟩ (fun _ _ _ _ _ => trivial) (fun i x ρ' M' N hx q hN => ?_) (fun ρ' M' q => ?_)
  · obtain ⟨nl, ⟨hs, hl⟩, rfl, y4, y5, y6, rfl⟩ := q
    obtain ⟨t1, t2⟩ := sumsN_take hx hs
    have hxo := hok x (List.mem_of_getElem? hx)
    have lx : ∀ (v : W) (o : MO), R v M → lax R v (mset M p o) := fun v o h => ⟨M, fun b u e => by rw [mset_ne (fun z => by rw [z, hp] at e; cases e)]; exact e, h⟩
    have ef := any_none (f := wN c kw) (l := x.inn)
    have fl := flat_opt (f := wN c kw) x.inn
    have fn0 : flatP .none = true := rfl
    decreasing_trivial_pre_omega
    rw [show (x.inn.map spD4).map W.d = x.inn.map fun s => W.d (spD4 s) by rw [List.map_map]; rfl]
    refine lc1F (k := fun _ => True) (b := bName 7) (f := fun s => W.d (spD4 s)) (fun s => optI (wN c kw s)) trivial (fun s hm Rk q => ?_) (sz1000 (by have : x.inn.length ≤ 2 := hin x (List.mem_of_getElem? hx); omega)) ?_
    · decreasing_trivial_pre_omega
      refine ⟨a, dx, A, B, c, s, d, o, kw, rfl, ⟨fA _, ⟨fD _, hDk⟩, hc, hxo s hm⟩, ?_⟩
      rw [wrt_wN hn]
      exact q
    · dsimp only
      cases hv : sumN (wN c kw) x.inn with
      | none =>
        rw [hv] at ef
        have h9 := t2 hv
        unfold lstD at h2
        rw [h9] at h2
        decreasing_trivial_pre_omega
        rw [ef]
        refine IfB.t rfl ?_
        decreasing_trivial_pre_omega
        exact lx _ _ h2
      | some v =>
        rw [hv] at ef
        have h9 := t1 v hv
        obtain ⟨ns, e1, e2⟩ := sumN_some hv
        have e3 : (x.inn.map fun s => optI (wN c kw s)) = ns.map PyData.int := e1
        have e4 : ns.sum = v := e2
        decreasing_trivial_pre_omega
        rw [ef]
        refine IfB.f rfl ?_
        decreasing_trivial_pre_omega
        rw [e3]
        refine gIs_ints ?_
        rw [e4]
        decreasing_trivial_pre_omega
        rw [mset_mset]
        have hi3 : i < 3 := by
          obtain ⟨z, _⟩ := List.getElem?_eq_some_iff.mp hx
          exact z
        refine ⟨by rw [List.length_map, hl]; have := sizeLine_eq; omega, ?_⟩
        refine hN _ _ ⟨_, ⟨h9, by rw [List.length_append, hl]; rfl⟩, ?_, _, _, _, rfl⟩
        congr 2
        rw [List.map_append]
        dsimp only
        congr 1
  · obtain ⟨nl, ⟨hs, hl⟩, rfl, y4, y5, y6, rfl⟩ := q
    rw [List.take_length] at hs
    unfold lstD at h2
    rw [hs] at h2
    decreasing_trivial_pre_omega
    rw [gIs_map (fun n : Int => n)]
    refine ⟨by rw [List.length_map, hl]; show 0 < 3; omega, M, fun b u e => ?_, by rw [List.map_id']; exact h2⟩
    rw [mset_ne (fun z => by rw [z, hp] at e; cases e)]
    exact e
end
end Tl
set_option Elab.async false
set_option linter.all false
set_option maxRecDepth 100000
set_option maxHeartbeats 8000000
set_option Elab.async false
set_option linter.all false
set_option maxRecDepth 100000
set_option maxHeartbeats 8000000
namespace Tl
open PySem L2 RZ
def Sp4.l (s : Sp4) : List Nat := [s.a, s.b, s.c, s.d]
end Tl
set_option Elab.async false
set_option linter.all false
set_option maxRecDepth 100000
set_option maxHeartbeats 8000000
namespace Tl
open PySem L2 RZ
local macro_rules
  | `(tactic| decreasing_trivial) => `(tactic| ((with_reducible (conv => whnf)); (repeat ((first | (with_reducible refine exI (by first | exact mset_same | assumption | (rw [mset_ne (by assumption)]; first | exact mset_same | assumption)) ?_) | (with_reducible refine exI2 (by first | exact mset_same | assumption | (rw [mset_ne (by assumption)]; first | exact mset_same | assumption)) ?_) | (with_reducible refine gPut_n ?_) | (with_reducible refine gPut_0 ?_) | (with_reducible refine (gPut_s (by decide +kernel)) ?_) | (with_reducible refine (gO_i lk_one) ?_) | (with_reducible refine (gO_i lk_oth) ?_) | (with_reducible refine (gO_i lk_cst) ?_) | (with_reducible refine gDs_c ?_) | (with_reducible refine gDs_n ?_) | (with_reducible refine gNs_c ?_) | (with_reducible refine gNs_n ?_) | (with_reducible refine gO_i tyAny_lt ?_) | (with_reducible refine gIs_c ?_) | (with_reducible refine gIs_n ?_) | (with_reducible refine gBs_c ?_) | (with_reducible refine gBs_n ?_) | (with_reducible refine gSs_c ?_) | (with_reducible refine gSs_n ?_) | (with_reducible refine gO_i tyIs_int ?_) | (with_reducible refine gO_i tyIs_bool ?_) | (with_reducible refine gO_i tyIs_str ?_) | (with_reducible refine gO_i tyIs_tuple ?_) | (with_reducible refine gO_i tyIs_list ?_) | (with_reducible refine gDs_i ?_) | (with_reducible refine gO_i (Eq.refl _) ?_) | (with_reducible refine gO_i (by assumption) ?_) | (with_reducible refine gO_i at_0 ?_) | (with_reducible refine gO_i at_m0 ?_) | (with_reducible refine gO_i at_1 ?_) | (with_reducible refine gO_i at_m1 ?_) | (with_reducible refine gO_i at_2 ?_) | (with_reducible refine gO_i at_m2 ?_) | (with_reducible refine gO_i at_3 ?_) | (with_reducible refine gO_i at_m3 ?_) | (with_reducible refine gO_i at_4 ?_) | (with_reducible refine gO_i at_m4 ?_) | (with_reducible refine gO_i at_5 ?_) | (with_reducible refine gO_i at_m5 ?_) | (with_reducible refine gO_i at_6 ?_) | (with_reducible refine gO_i at_m6 ?_) | (with_reducible refine gO_i at_7 ?_) | (with_reducible refine gO_i at_m7 ?_) | (with_reducible refine IfB.ngf ?_) | (with_reducible refine IfB.ngt ?_) | (with_reducible refine IfB.not ?_) | (with_reducible refine IfB.nil ?_) | (with_reducible refine IfB.nilT ?_) | (with_reducible refine IfB.f isE_c ?_) | (with_reducible refine IfB.t isE_n ?_) | (with_reducible refine IfB.t ?gha ?_; (case gha => rfl)) | (with_reducible refine IfB.f ?gha ?_; (case gha => rfl)) | (with_reducible refine IfB.t ?gha ?_; (case gha => assumption)) | (with_reducible refine IfB.f ?gha ?_; (case gha => assumption)) | (with_reducible refine IfB.yes (Eq.refl _) ?_) | (with_reducible refine IfB.yes ?gha ?_; (case gha => (first | omega | (simp only [len_c, len_n, List.length_map]; omega)))) | (with_reducible refine IfB.no ?gha ?_; (case gha => (first | omega | (simp only [len_c, len_n, List.length_map]; omega)))) | (with_reducible refine IfB.t ?gha ?_; (case gha => decide +kernel)) | (with_reducible refine IfB.f ?gha ?_; (case gha => decide +kernel))); (with_reducible (conv => whnf))))))
local macro_rules
  | `(tactic| decreasing_trivial_pre_omega) => `(tactic| (decreasing_trivial; (repeat ((first | ((with_reducible refine And.intro ?gha ?_); (case gha => (first | assumption | omega | exact rfl | (exact mset_same) | (exact ⟨_, mset_same⟩) | (exact Exists.intro _ (by first | exact mset_same | assumption | (rw [mset_ne (by assumption)]; first | exact mset_same | assumption))) | (exact sm_of (by omega) (by omega)) | (exact sz1000 (by first | omega | (simp; done) | (simp; omega))) | (exact Or.inl ⟨by decide, by decide⟩) | decide | (simp; done) | (refine ⟨?_, ?_⟩ <;> (first | assumption | omega | exact rfl | (exact mset_same) | (exact ⟨_, mset_same⟩) | (exact Exists.intro _ (by first | exact mset_same | assumption | (rw [mset_ne (by assumption)]; first | exact mset_same | assumption))) | (exact sm_of (by omega) (by omega)) | (exact sz1000 (by first | omega | (simp; done) | (simp; omega))) | (exact Or.inl ⟨by decide, by decide⟩) | decide | (simp; done))) | (refine ⟨?_, ?_, ?_⟩ <;> (first | assumption | omega | exact rfl | (exact mset_same) | (exact ⟨_, mset_same⟩) | (exact Exists.intro _ (by first | exact mset_same | assumption | (rw [mset_ne (by assumption)]; first | exact mset_same | assumption))) | (exact sm_of (by omega) (by omega)) | (exact sz1000 (by first | omega | (simp; done) | (simp; omega))) | (exact Or.inl ⟨by decide, by decide⟩) | decide | (simp; done))) | (refine ⟨?_, ?_, ?_, ?_⟩ <;> (first | assumption | omega | exact rfl | (exact mset_same) | (exact ⟨_, mset_same⟩) | (exact Exists.intro _ (by first | exact mset_same | assumption | (rw [mset_ne (by assumption)]; first | exact mset_same | assumption))) | (exact sm_of (by omega) (by omega)) | (exact sz1000 (by first | omega | (simp; done) | (simp; omega))) | (exact Or.inl ⟨by decide, by decide⟩) | decide | (simp; done)))))) | (with_reducible refine exW (by first | exact mset_same | assumption | (rw [mset_ne (by assumption)]; first | exact mset_same | assumption)) ?_)); decreasing_trivial))))
def strOf : PyData → Str
  | .str s => s
  | _ => ⟨#[]⟩
/-- the labels of a tree -/
def labOf (d : PyData) : Lab := (wk d [] 0).map fun x => (strOf x.2.1, x.2.2)
theorem wk_get {n : Nat} {d : PyData} (ht : TrT n d) {i : Nat} {x : Wk} (h : (wk d [] 0)[i]? = some x) : x.2.1 = .str (strOf x.2.1) ∧ x.2.2 ≤ i := by
  obtain ⟨w1, w2⟩ := wk_ok [] 0 ht
  have hl : (wk d [] 0).length = (plb d).length := by rw [← List.length_map (f := (·.1)) (as := wk d [] 0), w1, List.length_map]
  have hi := (List.getElem?_eq_some_iff.mp h).1
  obtain ⟨e, he, e1, e2, ks', ee⟩ := w2 i _ x (List.getElem?_eq_getElem (by omega)) h
  obtain ⟨t1, _⟩ := sub_tr ht he
  refine ⟨?_, by omega⟩
  rw [ee] at t1
  cases hn : n - ((plb d)[i]'(by omega)).length with
  | zero => rw [hn] at t1; exact t1.elim
  | succ m =>
    rw [hn] at t1
    obtain ⟨s, ks, e3, _⟩ := t1
    injection e3 with e3
    injection e3 with e3 e4
    rw [e3]
    rfl
theorem lab_D {n : Nat} {d : PyData} (ht : TrT n d) : (wk d [] 0).map lbl = (labOf d).map fun x => PyData.tuple [.str x.1, .int (x.2 : Nat)] := by
  unfold labOf
  rw [List.map_map]
  refine List.map_congr_left fun x hx => ?_
  obtain ⟨i, hi⟩ := List.getElem?_of_mem hx
  show PyData.tuple [x.2.1, .int (x.2.2 : Int)] = PyData.tuple [.str (strOf x.2.1), .int (x.2.2 : Nat)]
  rw [← (wk_get ht hi).1]
theorem lab_len {n : Nat} {d : PyData} (ht : TrT n d) : (labOf d).length = nn d := by
  unfold labOf
  rw [List.length_map]
  exact wk_len [] 0 ht
@[reducible] def tfWgIn (C : Addr) : TF := fun ws M R _ => ∃ (a dx : Addr) (d1 d2 : PyData) (c : Cst), ws = [.r a, .d d1, .d d2, .d (cstD c)] ∧ (M a = some (.ins C dx []) ∧ TrT 12 d1 ∧ nn d1 ≤ 60 ∧ TrT 12 d2 ∧ nn d2 ≤ 60) ∧ R (.d .none) (mset M a (.ins C dx (wgF (labOf d1) (labOf d2) c)))
section
variable {P : Program} {w : World} {K : PySem.W.Frag} {mg : Str → Option Value} {base : Heap}
abbrev sWgIn : Stmt := inClsN (top 31) 0
theorem scWgIn : FnScope ["self", "one", "other", "costs"] ["self", "one", "other", "costs"] (defScope sWgIn) := ⟨rfl, rfl, rfl, by decide +kernel, rfl, by decide +kernel, by decide +kernel⟩
theorem ok_wgIn {f C : Addr} {fd : FuncData} {k j : Nat} (F : Fun K "__init__" "Weighing.__init__" sWgIn f fd) (MWeighing : WgC K C) (Ulabels_of : Use P w K mg base "labels_of" ["tree"] j (spD K 1 tfLabels)) (hj : j ≤ k) (T : Bl mg) : FnOk P w K mg base (L2.CX P w) (k + 1) f fd ["self", "one", "other", "costs"] (spD K 4 (tfWgIn C)) := by
  refine okDX F scWgIn rfl fun cdv A outer s H E hr => ?_
  refine ⟨_, fun RE => _, (pss_cons (ps_fld (pv 0) (PE.nox (pe_call Ulabels_of.ok (hr.mono (by omega)) rfl Ulabels_of.m Ulabels_of.kp Ulabels_of.b .nil pass0 (pa_cons (pv 1) pa_nil))) (by rfl))
    (pss_cons (ps_fld (pv 0) (PE.nox (pe_call Ulabels_of.ok (hr.mono (by omega)) rfl Ulabels_of.m Ulabels_of.kp Ulabels_of.b .nil pass0 (pa_cons (pv 2) pa_nil))) (by rfl))
    (pss_one (ps_fld (pv 0) (pv 3) (by rfl))))), fun RE => (ss_cons (ss_fld (se_call (sa_cons se_nm sa_nil)) se_nm)
    (ss_cons (ss_fld (se_call (sa_cons se_nm sa_nil)) se_nm)
    (ss_fld se_nm se_nm))), fun ws M R RX hl h => ?_⟩
  obtain ⟨a, dx, d1, d2, c, rfl, ⟨hM, t1, n1, t2, n2⟩, h2⟩ := h
  have c1 := MWeighing.cls
  have c2 := MWeighing.n1
  have c3 := MWeighing.n2
  have c4 := MWeighing.n3
  simp only [start0, len_c, len_n, map_c, map_n, app_c, app_n, rep_0, rep_s, Nat.reduceAdd, Nat.reduceSub]
  decreasing_trivial_pre_omega
  rw [mset_mset, mset_mset, lab_D t1, lab_D t2]
  exact h2
def Cst.In (c : Cst) : Prop := 1 ≤ c.name ∧ c.name ≤ 100 ∧ 1 ≤ c.out ∧ c.out ≤ 100 ∧ 1 ≤ c.into ∧ c.into ≤ 100
theorem costs_cst {c : Cst} (h : c.In) : costsB (cstD c) = true := by
  obtain ⟨h1, h2, h3, h4, h5, h6⟩ := h
  simp only [cstD, costsB, List.length_cons, List.length_nil, List.all_cons, List.all_nil, isCost, Bool.and_true, Bool.and_eq_true, decide_eq_true_eq]
  refine ⟨trivial, ⟨?_, ?_⟩, ⟨?_, ?_⟩, ?_, ?_⟩ <;> omega
end
end Tl
set_option Elab.async false
set_option linter.all false
set_option maxRecDepth 100000
set_option maxHeartbeats 4000000
/-! sorted(xs, key=len), xs tuples: stably by their lengths. -/
set_option Elab.async false
set_option linter.all false
set_option maxRecDepth 100000
set_option maxHeartbeats 4000000
/-! A lambda made by a def: what stands behind its making; a lambda of one name called on a tuple, at the heap alone. -/
namespace Tl
open PySem PySem.Spec L2 PyProof.Rows
open PySem.W (KeyPure)
/-- the table at P has a code object more, or none -/
def TabStep (H : Hp) (P : Addr) (q : Str) (H1 : Hp) : Prop := H1 = H ∨ ∃ (ps more : Array Value) (b : Addr), H P = some (.tbl ps) ∧ H b = none ∧ TriplesOk (ps ++ more).toList ∧
  (∀ (z : Pos) (x : Value), codeAmong z (ps ++ more).toList = some x → codeAmong z ps.toList = some x ∨ x = .ref b) ∧ H1 = upd (upd H P (.tbl (ps ++ more))) b (LamX.CodeO b q)
theorem TabStep.ext {H H1 : Hp} {P : Addr} {q : Str} (t : TabStep H P q H1) {a : Addr} {u : HO} (h : H a = some u) (n : ∀ ps, u ≠ .tbl ps) : H1 a = some u := by
  rcases t with rfl | ⟨ps, more, b, h1, h2, _, _, rfl⟩
  · exact h
  · rw [upd_ne (ne_of_none h h2), upd_ne (fun z => n ps (Option.some.inj (h.symm.trans (by rw [z]; exact h1))))]
    exact h
theorem TabStep.none {H H1 : Hp} {P : Addr} {q : Str} (t : TabStep H P q H1) {a : Addr} (h : H1 a = none) : H a = none := by
  rcases t with rfl | ⟨ps, more, b, h1, h2, _, _, rfl⟩
  · exact h
  · by_cases e : a = b
    · rw [e]; exact h2
    · rw [upd_ne e] at h
      by_cases e2 : a = P
      · rw [e2, upd_same] at h; cases h
      · rw [upd_ne e2] at h; exact h
theorem TabStep.sqL {K : PySem.W.Frag} {H H1 : Hp} {P : Addr} {q : Str} (t : TabStep H P q H1) {a : Addr} {xs : List V} (h : SqL K H a xs) : SqL K H1 a xs := by
  rcases h with h | h
  · rcases h with h | ⟨o, h⟩
    · exact .inl (.inl (t.ext h fun ps z => by cases z))
    · exact .inl (.inr ⟨o, t.ext h fun ps z => by cases z⟩)
  · exact .inr h
section
variable {X : Cx} {pins : List (Addr × Obj)} {σ : L2.St} {H : Hp} {s : Shared}
/-- the lambda is made -/
theorem lam_make3 {c P : Addr} {q : Str} {params : Arguments} {body : Expr} {scope : Scope} {pos : Pos} {E : Value → Shared → Prop} {Q : Value → Shared → Prop} (I : Inv X pins σ H s) (TB : LamX.TabB X.base X.mg c P) (cd : X.env.code = .ref c) (eq : X.env.qual ++ "<lambda>" = q)
    (hT : LamX.TabS H P q) (df : defaultsOf params X.env = ([], [])) (fr : ∀ y ∈ scope.names, y.2 = .free → ∃ c, X.env.cells.lookup y.1 = some c)
    (go : ∀ (f b : Addr) (pm ctv : Value) (H1 : Hp) (s1 : Shared), Inv X pins σ H1 s1 → TabStep H P q H1 → s1.heap.get? f = some (PySem.W.kla_obj "<lambda>" q params body scope (cloFrom X.env.cells scope.names []) pm b ctv) → H1 f = none → f ∉ frs X.stack → H1 b = some (LamX.CodeO b q) → Q (.ref f) s1) :
    wpAny (model X.prog X.w) X.A (eval (.Lambda params body scope pos) X.env) Q E s := by
  subst eq
  obtain ⟨ps, e1, ht, ha⟩ := hT
  have fl : ∀ f, s.heap.objs.size ≤ f → f ∉ frs X.stack := fun f hf z => by
    rcases List.mem_cons.mp (I.stkSub f z) with e | e
    · rw [e] at hf; exact absurd I.lt (Nat.not_lt.mpr hf)
    · exact absurd e (I.nofs hf)
  have hP : s.heap.get? P = some { cls := .none, data := .fields ps } := I.hok P _ e1
  have bm := TB.bm.keeps I.bk
  refine PySem.W.kla_eval df ?_
  rcases hc : codeAmong pos ps.toList with _ | cv
  · refine PySem.W.kla_makeFunction (mg := X.mg) (c := c) (P := P) (ps := ps) (closure_ok fr) I.ok.glob (I.mod.glob.keeps I.bk) cd (TB.code.keeps I.bk) hP ht hc TB.gP bm fun b ctv g tk hx hge hlt hrec htb => ?_
    obtain ⟨b2, oc, vs, t, eb, hoc, hd, hv⟩ := hrec
    cases eb
    have nb : H b = none := I.hok.fresh hge
    have z0 : s.heap.objs.size ≤ g.objs.size := Nat.le_trans hge (Nat.le_of_lt hlt)
    have J := LamX.inv_table (t' := tk) (more := #[rawInt pos.line, rawInt pos.col, .ref b]) (h' := g.push (PySem.W.kla_obj "<lambda>" (X.env.qual ++ "<lambda>") params body scope (cloFrom X.env.cells scope.names []) ((X.mg "__name__").getD .none) b ctv)) I e1
      (fun a o ne e => Heap.get?_push_of_some _ (hx a o ne e)) (Heap.get?_push_of_some _ htb) hge ⟨oc, vs, t, Heap.get?_push_of_some _ hoc, hd, hv⟩
    have eL : (ps ++ #[rawInt pos.line, rawInt pos.col, .ref b]).toList = ps.toList ++ [rawInt pos.line, rawInt pos.col, .ref b] := by simp
    refine go g.objs.size b _ ctv _ _ J (.inr ⟨ps, _, b, e1, nb, by rw [eL]; exact PySem.TriplesOk_snoc _ _ _ _ ht, fun z x hz => ?_, rfl⟩) (Heap.get?_push_size _ rfl) ?_ (fl _ z0) upd_same
    · rw [eL] at hz
      exact LamX.among_app _ ht hz
    · rw [upd_ne (Nat.ne_of_gt hlt), upd_ne (Nat.ne_of_gt (Nat.lt_of_lt_of_le (Heap.lt_size hP) z0))]
      exact I.hok.fresh z0
  · obtain ⟨b, rfl, hco⟩ := ha pos cv hc
    refine PySem.W.kla_makeFunctionHit (mg := X.mg) (c := c) (P := P) (ps := ps) (closure_ok fr) I.ok.glob (I.mod.glob.keeps I.bk) cd (TB.code.keeps I.bk) hP ht hc bm fun ctv g tk hx z0 => ?_
    exact go g.objs.size b _ ctv H _ (I.kept fun a o e => Heap.get?_push_of_some _ (hx a o e)) (.inl rfl) (Heap.get?_push_size _ rfl) (I.hok.fresh z0) (fl _ z0) hco
end
section
variable {prog : Program} {w : World} {A : Around} {s : Shared}
/-- a lambda of one name called: its body run in its own frame -/
theorem lam_call1 {f b : Addr} {q x : Str} {params : Arguments} {body : Expr} {scope : Scope} {pm ctv v : Value} {R : Value → Shared → Prop} (hroom : A.depth < recursionLimit) (ho : s.heap.get? f = some (PySem.W.kla_obj "<lambda>" q params body scope [] pm b ctv)) (hc : s.heap.CodeRec (.ref b) q) (nl : s.heap.NoLimit)
    (hk : scope.kind = .function) (hco : scope.isCoroutine = false) (hgen : scope.isGenerator = false) (hl : scope.names.lookup x = some .local) (hn : ∀ y ∈ scope.names, y.2 ≠ .cell)
    (hb : bindArgs (PySem.W.kla_fn "<lambda>" q params body scope [] pm (.ref b) ctv) ⟨[v], []⟩ = pure [(x, v)])
    (go : ∀ (g : Heap) (tk : Nat), (∀ a o, s.heap.get? a = some o → g.get? a = some o) → g.Ns s.heap.objs.size (fun y => [(x, v)].reverse.lookup y) →
      wpAny (model prog w) (A.deeper (PySem.W.envX q scope s.heap.objs.size f (.ref b) [])) (eval body (PySem.W.envX q scope s.heap.objs.size f (.ref b) [])) R (fun _ _ => False) { s with heap := g, toks := tk }) :
    wpAny (model prog w) A (call (.ref f) [v]) R (fun _ _ => False) s := by
  refine wpAny_call ?_
  refine PySem.W.kla_callFunE hroom ho rfl hco hgen rfl hc ?_
  rw [hb]
  refine wpAny_pure (wpAny_newFunctionEnv hn (fun y hy => ?_) (fun g hns hsb => ⟨nl.fresh _ hsb, ?_⟩) hk)
  · rcases List.mem_cons.mp hy with e | e
    · rw [e]; exact hl
    · cases e
  · refine PySem.W.kla_codeExpr (wpAny_mono (go g _ (fun a o e => hsb.extBut a o (Nat.ne_of_lt (Heap.lt_size e)) (Heap.get?_push_of_some _ e)) hns) (fun u s2 h => h) fun _ _ h => h.elim)
end
end Tl
set_option Elab.async false
set_option linter.all false
set_option maxRecDepth 100000
set_option maxHeartbeats 4000000
/-! Two lambdas over pairs (number, path): p[1] + (i,) and (len(p[1]), p[1]). -/
namespace Tl
open PySem PySem.Spec L2 PyProof.Rows
open PySem.W (KeyPure)
/-- the pair (number, path) and what its path holds -/
structure PairAt (h : Heap) (v : Value) (ds : List PyData) : Prop where
  ex : ∃ (a c : Addr) (n : Value) (its : List Value), v = .ref a ∧ IsTup h a [n, .ref c].toArray ∧ IsTup h c its.toArray ∧ ReadsAll h its ds []
theorem isTup_keep {h g : Heap} (k : ∀ a o, h.get? a = some o → g.get? a = some o) {a : Addr} {xs : Array Value} (t : IsTup h a xs) : IsTup g a xs := by
  obtain ⟨o, h1, h2, n, h3⟩ := t
  exact ⟨o, k _ _ h1, h2, n, h3⟩
theorem PairAt.keep {h g : Heap} (k : ∀ a o, h.get? a = some o → g.get? a = some o) {v : Value} {ds : List PyData} (p : PairAt h v ds) : PairAt g v ds := by
  obtain ⟨a, c, n, its, h1, h2, h3, h4⟩ := p.ex
  exact ⟨a, c, n, its, h1, isTup_keep k h2, isTup_keep k h3, PyProof.Rows.ReadsAll.keeps k h4⟩
end Tl
set_option Elab.async false
set_option linter.all false
set_option maxRecDepth 100000
set_option maxHeartbeats 4000000
/-! sorted(xs, key=lambda p: ..), xs pairs (number, path). -/
namespace Tl
open PySem PySem.Spec L2 PyProof.Rows
open PySem.W (KeyPure AllAlike Sortable dataLe dataLt SortsAt EachIs keyToks)
theorem TabStep.sqT {K : PySem.W.Frag} {H H1 : Hp} {P : Addr} {q : Str} (t : TabStep H P q H1) {a : Addr} {xs : List V} (h : SqT K H a xs) : SqT K H1 a xs := by
  rcases h with h | h
  · rcases h with h | ⟨o, h⟩
    · exact .inl (.inl (t.ext h fun ps z => by cases z))
    · exact .inl (.inr ⟨o, t.ext h fun ps z => by cases z⟩)
  · exact .inr h
mutual
theorem TabStep.dp {K : PySem.W.Frag} {H H1 : Hp} {P : Addr} {q : Str} (t : TabStep H P q H1) : ∀ (d : PyData) (v : V), Dp K H v d → Dp K H1 v d
  | .none, _, h => by cases h; exact .non
  | .bool b, _, h => by cases h; exact .bl b
  | .int i, _, h => by cases h; exact .int i
  | .str x, _, h => by cases h; exact .str x
  | .list ds, _, h => by
    cases h with
    | lst hs ha => exact .lst (t.sqL hs) (TabStep.dps t ds _ ha)
  | .tuple ds, _, h => by
    cases h with
    | tup hs ha => exact .tup (t.sqT hs) (TabStep.dps t ds _ ha)
  | .dict _, _, h => by cases h
theorem TabStep.dps {K : PySem.W.Frag} {H H1 : Hp} {P : Addr} {q : Str} (t : TabStep H P q H1) : ∀ (ds : List PyData) (vs : List V), DpAll K H vs ds → DpAll K H1 vs ds
  | [], _, h => by cases h; exact .nil
  | d :: ds, _, h => by
    cases h with
    | cons h1 h2 => exact .cons (TabStep.dp t d _ h1) (TabStep.dps t ds _ h2)
end
/-- what is asked of a lambda's names -/
structure LamN (x : Str) (scope : Scope) : Prop where
  kind : scope.kind = .function
  co : scope.isCoroutine = false
  gen : scope.isGenerator = false
  loc : scope.names.lookup x = some .local
  cel : ∀ y ∈ scope.names, y.2 ≠ .cell
  fre : ∀ y ∈ scope.names, y.2 ≠ .free
theorem cloFrom_nil {cells : List (Str × Addr)} : ∀ {names : List (Str × NameKind)} {acc : List (Str × Addr)}, (∀ y ∈ names, y.2 ≠ .free) → cloFrom cells names acc = acc
  | [], _, _ => rfl
  | y :: r, acc, h => by
    have h1 := h y (List.mem_cons_self ..)
    have ih := cloFrom_nil (cells := cells) (names := r) (acc := acc) fun z hz => h z (List.mem_cons_of_mem _ hz)
    obtain ⟨n, k⟩ := y
    cases k <;> first | exact absurd rfl h1 | (unfold cloFrom; exact ih) | (simp only [cloFrom]; exact ih)
/-- the table grows, all else stays -/
theorem rl_tab {K : PySem.W.Frag} {F H H1 : Hp} {M : Mem} {P : Addr} {q : Str} (hr : Rl K F H M) (hp : M P = some (.tab q)) (t : TabStep H P q H1) : ∃ F1, Rl K F1 H1 M ∧ Gr F H M F1 H1 M := by
  rcases t with rfl | ⟨ps, more, b, e1, e2, e3, e4, rfl⟩
  · exact ⟨F, hr, .refl⟩
  obtain ⟨u, u1, ps0, u2, u3, u4⟩ := hr.at_ P _ hp
  subst u2
  rw [e1] at u1
  cases u1
  have fb : F b = none := hr.fh.free e2
  have mb : M b = none := hr.new e2
  have fp : F P = none := hr.mf P _ hp
  have pb : P ≠ b := fun z => by rw [z, e2] at e1; cases e1
  have ff : Same F (upd F b (LamX.CodeO b q)) := same_new fb
  refine ⟨upd F b (LamX.CodeO b q), ⟨fun c u h => ?_, fun a o h => ?_, fun a o h => ?_⟩, ⟨ff, fun c u h n => ?_, fun c u h n f => ?_⟩⟩
  · by_cases z : c = b
    · subst z
      rw [upd_same] at h
      rw [upd_same]
      exact h
    · rw [upd_ne z] at h
      rw [upd_ne z, upd_ne (fun y => by rw [y, fp] at h; cases h)]
      exact hr.fh c u h
  · rw [upd_ne (fun z => by rw [z, mb] at h; cases h)]
    exact hr.mf a o h
  · have ab : a ≠ b := fun z => by rw [z, mb] at h; cases h
    by_cases z : a = P
    · subst z
      rw [hp] at h
      cases h
      refine ⟨_, by rw [upd_ne ab, upd_same], _, rfl, e3, fun y x hx => ?_⟩
      rcases e4 y x hx with h2 | h2
      · obtain ⟨d, d1, d2⟩ := u4 y x h2
        exact ⟨d, d1, ff _ _ d2⟩
      · exact ⟨b, h2, upd_same⟩
    · rw [upd_ne ab, upd_ne z]
      obtain ⟨u, g1, g2⟩ := hr.at_ a o h
      exact ⟨u, g1, g2.mono ff⟩
  · rw [upd_ne (ne_of_none h e2), upd_ne (fun z => by rw [z, hp] at n; cases n)]
    exact ⟨h, n⟩
  · rw [upd_ne (ne_of_none h e2)]
    exact f
theorem rl_tabS {K : PySem.W.Frag} {F H : Hp} {M : Mem} {P : Addr} {q : Str} (hr : Rl K F H M) (hp : M P = some (.tab q)) : LamX.TabS H P q := by
  obtain ⟨u, u1, ps, u2, u3, u4⟩ := hr.at_ P _ hp
  subst u2
  refine ⟨ps, u1, u3, fun y x hx => ?_⟩
  obtain ⟨b, b1, b2⟩ := u4 y x hx
  exact ⟨b, b1, hr.fh _ _ b2⟩
end Tl
set_option Elab.async false
set_option linter.all false
set_option maxRecDepth 100000
set_option maxHeartbeats 4000000
/-! Orders of a tree's places: sorted by keys, and as the walks give them. -/
namespace Tl
open PySem L2
open PySem.W (dataLe dataLt rowLt dataLt_tuple dataLt_cons dataLt_int)
theorem ltN_tot : ∀ a b : List Nat, a ≠ b → ltN a b = true ∨ ltN b a = true
  | [], [], h => absurd rfl h
  | [], _ :: _, _ => .inl rfl
  | _ :: _, [], _ => .inr rfl
  | x :: a, y :: b, h => by
    rw [ltN, ltN]
    by_cases e : x = y
    · subst e
      rw [if_pos rfl, if_pos rfl]
      exact ltN_tot a b fun z => h (by rw [z])
    · rw [if_neg e, if_neg fun z => e z.symm]
      simp
      omega
/-- a strict order of keys -/
structure So {κ : Type} (lt : κ → κ → Bool) : Prop where
  irr : ∀ a, lt a a = false
  tr : ∀ {a b c}, lt a b = true → lt b c = true → lt a c = true
  tot : ∀ a b, a ≠ b → lt a b = true ∨ lt b a = true
theorem So.asy {κ : Type} {lt : κ → κ → Bool} (s : So lt) {a b : κ} (h : lt a b = true) : lt b a = false := by
  cases c : lt b a with
  | false => rfl
  | true =>
    have := s.tr h c
    rw [s.irr] at this
    cases this
section
variable {κ α : Type} {lt : κ → κ → Bool}
theorem So.ext (s : So lt) : ∀ {a b : List κ}, a.Pairwise (fun x y => lt x y = true) → b.Pairwise (fun x y => lt x y = true) → (∀ x, x ∈ a ↔ x ∈ b) → a = b
  | [], [], _, _, _ => rfl
  | [], y :: b, _, _, h => absurd ((h y).mpr (.head _)) List.not_mem_nil
  | x :: a, [], _, _, h => absurd ((h x).mp (.head _)) List.not_mem_nil
  | x :: a, y :: b, ha, hb, h => by
    rw [List.pairwise_cons] at ha hb
    have e : x = y := by
      rcases List.mem_cons.mp ((h x).mp (.head _)) with e | e
      · exact e
      · rcases List.mem_cons.mp ((h y).mpr (.head _)) with e2 | e2
        · exact e2.symm
        · have h1 := s.asy (ha.1 y e2)
          rw [hb.1 x e] at h1
          cases h1
    subst e
    have nin : ∀ {l : List κ}, (∀ z ∈ l, lt x z = true) → x ∉ l := fun hl z => by
      have := hl x z
      rw [s.irr] at this
      cases this
    rw [s.ext ha.2 hb.2 fun z => ⟨fun hz => ?_, fun hz => ?_⟩]
    · rcases List.mem_cons.mp ((h z).mp (.tail _ hz)) with e | e
      · rw [e] at hz; exact absurd hz (nin ha.1)
      · exact e
    · rcases List.mem_cons.mp ((h z).mpr (.tail _ hz)) with e | e
      · rw [e] at hz; exact absurd hz (nin hb.1)
      · exact e
/-- not behind, by a key -/
def leK (lt : κ → κ → Bool) (k : α → κ) (x y : α) : Bool := !lt (k y) (k x)
theorem So.le_tr (s : So lt) (k : α → κ) (x y z : α) (h1 : leK lt k x y = true) (h2 : leK lt k y z = true) : leK lt k x z = true := by
  unfold leK at *
  cases c : lt (k z) (k x) with
  | false => rfl
  | true =>
    by_cases e : k y = k z
    · rw [e, c] at h1; cases h1
    · rcases s.tot _ _ e with h | h
      · rw [s.tr h c] at h1; cases h1
      · rw [h] at h2; cases h2
theorem So.le_tot (s : So lt) (k : α → κ) (x y : α) : (leK lt k x y || leK lt k y x) = true := by
  unfold leK
  cases c : lt (k y) (k x) with
  | false => rfl
  | true => rw [s.asy c]; rfl
/-- sorted by keys that all differ: strictly rising -/
theorem So.sorted (s : So lt) (k : α → κ) {l : List α} (hn : (l.map k).Nodup) : ((l.mergeSort (leK lt k)).map k).Pairwise (fun x y => lt x y = true) := by
  have h1 := List.pairwise_mergeSort (le := leK lt k) (s.le_tr k) (s.le_tot k) l
  have h2 : ((l.mergeSort (leK lt k)).map k).Nodup := ((List.mergeSort_perm l (leK lt k)).map k).nodup_iff.mpr hn
  rw [List.pairwise_map]
  have h3 := List.pairwise_map.mp h2
  refine (h1.and h3).imp fun {a b} h => ?_
  obtain ⟨ha, hb⟩ := h
  rcases s.tot _ _ hb with h | h
  · exact h
  · unfold leK at ha
    rw [h] at ha
    cases ha
end
/-! by the walk behind -/
mutual
theorem plb_perm : ∀ {n : Nat} {d : PyData}, TrT n d → (plb d).Perm (plc d)
  | 0, _, h => h.elim
  | n + 1, d, h => by
    obtain ⟨s, ks, rfl, _, hk⟩ := h
    rw [plb_node, plc_node]
    exact (List.perm_append_singleton _ _).trans ((plbAll_perm 0 hk).cons _)
theorem plbAll_perm : ∀ {n : Nat} {ks : List PyData} (j : Nat), (∀ k ∈ ks, TrT n k) → (plbAll j ks).Perm (plcAll j ks)
  | _, [], _, _ => by rw [plbAll, plcAll]
  | n, k :: ks, j, h => by
    rw [plbAll, plcAll]
    exact ((plb_perm (h k (.head _))).map _).append (plbAll_perm (j + 1) fun x hx => h x (.tail _ hx))
end
/-! by levels -/
end Tl
namespace Tl
open PySem PySem.Spec L2 PyProof.Rows
open PySem.W (KeyPure dataLe dataLt rowLt dataLt_tuple dataLt_cons dataLt_int alike alikeAll)
/-! the same, as data -/
/-! the orders -/
theorem plc_nodup {n : Nat} {d : PyData} (h : TrT n d) : (plc d).Nodup := (plc_up h).imp fun {a b} z e => by rw [e, ltN_irr] at z; cases z
/-! what the lambdas give -/
end Tl
set_option Elab.async false
set_option linter.all false
set_option maxRecDepth 100000
set_option maxHeartbeats 8000000
namespace Tl
open PySem L2 RZ
theorem Sp4.l_inj {s t : Sp4} (h : s.l = t.l) : s = t := by
  obtain ⟨a, b, c, d⟩ := s
  obtain ⟨a', b', c', d'⟩ := t
  simp only [Sp4.l, List.cons.injEq, and_true] at h
  obtain ⟨rfl, rfl, rfl, rfl⟩ := h
  rfl
instance : DecidableEq Sp4 := fun s t => decidable_of_iff (s.l = t.l) ⟨Sp4.l_inj, fun h => by rw [h]⟩
theorem keyN_sp {s t : Sp4} : keyN (spD4 s) = keyN (spD4 t) ↔ s = t :=
  ⟨fun h => Sp4.l_inj (pathD_inj (keyN_inj (spD4 s) (spD4 t) rfl rfl h)), fun h => by rw [h]⟩
/-- rows, by their spans -/
abbrev Rws := List (Sp4 × Int)
def kwL (rs : Rws) : List (PyData × W) := rs.map fun r => (spD4 r.1, W.d (.int r.2))
def look (rs : Rws) (s : Sp4) : Option Int := (rs.find? fun r => decide (r.1 = s)).map (·.2)
theorem valU_L (s : Sp4) : ∀ rs : Rws, valU (kwL rs) (spD4 s) = (look rs s).map fun v => W.d (.int v)
  | [] => rfl
  | r :: rs => by
    have ih := valU_L s rs
    unfold valU look kwL at ih ⊢
    rw [List.map_cons]
    by_cases e : r.1 = s
    · rw [List.find?_cons_of_pos (by simpa using keyN_sp.mpr e), List.find?_cons_of_pos (by simpa using e)]
      rfl
    · rw [List.find?_cons_of_neg (by simpa using fun z => e (keyN_sp.mp z)), List.find?_cons_of_neg (by simpa using e)]
      exact ih
theorem numR_L (rs : Rws) : NumR (kwL rs) := by
  intro s w h
  rw [valU_L] at h
  obtain ⟨v, _, rfl⟩ := Option.map_eq_some_iff.mp h
  exact ⟨v, rfl⟩
def topsOf (A B : Lab) : Sp4 := ⟨0, A.length - 1, 0, B.length - 1⟩
end Tl
set_option Elab.async false
set_option linter.all false
set_option maxRecDepth 100000
set_option maxHeartbeats 4000000
/-! Walks behind: the numbers where parts begin lie within each other. -/
namespace Tl
open PySem L2
def NsL (m : Nat) (l : List Nat) : Prop := ∀ (j x : Nat), l[j]? = some x → (m ≤ x ∧ x ≤ m + j) ∧ ∀ i y : Nat, i < j → x ≤ m + i → l[i]? = some y → x ≤ y
theorem NsL.nil {m : Nat} : NsL m [] := fun j x h => by simp at h
theorem NsL.app {m : Nat} {a b : List Nat} (h1 : NsL m a) (h2 : NsL (m + a.length) b) : NsL m (a ++ b) := by
  intro j x h
  by_cases c : j < a.length
  · rw [List.getElem?_append_left c] at h
    obtain ⟨p1, p2⟩ := h1 j x h
    refine ⟨p1, fun i y hi hx hy => p2 i y hi hx ?_⟩
    rw [List.getElem?_append_left (by omega)] at hy
    exact hy
  · rw [List.getElem?_append_right (by omega)] at h
    obtain ⟨⟨p1, p2⟩, p3⟩ := h2 _ x h
    refine ⟨⟨by omega, by omega⟩, fun i y hi hx hy => ?_⟩
    rw [List.getElem?_append_right (by omega)] at hy
    exact p3 (i - a.length) y (by omega) (by omega) hy
theorem NsL.snoc {m : Nat} {a : List Nat} (h : NsL m a) : NsL m (a ++ [m]) := by
  intro j x hx
  by_cases c : j < a.length
  · rw [List.getElem?_append_left c] at hx
    obtain ⟨p1, p2⟩ := h j x hx
    refine ⟨p1, fun i y hi hx2 hy => p2 i y hi hx2 ?_⟩
    rw [List.getElem?_append_left (by omega)] at hy
    exact hy
  · rw [List.getElem?_append_right (by omega)] at hx
    have e : j - a.length = 0 ∧ x = m := by
      cases q : j - a.length with
      | zero => rw [q] at hx; cases hx; exact ⟨rfl, rfl⟩
      | succ n => rw [q] at hx; simp at hx
    obtain ⟨e1, rfl⟩ := e
    refine ⟨⟨Nat.le_refl _, by omega⟩, fun i y hi hx2 hy => ?_⟩
    rw [List.getElem?_append_left (by omega)] at hy
    exact (h i y hy).1.1
theorem wk_cnt {n : Nat} {d : PyData} (q : List Nat) (m : Nat) (ht : TrT n d) : (wk d q m).length = nn d := by rw [← plb_len ht, ← List.length_map (f := (·.1)) (as := wk d q m), (wk_ok q m ht).1, List.length_map]
theorem wk_ns : ∀ (n : Nat) (d : PyData) (q : List Nat) (m : Nat), TrT n d → NsL m ((wk d q m).map (·.2.2))
  | 0, _, _, _, h => h.elim
  | n + 1, d, q, m, h => by
    obtain ⟨s, ks, rfl, _, hk⟩ := h
    rw [wk_node, List.map_append]
    refine NsL.snoc (m := m) ?_
    have all : ∀ (ks : List PyData), (∀ k ∈ ks, TrT n k) → ∀ j m : Nat, NsL m ((wkAll ks q j m).map (·.2.2)) := by
      intro ks
      induction ks with
      | nil => intro _ j m; rw [wkAll]; exact NsL.nil
      | cons k ks ih =>
        intro hk j m
        rw [wkAll, List.map_append]
        refine NsL.app (wk_ns n k _ m (hk k (.head _))) ?_
        rw [List.length_map, wk_cnt _ _ (hk k (.head _))]
        exact ih (fun x hx => hk x (.tail _ hx)) (j + 1) (m + nn k)
    exact all ks hk 0 m
end Tl
set_option Elab.async false
set_option linter.all false
set_option maxRecDepth 100000
set_option maxHeartbeats 8000000
namespace Tl
open PySem L2 RZ
/-- parts lie within parts -/
def Nst (A : Lab) : Prop := ∀ (j : Nat) (x : Str × Nat), A[j]? = some x → x.2 ≤ j ∧ ∀ (i : Nat) (y : Str × Nat), i < j → x.2 ≤ i → A[i]? = some y → x.2 ≤ y.2
def SpOk (A : Lab) (a b : Nat) : Prop := a ≤ b ∧ b ≤ A.length ∧ ∀ (i : Nat) (y : Str × Nat), a ≤ i → i < b → A[i]? = some y → a ≤ y.2
theorem sp_pre {A : Lab} {a b : Nat} (h : SpOk A a b) (hl : a < b) : SpOk A a (b - 1) := ⟨by have := h.1; omega, by have := h.2.1; omega, fun i y h1 h2 h3 => h.2.2 i y h1 (by omega) h3⟩
theorem sp_low {A : Lab} {a b : Nat} (hn : Nst A) (h : SpOk A a b) (hl : a < b) : SpOk A a (lowOf A (b - 1)) ∧ SpOk A (lowOf A (b - 1)) (b - 1) ∧ lowOf A (b - 1) ≤ b - 1 ∧ a ≤ lowOf A (b - 1) := by
  obtain ⟨h1, h2, h3⟩ := h
  have hb : b - 1 < A.length := by omega
  have e : A[b - 1]? = some A[b - 1] := List.getElem?_eq_getElem hb
  have el : lowOf A (b - 1) = A[b - 1].2 := by unfold lowOf; rw [e]; rfl
  obtain ⟨n1, n2⟩ := hn _ _ e
  have n3 := h3 (b - 1) _ (by omega) (by omega) e
  rw [el]
  exact ⟨⟨n3, by omega, fun i y q1 q2 q3 => h3 i y q1 (by omega) q3⟩, ⟨n1, by omega, fun i y q1 q2 q3 => n2 i y (by omega) q1 q3⟩, n1, n3⟩
def bnd (c : Cst) (s : Sp4) : Nat := c.out * (s.b - s.a) + c.into * (s.d - s.c)
def Sp4.sz (s : Sp4) : Nat := (s.b - s.a) + (s.d - s.c)
/-- spans of both walks -/
def Spn (A B : Lab) (s : Sp4) : Prop := SpOk A s.a s.b ∧ SpOk B s.c s.d
theorem not_mt {s : Sp4} (h : s.mt = false) : s.a ≠ s.b ∧ s.c ≠ s.d := by
  unfold Sp4.mt at h
  rw [Bool.or_eq_false_iff] at h
  exact ⟨of_decide_eq_false h.1, of_decide_eq_false h.2⟩
/-- what two spans that aren't empty go by -/
def inns (A B : Lab) (s : Sp4) : List Sp4 := [⟨s.a, s.b - 1, s.c, s.d⟩, ⟨s.a, s.b, s.c, s.d - 1⟩, ⟨s.a, lowOf A (s.b - 1), s.c, lowOf B (s.d - 1)⟩, ⟨lowOf A (s.b - 1), s.b - 1, lowOf B (s.d - 1), s.d - 1⟩]
theorem inns_ok {A B : Lab} {s : Sp4} (hA : Nst A) (hB : Nst B) (h : Spn A B s) (hm : s.mt = false) : ∀ t ∈ inns A B s, Spn A B t ∧ t.sz < s.sz := by
  obtain ⟨m1, m2⟩ := not_mt hm
  obtain ⟨h1, h2⟩ := h
  have l1 : s.a < s.b := by have := h1.1; omega
  have l2 : s.c < s.d := by have := h2.1; omega
  obtain ⟨u1, u2, u3, u4⟩ := sp_low hA h1 l1
  obtain ⟨q1, q2, q3, q4⟩ := sp_low hB h2 l2
  unfold inns Spn Sp4.sz
  refine all1 ⟨⟨sp_pre h1 l1, h2⟩, by dsimp only; omega⟩ (all1 ⟨⟨h1, sp_pre h2 l2⟩, by dsimp only; omega⟩ (all1 ⟨⟨u1, q1⟩, by dsimp only; omega⟩ (all1 ⟨⟨u2, q2⟩, by dsimp only; omega⟩ all0)))
def putR (rs : Rws) (s : Sp4) (v : Int) : Rws := if (look rs s).isSome then rs.map (fun r => if r.1 = s then (s, v) else r) else rs ++ [(s, v)]
theorem put_LR (rs : Rws) (s : Sp4) (v : Int) : putW2 (kwL rs) (spD4 s) (.d (.int v)) = kwL (putR rs s v) := by
  unfold putW2 putR
  rw [valU_L, Option.isSome_map]
  split
  · unfold kwL
    rw [List.map_map, List.map_map]
    refine List.map_congr_left fun r _ => ?_
    show (if keyN (spD4 r.1) = keyN (spD4 s) then (spD4 r.1, W.d (.int v)) else (spD4 r.1, W.d (.int r.2))) = (spD4 (if r.1 = s then (s, v) else r).1, W.d (.int (if r.1 = s then (s, v) else r).2))
    by_cases e : r.1 = s
    · rw [if_pos (keyN_sp.mpr e), if_pos e, e]
    · rw [if_neg (fun z => e (keyN_sp.mp z)), if_neg e]
  · unfold kwL
    rw [List.map_append]
    rfl
theorem putR_look (rs : Rws) (s : Sp4) (v : Int) : look (putR rs s v) s = some v := by
  unfold putR
  split
  · rename_i h
    induction rs with
    | nil => cases h
    | cons r rs ih =>
      unfold look at h ih ⊢
      rw [List.map_cons]
      by_cases e : r.1 = s
      · rw [if_pos e, List.find?_cons_of_pos (by simp)]
        rfl
      · rw [List.find?_cons_of_neg (by simpa using e)] at h
        rw [if_neg e, List.find?_cons_of_neg (by simpa using e)]
        exact ih h
  · rename_i h
    unfold look at h ⊢
    rw [List.find?_append]
    cases c : rs.find? fun r => decide (r.1 = s) with
    | none => rw [Option.none_or, List.find?_cons_of_pos (by simp)]; rfl
    | some r => rw [c] at h; exact absurd rfl h
theorem putR_else {rs : Rws} {s t : Sp4} {v : Int} (hne : s ≠ t) : look (putR rs t v) s = look rs s := by
  unfold putR
  split
  · rename_i h
    clear h
    induction rs with
    | nil => rfl
    | cons r rs ih =>
      unfold look at ih ⊢
      rw [List.map_cons]
      by_cases e : r.1 = t
      · rw [if_pos e, List.find?_cons_of_neg (by simpa using fun z => hne z.symm), List.find?_cons_of_neg (by rw [e]; simpa using fun z => hne z.symm)]
        exact ih
      · rw [if_neg e]
        by_cases e2 : r.1 = s
        · rw [List.find?_cons_of_pos (by simpa using e2), List.find?_cons_of_pos (by simpa using e2)]
        · rw [List.find?_cons_of_neg (by simpa using e2), List.find?_cons_of_neg (by simpa using e2)]
          exact ih
  · unfold look
    rw [List.find?_append]
    cases c : rs.find? fun r => decide (r.1 = s) with
    | none => rw [Option.none_or, List.find?_cons_of_neg (by simpa using fun z => hne z.symm)]; rfl
    | some r => rfl
/-- the least of the choices, by the rows -/
def lstI (A B : Lab) (c : Cst) (rs : Rws) (s : Sp4) : Int := match sumsN (wN c (kwL rs)) (chos A B c s) with
  | some l => mnI l
  | none => 0
/-- the rows filled from a span on -/
def fillR (A B : Lab) (c : Cst) : Nat → Sp4 → Rws → Rws
  | 0, _, rs => rs
  | n + 1, s, rs => if (s.mt || (look rs s).isSome) = true then rs else
    let r4 := (inns A B s).foldl (fun r t => fillR A B c n t r) rs
    putR r4 s (lstI A B c r4 s)
/-- what was found is found later -/
def Ext (r r' : Rws) : Prop := ∀ s v, look r s = some v → look r' s = some v
theorem Ext.refl (r : Rws) : Ext r r := fun _ _ h => h
theorem Ext.trans {a b c : Rws} (h : Ext a b) (h' : Ext b c) : Ext a c := fun s v e => h' s v (h s v e)
theorem fill_ext (A B : Lab) (c : Cst) : ∀ (n : Nat) (s : Sp4) (rs : Rws), Ext rs (fillR A B c n s rs)
  | 0, s, rs => .refl rs
  | n + 1, s, rs => by
    rw [fillR]
    split
    · exact .refl rs
    · rename_i hc
      have hf : ∀ (l : List Sp4) (r : Rws), Ext r (l.foldl (fun r t => fillR A B c n t r) r) := by
        intro l
        induction l with
        | nil => exact fun r => .refl r
        | cons t l ih => exact fun r => (fill_ext A B c n t r).trans (ih _)
      intro u v hu
      have hne : u ≠ s := fun z => hc (by rw [← z, hu]; simp)
      show look (putR _ s _) u = some v
      rw [putR_else hne]
      exact hf _ rs u v hu
theorem fold_ext (A B : Lab) (c : Cst) (n : Nat) : ∀ (l : List Sp4) (r : Rws), Ext r (l.foldl (fun r t => fillR A B c n t r) r)
  | [], r => .refl r
  | t :: l, r => (fill_ext A B c n t r).trans (fold_ext A B c n l _)
theorem wN_L (c : Cst) (rs : Rws) (s : Sp4) : wN c (kwL rs) s = if s.mt = true then some ((bnd c s : Nat) : Int) else look rs s := by
  unfold wN
  split
  · rfl
  · rw [valU_L]
    cases look rs s <;> rfl
theorem ext_wN {c : Cst} {r r' : Rws} (h : Ext r r') {s : Sp4} {v : Int} (e : wN c (kwL r) s = some v) : wN c (kwL r') s = some v := by
  rw [wN_L] at e ⊢
  split
  · rename_i z; rw [if_pos z] at e; exact e
  · rename_i z; rw [if_neg z] at e; exact h s v e
/-- a span that was filled is found -/
theorem fill_has (A B : Lab) (c : Cst) {n : Nat} {s : Sp4} (hs : s.sz < n) (rs : Rws) : ∃ v, wN c (kwL (fillR A B c n s rs)) s = some v := by
  cases n with
  | zero => omega
  | succ n =>
    rw [wN_L]
    by_cases hm : s.mt = true
    · rw [if_pos hm]; exact ⟨_, rfl⟩
    · rw [if_neg hm, fillR]
      split
      · rename_i h
        rw [show s.mt = false by simpa using hm, Bool.false_or] at h
        exact Option.isSome_iff_exists.mp h
      · exact ⟨_, putR_look _ _ _⟩
end Tl
set_option Elab.async false
set_option linter.all false
set_option maxRecDepth 100000
set_option maxHeartbeats 8000000
namespace Tl
open PySem L2 RZ
theorem bnd_pre {c : Cst} {s : Sp4} (h : s.a < s.b) : bnd c s = c.out + bnd c ⟨s.a, s.b - 1, s.c, s.d⟩ := by
  unfold bnd
  dsimp only
  rw [show s.b - s.a = (s.b - 1 - s.a) + 1 by omega, Nat.mul_succ]
  omega
/-- rows of no spans twice, of small numbers -/
structure KR (c : Cst) (rs : Rws) : Prop where
  nd : (rs.map (·.1)).Nodup
  sm : ∀ r ∈ rs, (r.1.a < r.1.b ∧ r.1.b ≤ 12 ∧ r.1.c < r.1.d ∧ r.1.d ≤ 12) ∧ 0 ≤ r.2 ∧ r.2 ≤ (bnd c r.1 : Nat)
theorem look_mem {rs : Rws} {s : Sp4} {v : Int} (h : look rs s = some v) : (s, v) ∈ rs := by
  unfold look at h
  obtain ⟨r, h1, rfl⟩ := Option.map_eq_some_iff.mp h
  have h2 := List.find?_some h1
  have h3 : r.1 = s := by simpa using h2
  rw [← h3]
  exact List.mem_of_find?_eq_some h1
theorem KR.put {c : Cst} {rs : Rws} (h : KR c rs) {s : Sp4} {v : Int} (hs : (s.a < s.b ∧ s.b ≤ 12 ∧ s.c < s.d ∧ s.d ≤ 12) ∧ 0 ≤ v ∧ v ≤ (bnd c s : Nat)) : KR c (putR rs s v) := by
  unfold putR
  split
  · refine ⟨?_, fun r hr => ?_⟩
    · have e : ((rs.map fun r => if r.1 = s then (s, v) else r).map (·.1)) = rs.map (·.1) := by
        rw [List.map_map]
        refine List.map_congr_left fun r _ => ?_
        show (if r.1 = s then (s, v) else r).1 = r.1
        by_cases e : r.1 = s
        · rw [if_pos e, e]
        · rw [if_neg e]
      rw [e]
      exact h.nd
    · obtain ⟨x, hx, rfl⟩ := List.mem_map.mp hr
      split
      · exact hs
      · exact h.sm x hx
  · rename_i c
    refine ⟨?_, fun r hr => ?_⟩
    · rw [List.map_append, List.nodup_append]
      refine ⟨h.nd, by simp, fun x hx y hy e => ?_⟩
      simp only [List.map_cons, List.map_nil, List.mem_singleton] at hy
      subst hy
      subst e
      obtain ⟨z, hz, e2⟩ := List.mem_map.mp hx
      refine c ?_
      unfold look
      rw [Option.isSome_map]
      exact List.find?_isSome.mpr ⟨z, hz, by simpa using e2⟩
    · rcases List.mem_append.mp hr with hr | hr
      · exact h.sm r hr
      · rw [List.mem_singleton.mp hr]; exact hs
theorem nodup_lt : ∀ (n : Nat) (l : List Nat), l.Nodup → (∀ x ∈ l, x < n) → l.length ≤ n
  | 0, [], _, _ => Nat.le_refl _
  | 0, x :: l, _, h => absurd (h x (.head _)) (Nat.not_lt_zero _)
  | n + 1, l, hn, h => by
    have e : l.length ≤ (l.filter fun x => decide (x ≠ n)).length + 1 := by
      clear h
      induction l with
      | nil => exact Nat.zero_le _
      | cons x l ih =>
        obtain ⟨h1, h2⟩ := List.nodup_cons.mp hn
        by_cases c : x = n
        · subst c
          rw [List.filter_cons_of_neg (by simp), List.length_cons]
          have : (l.filter fun y => decide (y ≠ x)) = l := List.filter_eq_self.mpr fun y hy => by
            have : y ≠ x := fun z => h1 (by rw [← z]; exact hy)
            simpa using this
          rw [this]
          exact Nat.le_refl _
        · rw [List.filter_cons_of_pos (by simpa using c), List.length_cons, List.length_cons]
          have := ih h2
          omega
    have := nodup_lt n (l.filter fun x => decide (x ≠ n)) (hn.filter _) fun x hx => by
      obtain ⟨h1, h2⟩ := List.mem_filter.mp hx
      have h3 : x ≠ n := by simpa using h2
      have := h x h1
      omega
    omega
def tri : Nat → Nat
  | 0 => 0
  | n + 1 => tri n + n
theorem tri_mono {a b : Nat} (h : a ≤ b) : tri a ≤ tri b := by
  induction h with
  | refl => exact Nat.le_refl _
  | step _ ih => exact Nat.le_trans ih (Nat.le_add_right _ _)
theorem tri_lt {a b : Nat} (h : a < b) (hb : b ≤ 12) : tri b + a < 78 := by
  have h1 := tri_mono (show b + 1 ≤ 13 by omega)
  have h2 : tri (b + 1) = tri b + b := rfl
  have h3 : tri 13 = 78 := rfl
  omega
theorem tri_inj {a b a' b' : Nat} (h : a < b) (h' : a' < b') (e : tri b + a = tri b' + a') : a = a' ∧ b = b' := by
  have q1 : ∀ {a b a' b' : Nat}, a < b → b < b' → tri b + a < tri b' + a' := fun {a b a' b'} h1 h2 => by
    have h3 := tri_mono (show b + 1 ≤ b' by omega)
    have h4 : tri (b + 1) = tri b + b := rfl
    omega
  rcases Nat.lt_trichotomy b b' with z | z | z
  · have := q1 (a' := a') h z; omega
  · subst z; exact ⟨by omega, rfl⟩
  · have := q1 (a' := a) h' z; omega
def Sp4.cd (s : Sp4) : Nat := (tri s.b + s.a) * 78 + (tri s.d + s.c)
theorem krLen {c : Cst} {rs : Rws} (h : KR c rs) : rs.length ≤ 6084 := by
  have e : (rs.map fun r => r.1.cd).Nodup := by
    have h1 := h.nd
    have h2 := h.sm
    clear h
    induction rs with
    | nil => exact List.nodup_nil
    | cons r rs ih =>
      rw [List.map_cons] at h1 ⊢
      obtain ⟨n1, n2⟩ := List.nodup_cons.mp h1
      refine List.nodup_cons.mpr ⟨fun z => n1 ?_, ih n2 fun x hx => h2 x (.tail _ hx)⟩
      obtain ⟨x, hx, ex⟩ := List.mem_map.mp z
      refine List.mem_map.mpr ⟨x, hx, ?_⟩
      obtain ⟨⟨a1, a2, a3, a4⟩, _⟩ := h2 x (.tail _ hx)
      obtain ⟨⟨b1, b2, b3, b4⟩, _⟩ := h2 r (.head _)
      unfold Sp4.cd at ex
      have l1 := tri_lt a1 a2
      have l2 := tri_lt a3 a4
      have l3 := tri_lt b1 b2
      have l4 := tri_lt b3 b4
      obtain ⟨e1, e2⟩ := tri_inj a1 b1 (by omega)
      obtain ⟨e3, e4⟩ := tri_inj a3 b3 (by omega)
      refine Sp4.l_inj ?_
      unfold Sp4.l
      rw [e1, e2, e3, e4]
  have := nodup_lt 6084 _ e fun x hx => by
    obtain ⟨r, hr, rfl⟩ := List.mem_map.mp hx
    obtain ⟨⟨b1, b2, b3, b4⟩, _⟩ := h.sm r hr
    have l3 := tri_lt b1 b2
    have l4 := tri_lt b3 b4
    unfold Sp4.cd
    omega
  rwa [List.length_map] at this
/-- behind the filling of what a span goes by all of it is known -/
theorem four_known {A B : Lab} {c : Cst} {n : Nat} {s : Sp4} (hA : Nst A) (hB : Nst B) (h : Spn A B s) (hm : s.mt = false) (hz : s.sz < n + 1) (rs : Rws) : ∀ t ∈ inns A B s, ∃ v, wN c (kwL ((inns A B s).foldl (fun r t => fillR A B c n t r) rs)) t = some v := by
  have hi := inns_ok hA hB h hm
  have go : ∀ (l : List Sp4) (r : Rws), (∀ t ∈ l, t.sz < n) → ∀ t ∈ l, ∃ v, wN c (kwL (l.foldl (fun r t => fillR A B c n t r) r)) t = some v := by
    intro l
    induction l with
    | nil => intro r _ t ht; cases ht
    | cons x l ih =>
      intro r hl t ht
      rcases List.mem_cons.mp ht with rfl | ht
      · obtain ⟨v, hv⟩ := fill_has A B c (hl t (.head _)) r
        exact ⟨v, ext_wN (fold_ext A B c n l _) hv⟩
      · exact ih _ (fun y hy => hl y (.tail _ hy)) t ht
  exact go _ rs fun t ht => by have := (hi t ht).2; omega
theorem chos_sums {A B : Lab} {c : Cst} {s : Sp4} {f : Sp4 → Option Int} {i1 i2 i3 i4 : Int} (h1 : f ⟨s.a, s.b - 1, s.c, s.d⟩ = some i1) (h2 : f ⟨s.a, s.b, s.c, s.d - 1⟩ = some i2) (h3 : f ⟨s.a, lowOf A (s.b - 1), s.c, lowOf B (s.d - 1)⟩ = some i3) (h4 : f ⟨lowOf A (s.b - 1), s.b - 1, lowOf B (s.d - 1), s.d - 1⟩ = some i4) :
    sumsN f (chos A B c s) = some [(c.out : Int) + i1, (c.into : Int) + i2, (nam A B c (s.b - 1) (s.d - 1) : Int) + (i3 + i4)] := by
  unfold chos
  simp only [sumsN, sumN, h1, h2, h3, h4, Option.bind_some, Option.map_some, Int.add_zero]
theorem mn3 (x y z : Int) : mnI [x, y, z] = min x (min y z) := rfl
theorem inns_all {A B : Lab} {s : Sp4} {P : Sp4 → Prop} (h : ∀ t ∈ inns A B s, P t) : P ⟨s.a, s.b - 1, s.c, s.d⟩ ∧ P ⟨s.a, s.b, s.c, s.d - 1⟩ ∧ P ⟨s.a, lowOf A (s.b - 1), s.c, lowOf B (s.d - 1)⟩ ∧ P ⟨lowOf A (s.b - 1), s.b - 1, lowOf B (s.d - 1), s.d - 1⟩ :=
  ⟨h _ (.head _), h _ (.tail _ (.head _)), h _ (.tail _ (.tail _ (.head _))), h _ (.tail _ (.tail _ (.tail _ (.head _))))⟩
theorem kr_val {c : Cst} {rs : Rws} (h : KR c rs) {s : Sp4} {v : Int} (e : wN c (kwL rs) s = some v) : 0 ≤ v ∧ v ≤ (bnd c s : Nat) := by
  rw [wN_L] at e
  split at e
  · cases e; exact ⟨Int.natCast_nonneg _, Int.le_refl _⟩
  · exact (h.sm _ (look_mem e)).2
theorem fill_kr {A B : Lab} {c : Cst} (hA : Nst A) (hB : Nst B) (lA : A.length ≤ 12) (lB : B.length ≤ 12) : ∀ (n : Nat) (s : Sp4) (rs : Rws), Spn A B s → s.sz < n → KR c rs → KR c (fillR A B c n s rs)
  | 0, s, rs, _, hz, _ => absurd hz (Nat.not_lt_zero _)
  | n + 1, s, rs, hs, hz, hk => by
    rw [fillR]
    split
    · exact hk
    · rename_i hc
      have hm : s.mt = false := by
        cases e : s.mt with
        | false => rfl
        | true => rw [e] at hc; exact absurd rfl hc
      have hi := inns_ok hA hB hs hm
      have hfold : ∀ (l : List Sp4) (r : Rws), (∀ t ∈ l, Spn A B t ∧ t.sz < n) → KR c r → KR c (l.foldl (fun r t => fillR A B c n t r) r) := by
        intro l
        induction l with
        | nil => exact fun r _ h => h
        | cons t l ih => exact fun r hl h => ih _ (fun x hx => hl x (.tail _ hx)) (fill_kr hA hB lA lB n t r (hl t (.head _)).1 (hl t (.head _)).2 h)
      have k4 := hfold _ rs (fun t ht => ⟨(hi t ht).1, by have := (hi t ht).2; omega⟩) hk
      obtain ⟨⟨i1, f1⟩, ⟨i2, f2⟩, ⟨i3, f3⟩, ⟨i4, f4⟩⟩ := inns_all (four_known (c := c) hA hB hs hm hz rs)
      show KR c (putR ((inns A B s).foldl (fun r t => fillR A B c n t r) rs) s (lstI A B c ((inns A B s).foldl (fun r t => fillR A B c n t r) rs) s))
      generalize (inns A B s).foldl (fun r t => fillR A B c n t r) rs = r4 at f1 f2 f3 f4 k4
      obtain ⟨m1, m2⟩ := not_mt hm
      have q1 := hs.1.1
      have q2 := hs.1.2.1
      have q3 := hs.2.1
      have q4 := hs.2.2.1
      refine k4.put ⟨⟨by omega, by omega, by omega, by omega⟩, ?_⟩
      unfold lstI
      rw [chos_sums f1 f2 f3 f4]
      dsimp only
      rw [mn3]
      obtain ⟨v1, v2⟩ := kr_val k4 f1
      obtain ⟨v3, _⟩ := kr_val k4 f2
      obtain ⟨v5, _⟩ := kr_val k4 f3
      obtain ⟨v7, _⟩ := kr_val k4 f4
      have := bnd_pre (c := c) (s := s) (by omega)
      omega
end Tl
set_option Elab.async false
set_option linter.all false
set_option maxRecDepth 100000
set_option maxHeartbeats 8000000
namespace Tl
open PySem L2 RZ
local macro_rules
  | `(tactic| decreasing_trivial) => `(tactic| ((with_reducible (conv => whnf)); (repeat ((first | (with_reducible refine exI (by first | exact mset_same | assumption | (rw [mset_ne (by assumption)]; first | exact mset_same | assumption)) ?_) | (with_reducible refine exI2 (by first | exact mset_same | assumption | (rw [mset_ne (by assumption)]; first | exact mset_same | assumption)) ?_) | (with_reducible refine (gO_i lk_one) ?_) | (with_reducible refine (gO_i lk_oth) ?_) | (with_reducible refine (gO_i lk_cst) ?_) | (with_reducible refine gDs_c ?_) | (with_reducible refine gDs_n ?_) | (with_reducible refine gNs_c ?_) | (with_reducible refine gNs_n ?_) | (with_reducible refine gO_i tyAny_lt ?_) | (with_reducible refine gIs_c ?_) | (with_reducible refine gIs_n ?_) | (with_reducible refine gBs_c ?_) | (with_reducible refine gBs_n ?_) | (with_reducible refine gSs_c ?_) | (with_reducible refine gSs_n ?_) | (with_reducible refine gO_i tyIs_int ?_) | (with_reducible refine gO_i tyIs_bool ?_) | (with_reducible refine gO_i tyIs_str ?_) | (with_reducible refine gO_i tyIs_tuple ?_) | (with_reducible refine gO_i tyIs_list ?_) | (with_reducible refine gDs_i ?_) | (with_reducible refine gO_i (Eq.refl _) ?_) | (with_reducible refine gO_i (by assumption) ?_) | (with_reducible refine gO_i at_0 ?_) | (with_reducible refine gO_i at_m0 ?_) | (with_reducible refine gO_i at_1 ?_) | (with_reducible refine gO_i at_m1 ?_) | (with_reducible refine gO_i at_2 ?_) | (with_reducible refine gO_i at_m2 ?_) | (with_reducible refine gO_i at_3 ?_) | (with_reducible refine gO_i at_m3 ?_) | (with_reducible refine gO_i at_4 ?_) | (with_reducible refine gO_i at_m4 ?_) | (with_reducible refine gO_i at_5 ?_) | (with_reducible refine gO_i at_m5 ?_) | (with_reducible refine gO_i at_6 ?_) | (with_reducible refine gO_i at_m6 ?_) | (with_reducible refine gO_i at_7 ?_) | (with_reducible refine gO_i at_m7 ?_) | (with_reducible refine IfB.ngf ?_) | (with_reducible refine IfB.ngt ?_) | (with_reducible refine IfB.not ?_) | (with_reducible refine IfB.nil ?_) | (with_reducible refine IfB.nilT ?_) | (with_reducible refine IfB.f isE_c ?_) | (with_reducible refine IfB.t isE_n ?_) | (with_reducible refine IfB.t ?gha ?_; (case gha => rfl)) | (with_reducible refine IfB.f ?gha ?_; (case gha => rfl)) | (with_reducible refine IfB.t ?gha ?_; (case gha => assumption)) | (with_reducible refine IfB.f ?gha ?_; (case gha => assumption)) | (with_reducible refine IfB.yes (Eq.refl _) ?_) | (with_reducible refine IfB.yes ?gha ?_; (case gha => (first | omega | (simp only [len_c, len_n, List.length_map]; omega)))) | (with_reducible refine IfB.no ?gha ?_; (case gha => (first | omega | (simp only [len_c, len_n, List.length_map]; omega)))) | (with_reducible refine IfB.t ?gha ?_; (case gha => decide +kernel)) | (with_reducible refine IfB.f ?gha ?_; (case gha => decide +kernel))); (with_reducible (conv => whnf))))))
local macro_rules
  | `(tactic| decreasing_trivial_pre_omega) => `(tactic| (decreasing_trivial; (repeat ((first | ((with_reducible refine And.intro ?gha ?_); (case gha => (first | assumption | omega | exact rfl | (exact mset_same) | (exact ⟨_, mset_same⟩) | (exact Exists.intro _ (by first | exact mset_same | assumption | (rw [mset_ne (by assumption)]; first | exact mset_same | assumption))) | (exact sm_of (by omega) (by omega)) | (exact sz1000 (by first | omega | (simp; done) | (simp; omega))) | (exact Or.inl ⟨by decide, by decide⟩) | decide | (simp; done) | (refine ⟨?_, ?_⟩ <;> (first | assumption | omega | exact rfl | (exact mset_same) | (exact ⟨_, mset_same⟩) | (exact Exists.intro _ (by first | exact mset_same | assumption | (rw [mset_ne (by assumption)]; first | exact mset_same | assumption))) | (exact sm_of (by omega) (by omega)) | (exact sz1000 (by first | omega | (simp; done) | (simp; omega))) | (exact Or.inl ⟨by decide, by decide⟩) | decide | (simp; done))) | (refine ⟨?_, ?_, ?_⟩ <;> (first | assumption | omega | exact rfl | (exact mset_same) | (exact ⟨_, mset_same⟩) | (exact Exists.intro _ (by first | exact mset_same | assumption | (rw [mset_ne (by assumption)]; first | exact mset_same | assumption))) | (exact sm_of (by omega) (by omega)) | (exact sz1000 (by first | omega | (simp; done) | (simp; omega))) | (exact Or.inl ⟨by decide, by decide⟩) | decide | (simp; done))) | (refine ⟨?_, ?_, ?_, ?_⟩ <;> (first | assumption | omega | exact rfl | (exact mset_same) | (exact ⟨_, mset_same⟩) | (exact Exists.intro _ (by first | exact mset_same | assumption | (rw [mset_ne (by assumption)]; first | exact mset_same | assumption))) | (exact sm_of (by omega) (by omega)) | (exact sz1000 (by first | omega | (simp; done) | (simp; omega))) | (exact Or.inl ⟨by decide, by decide⟩) | decide | (simp; done)))))) | (with_reducible refine exW (by first | exact mset_same | assumption | (rw [mset_ne (by assumption)]; first | exact mset_same | assumption)) ?_)); decreasing_trivial))))
/-- the least is known behind the filling -/
theorem lst_known {A B : Lab} {c : Cst} {rs : Rws} {s : Sp4} (h : ∀ t ∈ inns A B s, ∃ v, wN c (kwL rs) t = some v) : lstD A B c (kwL rs) s = .int (lstI A B c rs s) := by
  obtain ⟨⟨i1, f1⟩, ⟨i2, f2⟩, ⟨i3, f3⟩, ⟨i4, f4⟩⟩ := inns_all h
  unfold lstD lstI
  rw [chos_sums f1 f2 f3 f4]
@[reducible] def tfFill (C : Addr) (n : Nat) : TF := fun ws M R _ => ∃ (a dx : Addr) (A B : Lab) (c : Cst) (s : Sp4) (d : Addr) (rs : Rws), ws = [.r a, .d (spD4 s), .r d] ∧ (M a = some (.ins C dx (wgF A B c)) ∧ M d = some (.dT (kwL rs)) ∧ c.Ok ∧ Nst A ∧ Nst B ∧ Spn A B s ∧ A.length ≤ 12 ∧ B.length ≤ 12 ∧ s.sz < n ∧ KR c rs) ∧ R (.d .none) (mset M d (.dT (kwL (fillR A B c n s rs))))
def foldR (A B : Lab) (c : Cst) (n : Nat) (l : List Sp4) (rs : Rws) : Rws := l.foldl (fun r t => fillR A B c n t r) rs
theorem foldR_app (A B : Lab) (c : Cst) (n : Nat) (l m : List Sp4) (rs : Rws) : foldR A B c n (l ++ m) rs = foldR A B c n m (foldR A B c n l rs) := List.foldl_append
section
variable {P : Program} {w : World} {K : PySem.W.Frag} {mg : Str → Option Value} {base : Heap}
abbrev sFill : Stmt := top 37
theorem scFill : FnScope ["weighing", "spans", "rows", "cost", "inner", "pair"] ["weighing", "spans", "rows"] (defScope sFill) := ⟨rfl, rfl, rfl, by decide +kernel, rfl, by decide +kernel, by decide +kernel⟩
theorem ok_fill1 {f C : Addr} {fd : FuncData} {n j : Nat} (F : Fun K "fill" "fill" sFill f fd) (MWeighing : WgC K C) (Ufill : Use P w K mg base "fill" ["weighing", "spans", "rows"] (n + 4) (spD K 3 (tfFill C n))) (Uis_empty : Use P w K mg base "is_empty" ["spans"] j (spD K 1 tfMt)) (Uchoices_of : Use P w K mg base "choices_of" ["weighing", "spans"] j (spD K 2 (tfChos C))) (Uleast_by : Use P w K mg base "least_by" ["weighing", "spans", "rows"] j (spD K 3 (tfLeast C))) (hj : j ≤ 4) (T : Bl mg) : FnOk P w K mg base CX0 (n + 5) f fd ["weighing", "spans", "rows"] (spD K 3 (tfFill C (n + 1))) := by
  refine okD F scFill rfl fun cdv A' outer s H E hr => ?_
  refine ⟨_, _, (pss_cons (ps_if (PW.pt (pw_or (pt_val (pe_call Uis_empty.ok (hr.mono (by omega)) rfl Uis_empty.m Uis_empty.kp Uis_empty.b .nil pass0 (pa_cons (pv 1) pa_nil))) (pw_or1 (pt_cmpR (op_inU (hu20 hr)) (pv 1) (pv 2) (by rfl))))) (pss_one ps_retN) pss_nil)
    (pss_cons (ps_for PassesOwn.never rfl (pi_list (pe_call Uchoices_of.ok (hr.mono (by omega)) rfl Uchoices_of.m Uchoices_of.kp Uchoices_of.b .nil pass0 (pa_cons (pv 0) (pa_cons (pv 1) pa_nil)))) (pg_tup rfl (pgs_cons (pg_name (i := 3) scFill.nd rfl (.inl rfl)) (pgs_cons (pg_name (i := 4) scFill.nd rfl (.inl rfl)) pgs_nil))) (pss_one (ps_for PassesOwn.never rfl (pi_list (pv 4)) (pg_name (i := 5) scFill.nd rfl (.inl rfl)) (pss_one (ps_expr (pe_call Ufill.ok (hr.mono (by omega)) rfl Ufill.m Ufill.kp Ufill.b .nil pass0 (pa_cons (pv 0) (pa_cons (pv 5) (pa_cons (pv 2) pa_nil)))))))))
    (pss_one (ps_asg (pe_call Uleast_by.ok (hr.mono (by omega)) rfl Uleast_by.m Uleast_by.kp Uleast_by.b .nil pass0 (pa_cons (pv 0) (pa_cons (pv 1) (pa_cons (pv 2) pa_nil)))) (pg_sub (pv 2) (pv 1) (set_U (hu20 hr))))))),
    (ss_cons (ss_if (st_or (st_val (se_call (sa_cons se_nm sa_nil))) (st_test (se_op so_inU se_nm se_nm))) ss_retN ss_nil)
    (ss_cons (ss_for (si_lst (se_call (sa_cons se_nm (sa_cons se_nm sa_nil)))) sg_tup2 (ss_for (si_lst se_nm) sg_name (ss_drop (se_call (sa_cons se_nm (sa_cons se_nm (sa_cons se_nm sa_nil)))))))
    (ss_setU (se_call (sa_cons se_nm (sa_cons se_nm (sa_cons se_nm sa_nil)))) se_nm se_nm))), fun ws M R RX hl h => ?_⟩
  obtain ⟨a, dx, A, B, c, s4, d, rs, rfl, ⟨hM, hD, hc, hA, hB, hs, lA, lB, hz, hk⟩, h2⟩ := h
  simp only [start0, len_c, len_n, map_c, map_n, app_c, app_n, rep_0, rep_s, Nat.reduceAdd, Nat.reduceSub]
  decreasing_trivial_pre_omega
  refine ⟨s4, rfl, ?_⟩
  have e0 : mset M d (.dT (kwL rs)) = M := mset_id hD
  cases em : s4.mt with
  | true =>
    rw [fillR, em, Bool.true_or, if_pos rfl, e0] at h2
    decreasing_trivial_pre_omega
    exact h2
  | false =>
    decreasing_trivial_pre_omega
    refine ⟨⟨rfl, sp4_dp s4⟩, _, hD, ?_⟩
    have es : (valU (kwL rs) (PyData.tuple [.int (s4.a : Nat), .int (s4.b : Nat), .int (s4.c : Nat), .int (s4.d : Nat)])).isSome = (look rs s4).isSome := by
      show (valU (kwL rs) (spD4 s4)).isSome = _
      rw [valU_L, Option.isSome_map]
    cases el : (look rs s4).isSome with
    | true =>
      rw [fillR, el, Bool.or_true, if_pos rfl, e0] at h2
      rw [el] at es
      decreasing_trivial_pre_omega
      exact h2
    | false =>
      rw [fillR, em, el, Bool.or_self, if_neg Bool.false_ne_true] at h2
      rw [el] at es
      obtain ⟨m1, m2⟩ := not_mt em
      have q1 := hs.1.1
      have q2 := hs.1.2.1
      have q3 := hs.2.1
      have q4 := hs.2.2.1
      have hi := inns_ok hA hB hs em
      have fA : ∀ o, mset M d o a = some (.ins C dx (wgF A B c)) := fun o => by rw [mset_ne (fun z => by rw [z, hD] at hM; cases hM)]; exact hM
      have hin : ∀ x ∈ chos A B c s4, ∀ t ∈ x.inn, t ∈ inns A B s4 := by
        unfold chos inns
        refine all1 (all1 (by simp) all0) (all1 (all1 (by simp) all0) (all1 (all1 (by simp) (all1 (by simp) all0)) all0))
      decreasing_trivial_pre_omega
      refine ⟨a, dx, A, B, c, s4, rfl, ⟨hM, by omega, by omega, by omega, by omega⟩, ?_⟩
      decreasing_trivial_pre_omega
      have hfl : (chos A B c s4).flatMap (·.inn) = inns A B s4 := rfl
      have h2 : R (W.d .none) (mset M d (.dT (kwL (putR (foldR A B c n (inns A B s4) rs) s4 (lstI A B c (foldR A B c n (inns A B s4) rs) s4))))) := h2
      rw [show ((chos A B c s4).map choD).map W.d = (chos A B c s4).map fun x => W.d (.tuple [.int (x.cost : Nat), .list (x.inn.map spD4)]) by rw [List.map_map]; rfl]
      refine forT2 (g := fun x : Cho => PyData.int (x.cost : Nat)) (h := fun x : Cho => PyData.list (x.inn.map spD4)) (fun i ρ' M' => M' = mset M d (.dT (kwL (foldR A B c n (((chos A B c s4).take i).flatMap (·.inn)) rs))) ∧ KR c (foldR A B c n (((chos A B c s4).take i).flatMap (·.inn)) rs) ∧ ∃ y3 y4 y5, ρ' = [some (.r a), some (.d (spD4 s4)), some (.r d), y3, y4, y5]) ⟨e0.symm, hk, none, none, none, rfl⟩ (fun _ _ _ _ _ => trivial) (fun i x ρ' M' N hx q hN => ?_) (fun ρ' M' q => ?_)
      · obtain ⟨rfl, hk1, y3, y4, y5, rfl⟩ := q
        have hxm := List.mem_of_getElem? hx
        decreasing_trivial_pre_omega
        rw [show (x.inn.map spD4).map W.d = x.inn.map fun s => W.d (spD4 s) by rw [List.map_map]; rfl]
        generalize hrs1 : foldR A B c n (((chos A B c s4).take i).flatMap (·.inn)) rs = rs1 at hk1
        refine for1 (fun k ρ' M' => M' = mset M d (.dT (kwL (foldR A B c n (x.inn.take k) rs1))) ∧ KR c (foldR A B c n (x.inn.take k) rs1) ∧ ∃ y5, ρ' = [some (.r a), some (.d (spD4 s4)), some (.r d), some (.d (.int (x.cost : Nat))), some (.d (.list (x.inn.map spD4))), y5]) ⟨rfl, hk1, y5, rfl⟩ (fun _ _ _ _ _ => trivial) (fun k t ρ' M' N2 ht q hN2 => ?_) (fun ρ' M' q => ?_)
        · obtain ⟨rfl, hk2, y5, rfl⟩ := q
          have htm := hin x hxm t (List.mem_of_getElem? ht)
          obtain ⟨t1, t2⟩ := hi t htm
          have hstep : foldR A B c n (x.inn.take (k + 1)) rs1 = fillR A B c n t (foldR A B c n (x.inn.take k) rs1) := by
            rw [List.take_add_one, ht, foldR_app]
            rfl
          decreasing_trivial_pre_omega
          refine ⟨a, dx, A, B, c, t, d, _, rfl, ⟨fA _, mset_same, hc, hA, hB, t1, lA, lB, by omega, hk2⟩, ?_⟩
          decreasing_trivial_pre_omega
          rw [mset_mset]
          refine hN2 _ _ ⟨by rw [hstep], by rw [hstep]; exact fill_kr hA hB lA lB n t _ t1 (by omega) hk2, _, rfl⟩
        · obtain ⟨rfl, hk2, y5, rfl⟩ := q
          rw [List.take_length] at hk2
          have hstep : foldR A B c n (((chos A B c s4).take (i + 1)).flatMap (·.inn)) rs = foldR A B c n x.inn rs1 := by
            rw [List.take_add_one, hx, List.flatMap_append, foldR_app, hrs1]
            show foldR A B c n (x.inn ++ []) rs1 = _
            rw [List.append_nil]
          rw [List.take_length]
          exact hN _ _ ⟨by rw [hstep], by rw [hstep]; exact hk2, _, _, _, rfl⟩
      · obtain ⟨rfl, hk1, y3, y4, y5, rfl⟩ := q
        rw [List.take_length, hfl] at hk1 ⊢
        have kn := four_known (c := c) hA hB hs em hz rs
        have hls := lst_known kn
        obtain ⟨u1, u2, u3, u4⟩ := sp_low hA hs.1 (by omega)
        obtain ⟨p1, p2, p3, p4⟩ := sp_low hB hs.2 (by omega)
        have hkl := krLen hk1
        decreasing_trivial_pre_omega
        refine ⟨a, dx, A, B, c, s4, d, _, _, rfl, ⟨fA _, ⟨mset_same, rfl⟩, hc, numR_L _, ⟨by omega, by omega, by omega, by omega, by omega, by omega⟩, u4, u3, p4, p3⟩, ?_⟩
        decreasing_trivial_pre_omega
        have hls : lstD A B c (kwL (foldR A B c n (inns A B s4) rs)) s4 = .int (lstI A B c (foldR A B c n (inns A B s4) rs) s4) := hls
        refine ⟨⟨rfl, sp4_dp s4⟩, _, mset_same, Nat.lt_of_le_of_lt (show _ ≤ 6084 by unfold kwL; rw [List.length_map]; exact hkl) (by decide), ?_⟩
        rw [mset_mset, hls]
        show R (W.d .none) (mset M d (.dT (putW2 (kwL (foldR A B c n (inns A B s4) rs)) (spD4 s4) (.d (.int (lstI A B c (foldR A B c n (inns A B s4) rs) s4))))))
        rw [put_LR]
        exact h2
theorem ok_fill {f C : Addr} {fd : FuncData} {j : Nat} (F : Fun K "fill" "fill" sFill f fd) (mF : mg "fill" = some (.ref f)) (MWeighing : WgC K C) (Uis_empty : Use P w K mg base "is_empty" ["spans"] j (spD K 1 tfMt)) (Uchoices_of : Use P w K mg base "choices_of" ["weighing", "spans"] j (spD K 2 (tfChos C))) (Uleast_by : Use P w K mg base "least_by" ["weighing", "spans", "rows"] j (spD K 3 (tfLeast C))) (hj : j ≤ 4) (T : Bl mg) : ∀ n, FnOk P w K mg base CX0 (n + 4) f fd ["weighing", "spans", "rows"] (spD K 3 (tfFill C n))
  | 0 => no0 fun ws M R RX ⟨_, _, _, _, _, _, _, _, _, ⟨_, _, _, _, _, _, _, _, h, _⟩, _⟩ => Nat.not_lt_zero _ h
  | n + 1 => ok_fill1 F MWeighing ⟨f, fd, ok_fill F mF MWeighing Uis_empty Uchoices_of Uleast_by hj T n, mF, F.kp, F.binds (ps := ["weighing", "spans", "rows"]) fun _ _ _ _ _ _ us hl => match us, hl with | [_, _, _], _ => rfl⟩ Uis_empty Uchoices_of Uleast_by hj T
end
end Tl
set_option Elab.async false
set_option linter.all false
set_option maxRecDepth 100000
set_option maxHeartbeats 4000000
/-! min(x, y, z). -/
namespace Tl
open PySem PySem.Spec PyProof.Rows L2
@[reducible] def fMin3 : FL := fun xs M R => ∃ i j l : Int, xs = [.d (.int i), .d (.int j), .d (.int l)] ∧ R (.d (.int (min i (min j l)))) M
theorem nuMin2_int (i j : Int) : nuMin2 (.int i) (.int j) = some (.int (min i j)) := by
  show (some (decide (j < i))).map (fun c : Bool => if c = true then V.int j else V.int i) = _
  rw [Option.map_some]
  by_cases c : j < i
  · rw [decide_eq_true c, if_pos rfl, show min i j = j by omega]
  · rw [decide_eq_false c, if_neg Bool.false_ne_true, show min i j = i by omega]
theorem sc_min3 {K : PySem.W.Frag} : SC K (rNuC3 nuMin3) fMin3 := fun F H M vs xs R Q hr rx hf k => by
  obtain ⟨i, j, l, rfl, h⟩ := hf
  rcases rx with _ | ⟨r1, rx⟩
  rcases rx with _ | ⟨r2, rx⟩
  rcases rx with _ | ⟨r3, rx⟩
  cases rx
  refine ⟨_, _, _, .int (min i (min j l)), rfl, ?_, k _ H F M _ hr .refl (.d (.int _)) h⟩
  rw [r1.int, r2.int, r3.int]
  unfold nuMin3
  rw [nuMin2_int, Option.bind_some, nuMin2_int, Int.min_assoc]
end Tl
set_option Elab.async false
set_option linter.all false
set_option maxRecDepth 100000
set_option maxHeartbeats 8000000
namespace Tl
open PySem L2 RZ
local macro_rules
  | `(tactic| decreasing_trivial) => `(tactic| ((with_reducible (conv => whnf)); (repeat ((first | (with_reducible refine exI (by first | exact mset_same | assumption | (rw [mset_ne (by assumption)]; first | exact mset_same | assumption)) ?_) | (with_reducible refine exI2 (by first | exact mset_same | assumption | (rw [mset_ne (by assumption)]; first | exact mset_same | assumption)) ?_) | (with_reducible refine (gO_i lk_one) ?_) | (with_reducible refine (gO_i lk_oth) ?_) | (with_reducible refine (gO_i lk_cst) ?_) | (with_reducible refine gDs_c ?_) | (with_reducible refine gDs_n ?_) | (with_reducible refine gNs_c ?_) | (with_reducible refine gNs_n ?_) | (with_reducible refine gO_i tyAny_lt ?_) | (with_reducible refine gIs_c ?_) | (with_reducible refine gIs_n ?_) | (with_reducible refine gBs_c ?_) | (with_reducible refine gBs_n ?_) | (with_reducible refine gSs_c ?_) | (with_reducible refine gSs_n ?_) | (with_reducible refine gO_i tyIs_int ?_) | (with_reducible refine gO_i tyIs_bool ?_) | (with_reducible refine gO_i tyIs_str ?_) | (with_reducible refine gO_i tyIs_tuple ?_) | (with_reducible refine gO_i tyIs_list ?_) | (with_reducible refine gDs_i ?_) | (with_reducible refine gO_i (Eq.refl _) ?_) | (with_reducible refine gO_i (by assumption) ?_) | (with_reducible refine gO_i at_0 ?_) | (with_reducible refine gO_i at_m0 ?_) | (with_reducible refine gO_i at_1 ?_) | (with_reducible refine gO_i at_m1 ?_) | (with_reducible refine gO_i at_2 ?_) | (with_reducible refine gO_i at_m2 ?_) | (with_reducible refine gO_i at_3 ?_) | (with_reducible refine gO_i at_m3 ?_) | (with_reducible refine gO_i at_4 ?_) | (with_reducible refine gO_i at_m4 ?_) | (with_reducible refine gO_i at_5 ?_) | (with_reducible refine gO_i at_m5 ?_) | (with_reducible refine gO_i at_6 ?_) | (with_reducible refine gO_i at_m6 ?_) | (with_reducible refine gO_i at_7 ?_) | (with_reducible refine gO_i at_m7 ?_) | (with_reducible refine IfB.ngf ?_) | (with_reducible refine IfB.ngt ?_) | (with_reducible refine IfB.not ?_) | (with_reducible refine IfB.nil ?_) | (with_reducible refine IfB.nilT ?_) | (with_reducible refine IfB.f isE_c ?_) | (with_reducible refine IfB.t isE_n ?_) | (with_reducible refine IfB.t ?gha ?_; (case gha => rfl)) | (with_reducible refine IfB.f ?gha ?_; (case gha => rfl)) | (with_reducible refine IfB.t ?gha ?_; (case gha => assumption)) | (with_reducible refine IfB.f ?gha ?_; (case gha => assumption)) | (with_reducible refine IfB.yes (Eq.refl _) ?_) | (with_reducible refine IfB.yes ?gha ?_; (case gha => (first | omega | (simp only [len_c, len_n, List.length_map]; omega)))) | (with_reducible refine IfB.no ?gha ?_; (case gha => (first | omega | (simp only [len_c, len_n, List.length_map]; omega)))) | (with_reducible refine IfB.t ?gha ?_; (case gha => decide +kernel)) | (with_reducible refine IfB.f ?gha ?_; (case gha => decide +kernel))); (with_reducible (conv => whnf))))))
local macro_rules
  | `(tactic| decreasing_trivial_pre_omega) => `(tactic| (decreasing_trivial; (repeat ((first | ((with_reducible refine And.intro ?gha ?_); (case gha => (first | assumption | omega | exact rfl | (exact mset_same) | (exact ⟨_, mset_same⟩) | (exact Exists.intro _ (by first | exact mset_same | assumption | (rw [mset_ne (by assumption)]; first | exact mset_same | assumption))) | (exact sm_of (by omega) (by omega)) | (exact sz1000 (by first | omega | (simp; done) | (simp; omega))) | (exact Or.inl ⟨by decide, by decide⟩) | decide | (simp; done) | (refine ⟨?_, ?_⟩ <;> (first | assumption | omega | exact rfl | (exact mset_same) | (exact ⟨_, mset_same⟩) | (exact Exists.intro _ (by first | exact mset_same | assumption | (rw [mset_ne (by assumption)]; first | exact mset_same | assumption))) | (exact sm_of (by omega) (by omega)) | (exact sz1000 (by first | omega | (simp; done) | (simp; omega))) | (exact Or.inl ⟨by decide, by decide⟩) | decide | (simp; done))) | (refine ⟨?_, ?_, ?_⟩ <;> (first | assumption | omega | exact rfl | (exact mset_same) | (exact ⟨_, mset_same⟩) | (exact Exists.intro _ (by first | exact mset_same | assumption | (rw [mset_ne (by assumption)]; first | exact mset_same | assumption))) | (exact sm_of (by omega) (by omega)) | (exact sz1000 (by first | omega | (simp; done) | (simp; omega))) | (exact Or.inl ⟨by decide, by decide⟩) | decide | (simp; done))) | (refine ⟨?_, ?_, ?_, ?_⟩ <;> (first | assumption | omega | exact rfl | (exact mset_same) | (exact ⟨_, mset_same⟩) | (exact Exists.intro _ (by first | exact mset_same | assumption | (rw [mset_ne (by assumption)]; first | exact mset_same | assumption))) | (exact sm_of (by omega) (by omega)) | (exact sz1000 (by first | omega | (simp; done) | (simp; omega))) | (exact Or.inl ⟨by decide, by decide⟩) | decide | (simp; done)))))) | (with_reducible refine exW (by first | exact mset_same | assumption | (rw [mset_ne (by assumption)]; first | exact mset_same | assumption)) ?_)); decreasing_trivial))))
abbrev sI_NoCosts : Stmt := inClsN (top 5) 0
theorem scI_NoCosts : FnScope ["self", "what"] ["self", "what"] (defScope sI_NoCosts) := ⟨rfl, rfl, rfl, by decide +kernel, rfl, by decide +kernel, by decide +kernel⟩
theorem okI_NoCosts {P : Program} {w : World} {K : PySem.W.Frag} {mg : Str → Option Value} {base : Heap} {f C : Addr} {fd : FuncData} {k : Nat} (F : Fun K "__init__" "NoCosts.__init__" sI_NoCosts f fd) (o : OexC K C) (n : PySem.W.findIn K (.ref C) "what" = some none) : FnOk P w K mg base CX0 (k + 1) f fd ["self", "what"] (spInitF K C "what") := by
  refine F.ok scI_NoCosts (fun vs H Q E h => ?_) (fun cdv A outer s H vs Q E hr h => ?_)
  · obtain ⟨_, _, rfl, _⟩ := h
    rfl
  obtain ⟨a, v, rfl, ha, q⟩ := h
  exact ⟨_, pss_one (ps_ost (pv 0) (pv 1)), _, rfl, _, rfl, a, C, rfl, o, n, .inl ⟨ha, fun dx h1 h2 => q dx h1 h2⟩⟩
abbrev sI_TooMany : Stmt := inClsN (top 7) 0
theorem scI_TooMany : FnScope ["self", "count"] ["self", "count"] (defScope sI_TooMany) := ⟨rfl, rfl, rfl, by decide +kernel, rfl, by decide +kernel, by decide +kernel⟩
theorem okI_TooMany {P : Program} {w : World} {K : PySem.W.Frag} {mg : Str → Option Value} {base : Heap} {f C : Addr} {fd : FuncData} {k : Nat} (F : Fun K "__init__" "TooMany.__init__" sI_TooMany f fd) (o : OexC K C) (n : PySem.W.findIn K (.ref C) "count" = some none) : FnOk P w K mg base CX0 (k + 1) f fd ["self", "count"] (spInitF K C "count") := by
  refine F.ok scI_TooMany (fun vs H Q E h => ?_) (fun cdv A outer s H vs Q E hr h => ?_)
  · obtain ⟨_, _, rfl, _⟩ := h
    rfl
  obtain ⟨a, v, rfl, ha, q⟩ := h
  exact ⟨_, pss_one (ps_ost (pv 0) (pv 1)), _, rfl, _, rfl, a, C, rfl, o, n, .inl ⟨ha, fun dx h1 h2 => q dx h1 h2⟩⟩
theorem costs_in {d : PyData} (h : costsB d = true) : ∃ c : Cst, c.In ∧ d = cstD c := by
  cases d with
  | tuple ds =>
    rw [costsB, Bool.and_eq_true] at h
    have hl := of_decide_eq_true h.1
    match ds, hl, h.2 with
    | [x, y, z], _, h2 =>
      simp only [List.all_cons, List.all_nil, Bool.and_true, Bool.and_eq_true] at h2
      have go : ∀ {x : PyData}, isCost x = true → ∃ n : Nat, x = .int (n : Nat) ∧ 1 ≤ n ∧ n ≤ 100 := fun {x} hx => by
        cases x with
        | int i =>
          rw [isCost, Bool.and_eq_true] at hx
          have a1 := of_decide_eq_true hx.1
          have a2 := of_decide_eq_true hx.2
          exact ⟨i.toNat, by rw [Int.toNat_of_nonneg (by omega)], by omega, by omega⟩
        | _ => simp [isCost] at hx
      obtain ⟨a, rfl, a1, a2⟩ := go h2.1
      obtain ⟨b, rfl, b1, b2⟩ := go h2.2.1
      obtain ⟨c, rfl, c1, c2⟩ := go h2.2.2
      exact ⟨⟨a, b, c⟩, ⟨a1, a2, b1, b2, c1, c2⟩, rfl⟩
  | _ => simp [costsB] at h
/-- what is weighed, or why not -/
structure WgT (cT cC cM : Addr) (d1 d2 dc : PyData) (good : Cst → Prop) (RX : Ex → Mem → Prop) (M : Mem) : Prop where
  t1 : txt d1 = true
  t2 : txt d2 = true
  t3 : txt dc = true
  no1 : isTreeD d1 = false → RX ⟨.ref cT, []⟩ M
  no2 : isTreeD d1 = true → isTreeD d2 = false → RX ⟨.ref cT, []⟩ M
  noC : isTreeD d1 = true → isTreeD d2 = true → costsB dc = false → RX ⟨.ref cC, [("what", .str "costs")]⟩ M
  m1 : isTreeD d1 = true → isTreeD d2 = true → costsB dc = true → 12 < nn d1 → RX ⟨.ref cM, [("count", .int (nn d1 : Int))]⟩ M
  m2 : isTreeD d1 = true → isTreeD d2 = true → costsB dc = true → nn d1 ≤ 12 → 12 < nn d2 → RX ⟨.ref cM, [("count", .int (nn d2 : Int))]⟩ M
  ok : isTreeD d1 = true → isTreeD d2 = true → nn d1 ≤ 12 → nn d2 ≤ 12 → ∀ c, c.In → dc = cstD c → good c
@[reducible] def tfWgX (C cT cC cM : Addr) : TF := fun ws M R RX => ∃ d1 d2 dc : PyData, ws = [.d d1, .d d2, .d dc] ∧ WgT cT cC cM d1 d2 dc (fun c => ∀ a dx, M a = none → R (.r a) (mset M a (.ins C dx (wgF (labOf d1) (labOf d2) c)))) RX M
section
variable {P : Program} {w : World} {K : PySem.W.Frag} {mg : Str → Option Value} {base : Heap}
abbrev sWgd2 : Stmt := top 32
theorem scWgd2 : FnScope ["one", "other", "costs", "tree"] ["one", "other", "costs"] (defScope sWgd2) := ⟨rfl, rfl, rfl, by decide +kernel, rfl, by decide +kernel, by decide +kernel⟩
theorem ok_wgdX {f C cT cC cM : Addr} {fd : FuncData} {k j : Nat} (F : Fun K "weighed" "weighed" sWgd2 f fd) (XNoCosts : ErF K mg "NoCosts" "NoCosts.__init__" "what" sI_NoCosts cC) (XTooMany : ErF K mg "TooMany" "TooMany.__init__" "count" sI_TooMany cM) (Ucheck_tree : UseX P w K mg base "check_tree" ["thing"] j (spD K 1 (tfChk isTreeD cT))) (Uis_costs : Use P w K mg base "is_costs" ["thing"] j (spD K 1 (tfB costsB))) (Ucount_places : Use P w K mg base "count_places" ["tree"] j (spD K 1 (tfN nn 12))) (UWeighing : UseC P w K mg base C "Weighing" ["self", "one", "other", "costs"] j (spD K 4 (tfWgIn C))) (hj : j + 1 ≤ k) (hk : 2 ≤ k) (T : Bl mg) (CN : ∃ t, mg "NEAR" = some (.int 12 t)) : FnOk P w K mg base (L2.CX P w) (k + 1) f fd ["one", "other", "costs"] (spD K 3 (tfWgX C cT cC cM)) := by
  obtain ⟨fiNoCosts, fdNoCosts, iNoCosts, tNoCosts, FNoCosts⟩ := XNoCosts.i
  have okNoCosts := okI_NoCosts (P := P) (w := w) (mg := mg) (base := base) (k := 0) FNoCosts XNoCosts.o XNoCosts.n
  have bNoCosts := FNoCosts.binds (ps := ["self", "what"]) fun _ _ _ _ _ _ us hl => match us, hl with | [_, _], _ => rfl
  obtain ⟨fiTooMany, fdTooMany, iTooMany, tTooMany, FTooMany⟩ := XTooMany.i
  have okTooMany := okI_TooMany (P := P) (w := w) (mg := mg) (base := base) (k := 0) FTooMany XTooMany.o XTooMany.n
  have bTooMany := FTooMany.binds (ps := ["self", "count"]) fun _ _ _ _ _ _ us hl => match us, hl with | [_, _], _ => rfl
  refine okDX F scWgd2 rfl fun cdv A outer s H E hr => ?_
  refine ⟨_, fun RE => _, (pss_cons (ps_expr (pe_callS Ucheck_tree.ok (hr.mono (by omega)) rfl Ucheck_tree.m Ucheck_tree.kp Ucheck_tree.b (fun σ => passAt (takes_of (E := E) rfl rfl rfl rfl) σ) (pa_cons (pv 0) pa_nil)))
    (pss_cons (ps_expr (pe_callS Ucheck_tree.ok (hr.mono (by omega)) rfl Ucheck_tree.m Ucheck_tree.kp Ucheck_tree.b (fun σ => passAt (takes_of (E := E) rfl rfl rfl rfl) σ) (pa_cons (pv 1) pa_nil)))
    (pss_cons (ps_if (pt_not (pt_val (PE.nox (pe_call Uis_costs.ok (hr.mono (by omega)) rfl Uis_costs.m Uis_costs.kp Uis_costs.b .nil pass0 (pa_cons (pv 2) pa_nil))))) (pss_one (ps_raise rfl (takes_of (E := E) rfl rfl rfl rfl) (pmk_oex XNoCosts.o iNoCosts tNoCosts okNoCosts (hr.mono (by omega)) bNoCosts .nil pass0 (by exact rfl) XNoCosts.g (pa_cons pe_str pa_nil)))) pss_nil)
    (pss_cons (ps_for (passes_of rfl) rfl (pi_tup (pe_tup (pa_cons (pv 0) (pa_cons (pv 1) pa_nil)))) (pg_name (i := 3) scWgd2.nd rfl (.inl rfl)) (pss_one (ps_if (pt_cmpR op_gt (PE.nox (pe_call Ucount_places.ok (hr.mono (by omega)) rfl Ucount_places.m Ucount_places.kp Ucount_places.b .nil pass0 (pa_cons (pv 3) pa_nil))) (c_int CN) (nomark _)) (pss_one (ps_raise rfl (takes_of (E := E) rfl rfl rfl rfl) (pmk_oex XTooMany.o iTooMany tTooMany okTooMany (hr.mono (by omega)) bTooMany .nil pass0 (by exact rfl) XTooMany.g (pa_cons (PE.nox (pe_call Ucount_places.ok (hr.mono (by omega)) rfl Ucount_places.m Ucount_places.kp Ucount_places.b .nil pass0 (pa_cons (pv 3) pa_nil))) pa_nil)))) pss_nil)))
    (pss_one (ps_ret (pe_makeE UWeighing.made UWeighing.ok (hr.mono (by omega)) (by rfl) UWeighing.m UWeighing.b (fun σ => passAt (takes_of (E := E) rfl rfl rfl rfl) σ) (pa_cons (pv 0) (pa_cons (pv 1) (pa_cons (pv 2) pa_nil)))))))))), fun RE => (ss_cons (ss_drop (se_callX (sa_cons se_nm sa_nil)))
    (ss_cons (ss_drop (se_callX (sa_cons se_nm sa_nil)))
    (ss_cons (ss_if (st_not (st_val (se_call (sa_cons se_nm sa_nil)))) (ss_raiseF (sa_cons se_str sa_nil)) ss_nil)
    (ss_cons (ss_for (si_tup (se_tup (sa_cons se_nm (sa_cons se_nm sa_nil)))) sg_name (ss_if (st_test (se_op so_gt (se_call (sa_cons se_nm sa_nil)) se_int)) (ss_raiseF (sa_cons (se_call (sa_cons se_nm sa_nil)) sa_nil)) ss_nil))
    (ss_ret (se_makeX (sa_cons se_nm (sa_cons se_nm (sa_cons se_nm sa_nil))))))))), fun ws M R RX hl h => ?_⟩
  obtain ⟨d1, d2, dc, rfl, hW⟩ := h
  have x1 := hW.t1
  have x2 := hW.t2
  have x3 := hW.t3
  simp only [start0, len_c, len_n, map_c, map_n, app_c, app_n, rep_0, rep_s, Nat.reduceAdd, Nat.reduceSub]
  decreasing_trivial_pre_omega
  refine ⟨fun i1 => ?_, fun z => hW.no1 z⟩
  decreasing_trivial_pre_omega
  refine ⟨fun i2 => ?_, fun z => hW.no2 i1 z⟩
  obtain ⟨r1, r2⟩ := tree_iff.mp i1
  obtain ⟨r3, r4⟩ := tree_iff.mp i2
  decreasing_trivial_pre_omega
  cases ec : costsB dc with
  | false =>
    have := hW.noC i1 i2 ec
    decreasing_trivial_pre_omega
    exact this
  | true =>
    obtain ⟨c, hc, rfl⟩ := costs_in ec
    decreasing_trivial_pre_omega
    show forGo _ _ _ _ ([W.d d1] :: [W.d d2] :: []) _ _
    rw [forGo]
    refine ⟨trivial, ?_⟩
    decreasing_trivial_pre_omega
    refine IfB.d (fun c1 => ?_) (fun c1 => ?_)
    · have := hW.m1 i1 i2 ec (by omega)
      decreasing_trivial_pre_omega
      exact this
    · decreasing_trivial_pre_omega
      rw [forGo]
      refine ⟨trivial, ?_⟩
      decreasing_trivial_pre_omega
      refine IfB.d (fun c2 => ?_) (fun c2 => ?_)
      · have := hW.m2 i1 i2 ec (by omega) (by omega)
        decreasing_trivial_pre_omega
        exact this
      · decreasing_trivial_pre_omega
        rw [forGo]
        refine ⟨trivial, ?_⟩
        decreasing_trivial_pre_omega
        intro a dx ha
        refine ⟨a, dx, d1, d2, c, rfl, ⟨mset_same, r1, by omega, r3, by omega⟩, rfl, ?_⟩
        rw [mset_mset]
        exact hW.ok i1 i2 (by omega) (by omega) c hc rfl a dx ha
/-- all rows of two walks -/
def tbR (A B : Lab) (c : Cst) : Rws := fillR A B c 25 (topsOf A B) []
theorem tops_spn {A B : Lab} : Spn A B (topsOf A B) := ⟨⟨Nat.zero_le _, Nat.sub_le _ _, fun _ _ _ _ _ => Nat.zero_le _⟩, ⟨Nat.zero_le _, Nat.sub_le _ _, fun _ _ _ _ _ => Nat.zero_le _⟩⟩
theorem tops_sz {A B : Lab} (h1 : A.length ≤ 12) (h2 : B.length ≤ 12) : (topsOf A B).sz < 25 := by
  unfold topsOf Sp4.sz
  dsimp only
  omega
theorem kr_nil {c : Cst} : KR c [] := ⟨List.nodup_nil, fun r h => by cases h⟩
@[reducible] def tfRows (C : Addr) : TF := fun ws M R _ => ∃ (a dx : Addr) (A B : Lab) (c : Cst), ws = [.r a] ∧ (M a = some (.ins C dx (wgF A B c)) ∧ c.Ok ∧ Nst A ∧ Nst B ∧ 1 ≤ A.length ∧ A.length ≤ 12 ∧ 1 ≤ B.length ∧ B.length ≤ 12) ∧ ∀ p, M p = none → R (.r p) (mset M p (.dT (kwL (tbR A B c))))
abbrev sTld : Stmt := top 38
theorem scTld : FnScope ["weighing", "rows"] ["weighing"] (defScope sTld) := ⟨rfl, rfl, rfl, by decide +kernel, rfl, by decide +kernel, by decide +kernel⟩
theorem ok_tld {f C : Addr} {fd : FuncData} {k j : Nat} (F : Fun K "told_rows" "told_rows" sTld f fd) (MWeighing : WgC K C) (Ufill : Use P w K mg base "fill" ["weighing", "spans", "rows"] j (spD K 3 (tfFill C 25))) (UWeighing_below_tops : UseM P w K mg base C "below_tops" ["self"] j (spD K 1 (tfTops C))) (hj : j ≤ k) (T : Bl mg) : FnOk P w K mg base CX0 (k + 1) f fd ["weighing"] (spD K 1 (tfRows C)) := by
  refine okD F scTld rfl fun cdv A' outer s H E hr => ?_
  refine ⟨_, _, (pss_cons (ps_set (i := 1) scTld.nd rfl (.inl rfl) pe_unew)
    (pss_cons (ps_expr (pe_call Ufill.ok (hr.mono (by omega)) rfl Ufill.m Ufill.kp Ufill.b .nil pass0 (pa_cons (pv 0) (pa_cons (pe_meth0 (E := fun _ _ _ => False) (pv 0) MWeighing.cls UWeighing_below_tops.hm UWeighing_below_tops.ok (hr.mono (by omega)) UWeighing_below_tops.b .nil pass0) (pa_cons (pv 1) pa_nil)))))
    (pss_one (ps_ret (pv 1))))),
    (ss_cons (ss_set se_newU)
    (ss_cons (ss_drop (se_call (sa_cons se_nm (sa_cons (se_meth se_nm sa_nil) (sa_cons se_nm sa_nil)))))
    (ss_ret se_nm))), fun ws M R RX hl h => ?_⟩
  obtain ⟨a, dx, A, B, c, rfl, ⟨hM, hc, hA, hB, a1, a2, b1, b2⟩, h2⟩ := h
  simp only [start0, len_c, len_n, map_c, map_n, app_c, app_n, rep_0, rep_s, Nat.reduceAdd, Nat.reduceSub]
  decreasing_trivial_pre_omega
  intro p hp
  have ap : a ≠ p := fun z => by rw [← z, hM] at hp; cases hp
  have fA : ∀ o, mset M p o a = some (.ins C dx (wgF A B c)) := fun o => by rw [mset_ne ap]; exact hM
  decreasing_trivial_pre_omega
  refine ⟨a, dx, A, B, c, rfl, ⟨fA _, by omega, by omega, by omega, by omega⟩, ?_⟩
  decreasing_trivial_pre_omega
  refine ⟨a, dx, A, B, c, topsOf A B, p, [], rfl, ⟨fA _, mset_same, hc, hA, hB, tops_spn, a2, b2, tops_sz a2 b2, kr_nil⟩, ?_⟩
  rw [mset_mset]
  decreasing_trivial_pre_omega
  exact h2 p hp
end
end Tl
set_option Elab.async false
set_option linter.all false
set_option maxRecDepth 100000
set_option maxHeartbeats 8000000
namespace Tl
open PySem L2 RZ
local macro_rules
  | `(tactic| decreasing_trivial) => `(tactic| ((with_reducible (conv => whnf)); (repeat ((first | (with_reducible refine exI (by first | exact mset_same | assumption | (rw [mset_ne (by assumption)]; first | exact mset_same | assumption)) ?_) | (with_reducible refine exI2 (by first | exact mset_same | assumption | (rw [mset_ne (by assumption)]; first | exact mset_same | assumption)) ?_) | (with_reducible refine (gO_i lk_one) ?_) | (with_reducible refine (gO_i lk_oth) ?_) | (with_reducible refine (gO_i lk_cst) ?_) | (with_reducible refine gDs_c ?_) | (with_reducible refine gDs_n ?_) | (with_reducible refine gNs_c ?_) | (with_reducible refine gNs_n ?_) | (with_reducible refine gO_i tyAny_lt ?_) | (with_reducible refine gIs_c ?_) | (with_reducible refine gIs_n ?_) | (with_reducible refine gBs_c ?_) | (with_reducible refine gBs_n ?_) | (with_reducible refine gSs_c ?_) | (with_reducible refine gSs_n ?_) | (with_reducible refine gO_i tyIs_int ?_) | (with_reducible refine gO_i tyIs_bool ?_) | (with_reducible refine gO_i tyIs_str ?_) | (with_reducible refine gO_i tyIs_tuple ?_) | (with_reducible refine gO_i tyIs_list ?_) | (with_reducible refine gDs_i ?_) | (with_reducible refine gO_i (Eq.refl _) ?_) | (with_reducible refine gO_i (by assumption) ?_) | (with_reducible refine gO_i at_0 ?_) | (with_reducible refine gO_i at_m0 ?_) | (with_reducible refine gO_i at_1 ?_) | (with_reducible refine gO_i at_m1 ?_) | (with_reducible refine gO_i at_2 ?_) | (with_reducible refine gO_i at_m2 ?_) | (with_reducible refine gO_i at_3 ?_) | (with_reducible refine gO_i at_m3 ?_) | (with_reducible refine gO_i at_4 ?_) | (with_reducible refine gO_i at_m4 ?_) | (with_reducible refine gO_i at_5 ?_) | (with_reducible refine gO_i at_m5 ?_) | (with_reducible refine gO_i at_6 ?_) | (with_reducible refine gO_i at_m6 ?_) | (with_reducible refine gO_i at_7 ?_) | (with_reducible refine gO_i at_m7 ?_) | (with_reducible refine IfB.ngf ?_) | (with_reducible refine IfB.ngt ?_) | (with_reducible refine IfB.not ?_) | (with_reducible refine IfB.nil ?_) | (with_reducible refine IfB.nilT ?_) | (with_reducible refine IfB.f isE_c ?_) | (with_reducible refine IfB.t isE_n ?_) | (with_reducible refine IfB.t ?gha ?_; (case gha => rfl)) | (with_reducible refine IfB.f ?gha ?_; (case gha => rfl)) | (with_reducible refine IfB.t ?gha ?_; (case gha => assumption)) | (with_reducible refine IfB.f ?gha ?_; (case gha => assumption)) | (with_reducible refine IfB.yes (Eq.refl _) ?_) | (with_reducible refine IfB.yes ?gha ?_; (case gha => (first | omega | (simp only [len_c, len_n, List.length_map]; omega)))) | (with_reducible refine IfB.no ?gha ?_; (case gha => (first | omega | (simp only [len_c, len_n, List.length_map]; omega)))) | (with_reducible refine IfB.t ?gha ?_; (case gha => decide +kernel)) | (with_reducible refine IfB.f ?gha ?_; (case gha => decide +kernel))); (with_reducible (conv => whnf))))))
local macro_rules
  | `(tactic| decreasing_trivial_pre_omega) => `(tactic| (decreasing_trivial; (repeat ((first | ((with_reducible refine And.intro ?gha ?_); (case gha => (first | assumption | omega | exact rfl | (exact mset_same) | (exact ⟨_, mset_same⟩) | (exact Exists.intro _ (by first | exact mset_same | assumption | (rw [mset_ne (by assumption)]; first | exact mset_same | assumption))) | (exact sm_of (by omega) (by omega)) | (exact sz1000 (by first | omega | (simp; done) | (simp; omega))) | (exact Or.inl ⟨by decide, by decide⟩) | decide | (simp; done) | (refine ⟨?_, ?_⟩ <;> (first | assumption | omega | exact rfl | (exact mset_same) | (exact ⟨_, mset_same⟩) | (exact Exists.intro _ (by first | exact mset_same | assumption | (rw [mset_ne (by assumption)]; first | exact mset_same | assumption))) | (exact sm_of (by omega) (by omega)) | (exact sz1000 (by first | omega | (simp; done) | (simp; omega))) | (exact Or.inl ⟨by decide, by decide⟩) | decide | (simp; done))) | (refine ⟨?_, ?_, ?_⟩ <;> (first | assumption | omega | exact rfl | (exact mset_same) | (exact ⟨_, mset_same⟩) | (exact Exists.intro _ (by first | exact mset_same | assumption | (rw [mset_ne (by assumption)]; first | exact mset_same | assumption))) | (exact sm_of (by omega) (by omega)) | (exact sz1000 (by first | omega | (simp; done) | (simp; omega))) | (exact Or.inl ⟨by decide, by decide⟩) | decide | (simp; done))) | (refine ⟨?_, ?_, ?_, ?_⟩ <;> (first | assumption | omega | exact rfl | (exact mset_same) | (exact ⟨_, mset_same⟩) | (exact Exists.intro _ (by first | exact mset_same | assumption | (rw [mset_ne (by assumption)]; first | exact mset_same | assumption))) | (exact sm_of (by omega) (by omega)) | (exact sz1000 (by first | omega | (simp; done) | (simp; omega))) | (exact Or.inl ⟨by decide, by decide⟩) | decide | (simp; done)))))) | (with_reducible refine exW (by first | exact mset_same | assumption | (rw [mset_ne (by assumption)]; first | exact mset_same | assumption)) ?_)); decreasing_trivial))))
theorem nst_of {n : Nat} {d : PyData} (h : TrT n d) : Nst (labOf d) := by
  intro j x hx
  unfold labOf at hx
  rw [List.getElem?_map] at hx
  obtain ⟨y, hy, rfl⟩ := Option.map_eq_some_iff.mp hx
  obtain ⟨⟨p1, p2⟩, p3⟩ := wk_ns n d [] 0 h j y.2.2 (by rw [List.getElem?_map, hy]; rfl)
  refine ⟨by show y.2.2 ≤ j; omega, fun i z hi hz hz2 => ?_⟩
  unfold labOf at hz2
  rw [List.getElem?_map] at hz2
  obtain ⟨u, hu, rfl⟩ := Option.map_eq_some_iff.mp hz2
  exact p3 i u.2.2 hi (by have : y.2.2 ≤ i := hz; omega) (by rw [List.getElem?_map, hu]; rfl)
section
variable {P : Program} {w : World} {K : PySem.W.Frag} {mg : Str → Option Value} {base : Heap}
def optV : Option Int → Int
  | some v => v
  | none => 0
/-- the least cost -/
def costD (d1 d2 : PyData) (c : Cst) : Int := optV (wN c (kwL (tbR (labOf d1) (labOf d2) c)) (topsOf (labOf d1) (labOf d2))) + (nam (labOf d1) (labOf d2) c ((labOf d1).length - 1) ((labOf d2).length - 1) : Nat)
@[reducible] def tfCost (C cT cC cM : Addr) : TF := fun ws M R RX => ∃ d1 d2 dc : PyData, ws = [.d d1, .d d2, .d dc] ∧ WgT cT cC cM d1 d2 dc (fun c => R (.d (.int (costD d1 d2 c))) M) RX M
abbrev sCbt : Stmt := top 39
theorem scCbt : FnScope ["one", "other", "costs", "weighing", "whole"] ["one", "other", "costs"] (defScope sCbt) := ⟨rfl, rfl, rfl, by decide +kernel, rfl, by decide +kernel, by decide +kernel⟩
theorem ok_cbt {f C cT cC cM : Addr} {fd : FuncData} {k j : Nat} (F : Fun K "cost_between" "cost_between" sCbt f fd) (MWeighing : WgC K C) (Uweighed : UseX P w K mg base "weighed" ["one", "other", "costs"] j (spD K 3 (tfWgX C cT cC cM))) (Utold_rows : Use P w K mg base "told_rows" ["weighing"] j (spD K 1 (tfRows C))) (Uworth_in : Use P w K mg base "worth_in" ["weighing", "spans", "rows"] j (spD K 3 (tfWorth C))) (UWeighing_below_tops : UseM P w K mg base C "below_tops" ["self"] j (spD K 1 (tfTops C))) (UWeighing_naming : UseM P w K mg base C "naming" ["self", "number", "other"] j (spD K 3 (tfNaming C))) (hj : j ≤ k) (T : Bl mg) : FnOk P w K mg base (L2.CX P w) (k + 1) f fd ["one", "other", "costs"] (spD K 3 (tfCost C cT cC cM)) := by
  refine okDXLL F scCbt rfl fun cdv A' outer s H E hr => ?_
  refine ⟨_, fun RE => _, (pss_cons (ps_set (i := 3) scCbt.nd rfl (.inl rfl) (pe_callS Uweighed.ok (hr.mono (by omega)) rfl Uweighed.m Uweighed.kp Uweighed.b (fun σ => passAt (takes_of (E := E) rfl rfl rfl rfl) σ) (pa_cons (pv 0) (pa_cons (pv 1) (pa_cons (pv 2) pa_nil)))))
    (pss_cons (ps_set (i := 4) scCbt.nd rfl (.inl rfl) (pe_meth0 (E := fun _ _ _ => False) (pv 3) MWeighing.cls UWeighing_below_tops.hm UWeighing_below_tops.ok (hr.mono (by omega)) UWeighing_below_tops.b .nil pass0))
    (pss_one (ps_ret (pe_op op_add (PE.nox (pe_call Uworth_in.ok (hr.mono (by omega)) rfl Uworth_in.m Uworth_in.kp Uworth_in.b .nil pass0 (pa_cons (pv 3) (pa_cons (pv 4) (pa_cons (PE.nox (pe_call Utold_rows.ok (hr.mono (by omega)) rfl Utold_rows.m Utold_rows.kp Utold_rows.b .nil pass0 (pa_cons (pv 3) pa_nil))) pa_nil))))) (pe_meth (E := fun _ _ _ => False) (pv 3) MWeighing.cls UWeighing_naming.hm UWeighing_naming.ok (hr.mono (by omega)) UWeighing_naming.b .nil pass0 (pa_cons (pe_ix ix_tup (pv 4) pe_int (fun _ _ => rfl)) (pa_cons (pe_ix ix_tup (pv 4) pe_int (fun _ _ => rfl)) pa_nil)))))))), fun RE => (ss_cons (ss_set (se_callX (sa_cons se_nm (sa_cons se_nm (sa_cons se_nm sa_nil)))))
    (ss_cons (ss_set (se_meth se_nm sa_nil))
    (ss_ret (se_op so_add (se_call (sa_cons se_nm (sa_cons se_nm (sa_cons (se_call (sa_cons se_nm sa_nil)) sa_nil)))) (se_meth se_nm (sa_cons (se_op so_ixT se_nm se_int) (sa_cons (se_op so_ixT se_nm se_int) sa_nil))))))), fun ws M R RX hl h => ?_⟩
  obtain ⟨d1, d2, dc, rfl, hW⟩ := h
  simp only [start0, len_c, len_n, map_c, map_n, app_c, app_n, rep_0, rep_s, Nat.reduceAdd, Nat.reduceSub]
  decreasing_trivial_pre_omega
  have lX : ∀ {x : Ex}, RX x M → laxX RX x M := fun {x} h => ⟨M, fun _ _ e => e, h⟩
  refine ⟨d1, d2, dc, rfl, ⟨hW.t1, hW.t2, hW.t3, fun z => lX (hW.no1 z), fun z z2 => lX (hW.no2 z z2), fun z z2 z3 => lX (hW.noC z z2 z3), fun z z2 z3 z4 => lX (hW.m1 z z2 z3 z4), fun z z2 z3 z4 z5 => lX (hW.m2 z z2 z3 z4 z5), fun i1 i2 n1 n2 c hc ec a dx ha => ?_⟩⟩
  have lx : ∀ {v : W} {p : Addr} {o o2 : MO}, M p = none → R v M → lax R v (mset (mset M a o) p o2) := fun {v p o o2} hp h => ⟨M, fun b u e => by rw [mset_ne (fun z => by rw [z, hp] at e; cases e), mset_ne (fun z => by rw [z, ha] at e; cases e)]; exact e, h⟩
  have hok := hW.ok i1 i2 n1 n2 c hc ec
  obtain ⟨r1, _⟩ := tree_iff.mp i1
  obtain ⟨r3, _⟩ := tree_iff.mp i2
  have la := lab_len r1
  have lb := lab_len r3
  have pa := nn_pos d1
  have pb := nn_pos d2
  have hA := nst_of r1
  have hB := nst_of r3
  have cOk : c.Ok := ⟨hc.2.1, hc.2.2.2.1, hc.2.2.2.2.2⟩
  decreasing_trivial_pre_omega
  refine ⟨a, dx, labOf d1, labOf d2, c, rfl, ⟨mset_same, by omega, by omega, by omega, by omega⟩, ?_⟩
  decreasing_trivial_pre_omega
  refine ⟨a, dx, labOf d1, labOf d2, c, rfl, ⟨mset_same, cOk, hA, hB, by omega, by omega, by omega, by omega⟩, fun p hp => ?_⟩
  have ap : a ≠ p := fun z => by rw [← z, mset_same] at hp; cases hp
  have hp0 : M p = none := by rw [mset_ne ap.symm] at hp; exact hp
  have fA : ∀ o, mset (mset M a (.ins C dx (wgF (labOf d1) (labOf d2) c))) p o a = some (.ins C dx (wgF (labOf d1) (labOf d2) c)) := fun o => by rw [mset_ne ap]; exact mset_same
  obtain ⟨v, hv⟩ := fill_has (labOf d1) (labOf d2) c (tops_sz (A := labOf d1) (B := labOf d2) (by omega) (by omega)) []
  have hv : wN c (kwL (tbR (labOf d1) (labOf d2) c)) (topsOf (labOf d1) (labOf d2)) = some v := hv
  unfold costD at hok
  rw [hv] at hok
  decreasing_trivial_pre_omega
  refine ⟨a, dx, labOf d1, labOf d2, c, topsOf (labOf d1) (labOf d2), p, _, _, rfl, ⟨fA _, ⟨mset_same, rfl⟩, cOk, Nat.zero_le _, Nat.zero_le _, by show (labOf d1).length - 1 ≤ 1000; omega, by show (labOf d2).length - 1 ≤ 1000; omega⟩, ?_⟩
  rw [wrt_wN (numR_L _), hv]
  unfold optI
  dsimp only
  decreasing_trivial_pre_omega
  refine ⟨a, dx, labOf d1, labOf d2, c, (labOf d1).length - 1, (labOf d2).length - 1, rfl, ⟨fA _, by omega, by omega⟩, ?_⟩
  decreasing_trivial_pre_omega
  exact lx hp0 hok
end
end Tl
set_option Elab.async false
set_option linter.all false
set_option maxRecDepth 100000
set_option maxHeartbeats 8000000
namespace Tl
open PySem L2 RZ
theorem putR_new {rs : Rws} {s : Sp4} {v : Int} (h : look rs s = none) : putR rs s v = rs ++ [(s, v)] := by
  unfold putR
  rw [h]
  rfl
theorem mem_look {rs : Rws} {r : Sp4 × Int} (h : r ∈ rs) : (look rs r.1).isSome = true := by
  unfold look
  rw [Option.isSome_map]
  exact List.find?_isSome.mpr ⟨r, h, by simp⟩
/-- what a row rests on is told by the rows -/
def RowR (A B : Lab) (c : Cst) (rs : Rws) (r : Sp4 × Int) : Prop := ∃ i1 i2 i3 i4, wN c (kwL rs) ⟨r.1.a, r.1.b - 1, r.1.c, r.1.d⟩ = some i1 ∧ wN c (kwL rs) ⟨r.1.a, r.1.b, r.1.c, r.1.d - 1⟩ = some i2 ∧ wN c (kwL rs) ⟨r.1.a, lowOf A (r.1.b - 1), r.1.c, lowOf B (r.1.d - 1)⟩ = some i3 ∧ wN c (kwL rs) ⟨lowOf A (r.1.b - 1), r.1.b - 1, lowOf B (r.1.d - 1), r.1.d - 1⟩ = some i4 ∧ r.2 = min ((c.out : Int) + i1) (min ((c.into : Int) + i2) ((nam A B c (r.1.b - 1) (r.1.d - 1) : Int) + (i3 + i4)))
theorem RowR.ext {A B : Lab} {c : Cst} {rs rs' : Rws} {r : Sp4 × Int} (h : RowR A B c rs r) (e : Ext rs rs') : RowR A B c rs' r := by
  obtain ⟨i1, i2, i3, i4, h1, h2, h3, h4, h5⟩ := h
  exact ⟨i1, i2, i3, i4, ext_wN e h1, ext_wN e h2, ext_wN e h3, ext_wN e h4, h5⟩
/-- rows that were filled rightly -/
structure Rgt (A B : Lab) (c : Cst) (rs : Rws) : Prop where
  row : ∀ r ∈ rs, RowR A B c rs r
  spn : ∀ r ∈ rs, Spn A B r.1 ∧ r.1.mt = false
theorem fill_rgt {A B : Lab} {c : Cst} (hA : Nst A) (hB : Nst B) : ∀ (n : Nat) (s : Sp4) (rs : Rws), Spn A B s → s.sz < n → Rgt A B c rs → Rgt A B c (fillR A B c n s rs) ∧ ∀ r ∈ fillR A B c n s rs, r ∈ rs ∨ r.1.sz ≤ s.sz
  | 0, s, rs, _, hz, _ => absurd hz (Nat.not_lt_zero _)
  | n + 1, s, rs, hs, hz, hk => by
    rw [fillR]
    split
    · exact ⟨hk, fun r h => .inl h⟩
    · rename_i hc
      have hm : s.mt = false := by
        cases e : s.mt with
        | false => rfl
        | true => rw [e] at hc; exact absurd rfl hc
      have hl0 : look rs s = none := by
        cases e : look rs s with
        | none => rfl
        | some v => rw [e, Option.isSome_some, Bool.or_true] at hc; exact absurd rfl hc
      have hi := inns_ok hA hB hs hm
      have hfold : ∀ (l : List Sp4) (r : Rws), (∀ t ∈ l, Spn A B t ∧ t.sz < n ∧ t.sz < s.sz) → Rgt A B c r → Rgt A B c (l.foldl (fun r t => fillR A B c n t r) r) ∧ ∀ x ∈ l.foldl (fun r t => fillR A B c n t r) r, x ∈ r ∨ x.1.sz < s.sz := by
        intro l
        induction l with
        | nil => exact fun r _ h => ⟨h, fun x hx => .inl hx⟩
        | cons t l ih =>
          intro r hl h
          obtain ⟨h1, h2, h3⟩ := hl t (.head _)
          obtain ⟨q1, q2⟩ := fill_rgt hA hB n t r h1 h2 h
          obtain ⟨q3, q4⟩ := ih _ (fun x hx => hl x (.tail _ hx)) q1
          refine ⟨q3, fun x hx => ?_⟩
          rcases q4 x hx with hx | hx
          · rcases q2 x hx with hx | hx
            · exact .inl hx
            · exact .inr (by omega)
          · exact .inr hx
      obtain ⟨k4, k5⟩ := hfold _ rs (fun t ht => ⟨(hi t ht).1, by have := (hi t ht).2; omega, (hi t ht).2⟩) hk
      obtain ⟨⟨i1, f1⟩, ⟨i2, f2⟩, ⟨i3, f3⟩, ⟨i4, f4⟩⟩ := inns_all (four_known (c := c) hA hB hs hm hz rs)
      show Rgt A B c (putR ((inns A B s).foldl (fun r t => fillR A B c n t r) rs) s (lstI A B c ((inns A B s).foldl (fun r t => fillR A B c n t r) rs) s)) ∧ _
      generalize (inns A B s).foldl (fun r t => fillR A B c n t r) rs = r4 at f1 f2 f3 f4 k4 k5
      have l4 : look r4 s = none := by
        cases e : look r4 s with
        | none => rfl
        | some v =>
          rcases k5 _ (look_mem e) with h | h
          · have := mem_look h
            rw [hl0] at this
            cases this
          · exact absurd h (Nat.lt_irrefl _)
      have ex : Ext r4 (putR r4 s (lstI A B c r4 s)) := fun u v hu => by
        have hne : u ≠ s := fun z => by rw [z, l4] at hu; cases hu
        rw [putR_else hne]
        exact hu
      have hv : lstI A B c r4 s = min ((c.out : Int) + i1) (min ((c.into : Int) + i2) ((nam A B c (s.b - 1) (s.d - 1) : Int) + (i3 + i4))) := by
        unfold lstI
        rw [chos_sums f1 f2 f3 f4]
        rfl
      refine ⟨⟨fun r hr => ?_, fun r hr => ?_⟩, fun r hr => ?_⟩
      · have hr2 := hr
        rw [putR_new l4] at hr2
        rcases List.mem_append.mp hr2 with h | h
        · exact (k4.row r h).ext ex
        · rw [List.mem_singleton.mp h]
          exact ⟨i1, i2, i3, i4, ext_wN ex f1, ext_wN ex f2, ext_wN ex f3, ext_wN ex f4, hv⟩
      · rw [putR_new l4] at hr
        rcases List.mem_append.mp hr with h | h
        · exact k4.spn r h
        · rw [List.mem_singleton.mp h]
          exact ⟨hs, hm⟩
      · have hr2 : r ∈ putR r4 s (lstI A B c r4 s) := hr
        rw [putR_new l4] at hr2
        rcases List.mem_append.mp hr2 with h | h
        · rcases k5 r h with h | h
          · exact .inl h
          · exact .inr (Nat.le_of_lt h)
        · rw [List.mem_singleton.mp h]
          exact .inr (Nat.le_refl _)
end Tl
set_option Elab.async false
set_option linter.all false
set_option maxRecDepth 100000
set_option maxHeartbeats 8000000
namespace Tl
open PySem L2 RZ
/-! Pairs of numbers of places, walked behind; what a least set of pairs costs. -/
theorem pw_two {α : Type} {R : α → α → Prop} (sy : ∀ {x y}, R x y → R y x) : ∀ {l : List α}, l.Pairwise R → ∀ {x y : α}, x ∈ l → y ∈ l → x ≠ y → R x y
  | [], _, _, _, h, _, _ => by cases h
  | z :: l, hp, x, y, hx, hy, ne => by
    rw [List.pairwise_cons] at hp
    rcases List.mem_cons.mp hx with e1 | h1
    · rcases List.mem_cons.mp hy with e2 | h2
      · exact absurd (e1.trans e2.symm) ne
      · rw [e1]; exact hp.1 y h2
    · rcases List.mem_cons.mp hy with e2 | h2
      · rw [e2]; exact sy (hp.1 x h1)
      · exact pw_two sy hp.2 h1 h2 ne
abbrev NP := List (Nat × Nat)
def Anc (A : Lab) (i j : Nat) : Prop := lowOf A i ≤ j ∧ j ≤ i
/-- two pairs go together -/
structure Cp (A B : Lab) (x y : Nat × Nat) : Prop where
  n1 : x.1 ≠ y.1
  n2 : x.2 ≠ y.2
  lt : x.1 < y.1 ↔ x.2 < y.2
  a1 : Anc A x.1 y.1 ↔ Anc B x.2 y.2
  a2 : Anc A y.1 x.1 ↔ Anc B y.2 x.2
theorem Cp.symm {A B : Lab} {x y : Nat × Nat} (h : Cp A B x y) : Cp A B y x := ⟨h.n1.symm, h.n2.symm, by have := h.lt; have := h.n1; have := h.n2; omega, h.a2, h.a1⟩
/-- pairs within a span -/
structure Mp (A B : Lab) (s : Sp4) (M : NP) : Prop where
  at_ : ∀ x ∈ M, s.a ≤ x.1 ∧ x.1 < s.b ∧ s.c ≤ x.2 ∧ x.2 < s.d
  go : M.Pairwise (Cp A B)
def csum (A B : Lab) (c : Cst) (M : NP) : Int := (M.map fun x => (nam A B c x.1 x.2 : Int)).sum
def cM (A B : Lab) (c : Cst) (s : Sp4) (M : NP) : Int := csum A B c M + (c.out : Int) * ((s.b : Int) - s.a - M.length) + (c.into : Int) * ((s.d : Int) - s.c - M.length)
theorem csum_perm {A B : Lab} {c : Cst} {M N : NP} (h : M.Perm N) : csum A B c M = csum A B c N := by
  unfold csum
  induction h with
  | nil => rfl
  | cons x _ ih => rw [List.map_cons, List.map_cons, List.sum_cons, List.sum_cons, ih]
  | swap x y l => simp only [List.map_cons, List.sum_cons]; omega
  | trans _ _ h1 h2 => rw [h1, h2]
theorem csum_app {A B : Lab} {c : Cst} {M N : NP} : csum A B c (M ++ N) = csum A B c M + csum A B c N := by
  unfold csum
  rw [List.map_append, List.sum_append]
theorem csum_cons {A B : Lab} {c : Cst} {x : Nat × Nat} {M : NP} : csum A B c (x :: M) = (nam A B c x.1 x.2 : Int) + csum A B c M := rfl
theorem Mp.perm {A B : Lab} {s : Sp4} {M N : NP} (h : Mp A B s M) (p : M.Perm N) : Mp A B s N := ⟨fun x hx => h.at_ x (p.mem_iff.mpr hx), h.go.perm p fun h => h.symm⟩
theorem Mp.nil {A B : Lab} {s : Sp4} : Mp A B s [] := ⟨(fun _ h => by cases h), List.Pairwise.nil⟩
/-- a span that is empty on one side -/
theorem mp_mt {A B : Lab} {c : Cst} {s : Sp4} {M : NP} (hs : Spn A B s) (hm : s.mt = true) (h : Mp A B s M) : M = [] ∧ cM A B c s M = (bnd c s : Nat) := by
  have e : M = [] := by
    cases M with
    | nil => rfl
    | cons x r =>
      obtain ⟨h1, h2, h3, h4⟩ := h.at_ x (.head _)
      unfold Sp4.mt at hm
      rw [Bool.or_eq_true, decide_eq_true_eq, decide_eq_true_eq] at hm
      omega
  subst e
  refine ⟨rfl, ?_⟩
  have h1 := hs.1.1
  have h2 := hs.2.1
  unfold cM bnd csum
  rw [Int.natCast_add, Int.natCast_mul, Int.natCast_mul, Int.natCast_sub h1, Int.natCast_sub h2]
  simp
/-- the last of the one side goes unpaired -/
theorem mp_out {A B : Lab} {c : Cst} {s : Sp4} {M : NP} (hl : s.a < s.b) (h : ∀ x ∈ M, x.1 ≠ s.b - 1) (m : Mp A B s M) : Mp A B ⟨s.a, s.b - 1, s.c, s.d⟩ M ∧ cM A B c s M = (c.out : Int) + cM A B c ⟨s.a, s.b - 1, s.c, s.d⟩ M := by
  refine ⟨⟨fun x hx => ?_, m.go⟩, ?_⟩
  · have := h x hx
    have := m.at_ x hx
    dsimp only
    omega
  · unfold cM
    dsimp only
    rw [Int.natCast_sub (by omega : 1 ≤ s.b), show ((s.b : Int) - s.a - M.length) = ((s.b : Int) - (1 : Nat) - s.a - M.length) + 1 by omega, Int.mul_add]
    omega
theorem mp_into {A B : Lab} {c : Cst} {s : Sp4} {M : NP} (hl : s.c < s.d) (h : ∀ x ∈ M, x.2 ≠ s.d - 1) (m : Mp A B s M) : Mp A B ⟨s.a, s.b, s.c, s.d - 1⟩ M ∧ cM A B c s M = (c.into : Int) + cM A B c ⟨s.a, s.b, s.c, s.d - 1⟩ M := by
  refine ⟨⟨fun x hx => ?_, m.go⟩, ?_⟩
  · have := h x hx
    have := m.at_ x hx
    dsimp only
    omega
  · unfold cM
    dsimp only
    rw [Int.natCast_sub (by omega : 1 ≤ s.d), show ((s.d : Int) - s.c - M.length) = ((s.d : Int) - (1 : Nat) - s.c - M.length) + 1 by omega, Int.mul_add]
    omega
/-- the last ones are a pair -/
theorem cM_both {A B : Lab} {c : Cst} {s : Sp4} {l k : Nat} {M1 M2 : NP} (h1 : s.a < s.b) (h2 : s.c < s.d) (h3 : s.a ≤ l) (h4 : l ≤ s.b - 1) (h5 : s.c ≤ k) (h6 : k ≤ s.d - 1) : cM A B c s ((s.b - 1, s.d - 1) :: (M1 ++ M2)) = (nam A B c (s.b - 1) (s.d - 1) : Int) + (cM A B c ⟨s.a, l, s.c, k⟩ M1 + cM A B c ⟨l, s.b - 1, k, s.d - 1⟩ M2) := by
  unfold cM
  dsimp only
  rw [csum_cons, csum_app, List.length_cons, List.length_append, Int.natCast_sub (by omega : 1 ≤ s.b), Int.natCast_sub (by omega : 1 ≤ s.d),
    show ((s.b : Int) - s.a - ((M1.length + M2.length + 1 : Nat) : Int)) = ((l : Int) - s.a - M1.length) + ((s.b : Int) - (1 : Nat) - l - M2.length) by omega,
    show ((s.d : Int) - s.c - ((M1.length + M2.length + 1 : Nat) : Int)) = ((k : Int) - s.c - M1.length) + ((s.d : Int) - (1 : Nat) - k - M2.length) by omega, Int.mul_add, Int.mul_add]
  dsimp only
  generalize (c.out : Int) * ((l : Int) - s.a - M1.length) = w1
  generalize (c.out : Int) * ((s.b : Int) - (1 : Nat) - l - M2.length) = w2
  generalize (c.into : Int) * ((k : Int) - s.c - M1.length) = w3
  generalize (c.into : Int) * ((s.d : Int) - (1 : Nat) - k - M2.length) = w4
  omega
/-- none is cheaper -/
theorem ted_lb {A B : Lab} {c : Cst} {rs : Rws} (hA : Nst A) (hB : Nst B) (hR : Rgt A B c rs) : ∀ (n : Nat) (s : Sp4) (v : Int), s.sz < n → Spn A B s → wN c (kwL rs) s = some v → ∀ M, Mp A B s M → v ≤ cM A B c s M
  | 0, s, v, hz, _, _ => absurd hz (Nat.not_lt_zero _)
  | n + 1, s, v, hz, hs, hv => fun M m => by
    rw [wN_L] at hv
    by_cases hm : s.mt = true
    · rw [if_pos hm] at hv
      cases hv
      rw [(mp_mt (c := c) hs hm m).2]
      exact Int.le_refl _
    rw [if_neg hm] at hv
    have hm : s.mt = false := by simpa using hm
    obtain ⟨i1, i2, i3, i4, e1, e2, e3, e4, e5⟩ := hR.row _ (look_mem hv)
    dsimp only at e1 e2 e3 e4 e5
    obtain ⟨n1, n2⟩ := not_mt hm
    have hl1 : s.a < s.b := by have := hs.1.1; omega
    have hl2 : s.c < s.d := by have := hs.2.1; omega
    obtain ⟨⟨s1, z1⟩, ⟨s2, z2⟩, ⟨s3, z3⟩, ⟨s4, z4⟩⟩ := inns_all (inns_ok hA hB hs hm)
    have b1 : v ≤ (c.out : Int) + i1 := by omega
    have b2 : v ≤ (c.into : Int) + i2 := by omega
    have b3 : v ≤ (nam A B c (s.b - 1) (s.d - 1) : Int) + (i3 + i4) := by omega
    by_cases u1 : ∀ x ∈ M, x.1 ≠ s.b - 1
    · obtain ⟨m1, c1⟩ := mp_out (c := c) hl1 u1 m
      have := ted_lb hA hB hR n _ i1 (by omega) s1 e1 M m1
      omega
    by_cases u2 : ∀ x ∈ M, x.2 ≠ s.d - 1
    · obtain ⟨m1, c1⟩ := mp_into (c := c) hl2 u2 m
      have := ted_lb hA hB hR n _ i2 (by omega) s2 e2 M m1
      omega
    have u1 : ∃ x ∈ M, x.1 = s.b - 1 := Classical.byContradiction fun h => u1 fun x hx e => h ⟨x, hx, e⟩
    have u2 : ∃ x ∈ M, x.2 = s.d - 1 := Classical.byContradiction fun h => u2 fun x hx e => h ⟨x, hx, e⟩
    obtain ⟨x, hx, ex⟩ := u1
    obtain ⟨y, hy, ey⟩ := u2
    have hxy : x = y := Classical.byContradiction fun ne => by
      have h := pw_two (fun h => h.symm) m.go hx hy ne
      have h1 := m.at_ x hx
      have h2 := m.at_ y hy
      have h3 := h.n1
      have h4 := h.n2
      have h5 := h.lt
      omega
    subst hxy
    have ex : x = (s.b - 1, s.d - 1) := Prod.ext ex ey
    subst ex
    have mp := m.perm (List.perm_cons_erase hx)
    rw [show cM A B c s M = cM A B c s ((s.b - 1, s.d - 1) :: M.erase (s.b - 1, s.d - 1)) by
      unfold cM
      rw [csum_perm (List.perm_cons_erase hx), (List.perm_cons_erase hx).length_eq]]
    generalize M.erase (s.b - 1, s.d - 1) = N at mp
    have hp : (N.filter (fun x => decide (x.1 < lowOf A (s.b - 1))) ++ N.filter (fun x => !decide (x.1 < lowOf A (s.b - 1)))).Perm N := List.filter_append_perm _ _
    have hgo := List.pairwise_cons.mp mp.go
    have mp2 := mp.perm (hp.symm.cons _)
    rw [show cM A B c s ((s.b - 1, s.d - 1) :: N) = cM A B c s ((s.b - 1, s.d - 1) :: (N.filter (fun x => decide (x.1 < lowOf A (s.b - 1))) ++ N.filter (fun x => !decide (x.1 < lowOf A (s.b - 1))))) by
      unfold cM
      rw [csum_perm (hp.cons _), (hp.cons (s.b - 1, s.d - 1)).length_eq]]
    have hN : ∀ x ∈ N, x.1 < s.b - 1 ∧ x.2 < s.d - 1 ∧ (lowOf A (s.b - 1) ≤ x.1 ↔ lowOf B (s.d - 1) ≤ x.2) := fun x hx => by
      have h1 := mp.at_ x (.tail _ hx)
      have h2 := hgo.1 x hx
      have h3 := h2.n1
      have h4 := h2.n2
      have h5 := h2.a1
      unfold Anc at h5
      dsimp only at h3 h4 h5
      have a1 : x.1 < s.b - 1 := by omega
      have a2 : x.2 < s.d - 1 := by omega
      exact ⟨a1, a2, by omega⟩
    obtain ⟨_, _, p3, p4⟩ := sp_low hA hs.1 hl1
    obtain ⟨_, _, q3, q4⟩ := sp_low hB hs.2 hl2
    rw [cM_both hl1 hl2 p4 p3 q4 q3]
    have k1 := ted_lb hA hB hR n _ i3 (by omega) s3 e3 (N.filter fun x => decide (x.1 < lowOf A (s.b - 1))) ⟨fun x hx => by
      obtain ⟨w1, w2⟩ := List.mem_filter.mp hx
      have w2 := of_decide_eq_true w2
      have w3 := hN x w1
      have w4 := mp.at_ x (.tail _ w1)
      dsimp only
      omega, hgo.2.sublist List.filter_sublist⟩
    have k2 := ted_lb hA hB hR n _ i4 (by omega) s4 e4 (N.filter fun x => !decide (x.1 < lowOf A (s.b - 1))) ⟨fun x hx => by
      obtain ⟨w1, w2⟩ := List.mem_filter.mp hx
      have w2 : ¬ (x.1 < lowOf A (s.b - 1)) := by simpa using w2
      have w3 := hN x w1
      have w4 := mp.at_ x (.tail _ w1)
      dsimp only
      omega, hgo.2.sublist List.filter_sublist⟩
    omega
/-- the pairs that the rows lead to -/
def prs (A B : Lab) (c : Cst) (rs : Rws) : Nat → Sp4 → NP
  | 0, _ => []
  | n + 1, s => if s.mt = true then [] else
    if (sumsN (wN c (kwL rs)) (chos A B c s)).bind (·[2]?) = look rs s then (s.b - 1, s.d - 1) :: (prs A B c rs n ⟨s.a, lowOf A (s.b - 1), s.c, lowOf B (s.d - 1)⟩ ++ prs A B c rs n ⟨lowOf A (s.b - 1), s.b - 1, lowOf B (s.d - 1), s.d - 1⟩)
    else if (sumsN (wN c (kwL rs)) (chos A B c s)).bind (·[1]?) = look rs s then prs A B c rs n ⟨s.a, s.b, s.c, s.d - 1⟩
    else prs A B c rs n ⟨s.a, s.b - 1, s.c, s.d⟩
end Tl
set_option Elab.async false
set_option linter.all false
set_option maxRecDepth 100000
set_option maxHeartbeats 8000000
namespace Tl
open PySem L2 RZ
/-! Places by their numbers, walked behind: which leads to which, which comes ahead. -/
structure Ix (q : List Nat) (m : Nat) (L : List Wk) : Prop where
  ext : ∀ x ∈ L, q <+: x.1
  lo : ∀ x ∈ L, m ≤ x.2.2
  pr : ∀ (i j : Nat) (x y : Wk), L[i]? = some x → L[j]? = some y → (pre x.1 y.1 = true ↔ x.2.2 ≤ m + j ∧ j ≤ i)
  lt : ∀ (i j : Nat) (x y : Wk), L[i]? = some x → L[j]? = some y → i ≠ j → (ltN x.1 y.1 = true ↔ (x.2.2 ≤ m + j ∧ j ≤ i) ∨ (i < j ∧ ¬ (y.2.2 ≤ m + i ∧ i ≤ j)))
theorem Ix.nil {q : List Nat} {m : Nat} : Ix q m [] := ⟨(fun _ h => by cases h), (fun _ h => by cases h), (fun i j x y h _ => by simp at h), (fun i j x y h _ _ => by simp at h)⟩
theorem ix_app {q : List Nat} {m : Nat} {L1 L2 : List Wk} (h1 : Ix q m L1) (h2 : Ix q (m + L1.length) L2) (hs : ∀ x ∈ L1, ∀ y ∈ L2, pre x.1 y.1 = false ∧ pre y.1 x.1 = false ∧ ltN x.1 y.1 = true ∧ ltN y.1 x.1 = false) : Ix q m (L1 ++ L2) := by
  refine ⟨fun x hx => ?_, fun x hx => ?_, fun i j x y hx hy => ?_, fun i j x y hx hy ne => ?_⟩
  · rcases List.mem_append.mp hx with h | h
    · exact h1.ext x h
    · exact h2.ext x h
  · rcases List.mem_append.mp hx with h | h
    · exact h1.lo x h
    · have := h2.lo x h
      omega
  · by_cases ci : i < L1.length <;> by_cases cj : j < L1.length
    · rw [List.getElem?_append_left ci] at hx
      rw [List.getElem?_append_left cj] at hy
      exact h1.pr i j x y hx hy
    · rw [List.getElem?_append_left ci] at hx
      rw [List.getElem?_append_right (by omega)] at hy
      obtain ⟨a1, a2, a3, a4⟩ := hs x (List.mem_of_getElem? hx) y (List.mem_of_getElem? hy)
      rw [a1]
      exact ⟨(fun z => by cases z), fun z => by omega⟩
    · rw [List.getElem?_append_right (by omega)] at hx
      rw [List.getElem?_append_left cj] at hy
      obtain ⟨a1, a2, a3, a4⟩ := hs y (List.mem_of_getElem? hy) x (List.mem_of_getElem? hx)
      have := h2.lo x (List.mem_of_getElem? hx)
      rw [a2]
      exact ⟨(fun z => by cases z), fun z => by omega⟩
    · rw [List.getElem?_append_right (by omega)] at hx
      rw [List.getElem?_append_right (by omega)] at hy
      have := h2.pr _ _ x y hx hy
      rw [this]
      omega
  · by_cases ci : i < L1.length <;> by_cases cj : j < L1.length
    · rw [List.getElem?_append_left ci] at hx
      rw [List.getElem?_append_left cj] at hy
      exact h1.lt i j x y hx hy ne
    · rw [List.getElem?_append_left ci] at hx
      rw [List.getElem?_append_right (by omega)] at hy
      obtain ⟨a1, a2, a3, a4⟩ := hs x (List.mem_of_getElem? hx) y (List.mem_of_getElem? hy)
      have := h2.lo y (List.mem_of_getElem? hy)
      rw [a3]
      exact ⟨fun _ => by omega, fun _ => rfl⟩
    · rw [List.getElem?_append_right (by omega)] at hx
      rw [List.getElem?_append_left cj] at hy
      obtain ⟨a1, a2, a3, a4⟩ := hs y (List.mem_of_getElem? hy) x (List.mem_of_getElem? hx)
      have := h2.lo x (List.mem_of_getElem? hx)
      rw [a4]
      exact ⟨(fun z => by cases z), fun z => by omega⟩
    · rw [List.getElem?_append_right (by omega)] at hx
      rw [List.getElem?_append_right (by omega)] at hy
      have := h2.lt _ _ x y hx hy (by omega)
      rw [this]
      omega
theorem ix_snoc {q : List Nat} {m : Nat} {L : List Wk} {s : PyData} (h : Ix q m L) (hn : ∀ x ∈ L, x.1 ≠ q) : Ix q m (L ++ [(q, s, m)]) := by
  have ext : ∀ x ∈ L, pre q x.1 = true ∧ pre x.1 q = false ∧ ltN q x.1 = true ∧ ltN x.1 q = false := fun x hx => by
    obtain ⟨r, hr⟩ := h.ext x hx
    have ne := hn x hx
    have rn : r ≠ [] := fun e => ne (by rw [← hr, e, List.append_nil])
    have l1 : ltN q x.1 = true := by rw [← hr]; exact ltN_ext q rn
    refine ⟨pre_iff.mpr (h.ext x hx), pre_lt l1, l1, ltN_asy l1⟩
  have last : ∀ {i : Nat} {x : Wk}, (L ++ [(q, s, m)])[i]? = some x → ¬ i < L.length → i = L.length ∧ x = (q, s, m) := fun {i x} hx ci => by
    rw [List.getElem?_append_right (by omega)] at hx
    have e : i - L.length = 0 := by
      cases e : i - L.length with
      | zero => rfl
      | succ n => rw [e] at hx; simp at hx
    rw [e] at hx
    exact ⟨by omega, (Option.some.inj hx).symm⟩
  refine ⟨fun x hx => ?_, fun x hx => ?_, fun i j x y hx hy => ?_, fun i j x y hx hy ne => ?_⟩
  · rcases List.mem_append.mp hx with hx | hx
    · exact h.ext x hx
    · rw [List.mem_singleton.mp hx]
      exact List.prefix_refl q
  · rcases List.mem_append.mp hx with hx | hx
    · exact h.lo x hx
    · rw [List.mem_singleton.mp hx]
      exact Nat.le_refl _
  · by_cases ci : i < L.length <;> by_cases cj : j < L.length
    · rw [List.getElem?_append_left ci] at hx
      rw [List.getElem?_append_left cj] at hy
      exact h.pr i j x y hx hy
    · rw [List.getElem?_append_left ci] at hx
      obtain ⟨e1, rfl⟩ := last hy cj
      obtain ⟨a1, a2, a3, a4⟩ := ext x (List.mem_of_getElem? hx)
      rw [a2]
      exact ⟨(fun z => by cases z), fun z => by omega⟩
    · obtain ⟨e1, rfl⟩ := last hx ci
      rw [List.getElem?_append_left cj] at hy
      obtain ⟨a1, a2, a3, a4⟩ := ext y (List.mem_of_getElem? hy)
      rw [a1]
      exact ⟨fun _ => by dsimp only; omega, fun _ => rfl⟩
    · obtain ⟨e1, rfl⟩ := last hx ci
      obtain ⟨e2, rfl⟩ := last hy cj
      refine ⟨fun _ => by dsimp only; omega, fun _ => pre_iff.mpr (List.prefix_refl _)⟩
  · by_cases ci : i < L.length <;> by_cases cj : j < L.length
    · rw [List.getElem?_append_left ci] at hx
      rw [List.getElem?_append_left cj] at hy
      exact h.lt i j x y hx hy ne
    · rw [List.getElem?_append_left ci] at hx
      obtain ⟨e1, rfl⟩ := last hy cj
      obtain ⟨a1, a2, a3, a4⟩ := ext x (List.mem_of_getElem? hx)
      rw [a4]
      exact ⟨(fun z => by cases z), fun z => by simp only at z; omega⟩
    · obtain ⟨e1, rfl⟩ := last hx ci
      rw [List.getElem?_append_left cj] at hy
      obtain ⟨a1, a2, a3, a4⟩ := ext y (List.mem_of_getElem? hy)
      rw [a3]
      exact ⟨fun _ => by dsimp only; omega, fun _ => rfl⟩
    · obtain ⟨e1, rfl⟩ := last hx ci
      obtain ⟨e2, rfl⟩ := last hy cj
      omega
theorem apart_kids {q r r' : List Nat} {j i : Nat} (h : j < i) : pre (q ++ j :: r) (q ++ i :: r') = false ∧ pre (q ++ i :: r') (q ++ j :: r) = false ∧ ltN (q ++ j :: r) (q ++ i :: r') = true ∧ ltN (q ++ i :: r') (q ++ j :: r) = false := by
  have l1 : ltN (q ++ j :: r) (q ++ i :: r') = true := by
    rw [ltN_app, ltN, if_neg (by omega)]
    exact decide_eq_true h
  refine ⟨?_, pre_lt l1, l1, ltN_asy l1⟩
  rw [pre_no, List.prefix_append_right_inj, List.cons_prefix_cons]
  omega
theorem ix_wk : ∀ (n : Nat) (d : PyData) (q : List Nat) (m : Nat), TrT n d → Ix q m (wk d q m)
  | 0, _, _, _, h => h.elim
  | n + 1, d, q, m, h => by
    obtain ⟨s, ks, rfl, _, hk⟩ := h
    have all : ∀ (ks : List PyData), (∀ k ∈ ks, TrT n k) → ∀ j m : Nat, Ix q m (wkAll ks q j m) ∧ ∀ x ∈ wkAll ks q j m, ∃ i r, j ≤ i ∧ x.1 = q ++ i :: r := by
      intro ks
      induction ks with
      | nil => intro _ j m; rw [wkAll]; exact ⟨Ix.nil, fun _ h => by cases h⟩
      | cons k ks ih =>
        intro hk j m
        obtain ⟨g1, g2⟩ := ih (fun x hx => hk x (.tail _ hx)) (j + 1) (m + nn k)
        have h1 := ix_wk n k (q ++ [j]) m (hk k (.head _))
        have e1 : ∀ x ∈ wk k (q ++ [j]) m, ∃ r, x.1 = q ++ j :: r := fun x hx => by
          obtain ⟨r, hr⟩ := h1.ext x hx
          exact ⟨r, by rw [← hr, List.append_assoc]; rfl⟩
        have h2 : Ix q m (wk k (q ++ [j]) m) := ⟨fun x hx => by obtain ⟨r, hr⟩ := e1 x hx; exact ⟨j :: r, hr.symm⟩, h1.lo, h1.pr, h1.lt⟩
        rw [wkAll]
        refine ⟨ix_app h2 (by rw [wk_len _ _ (hk k (.head _))]; exact g1) fun x hx y hy => ?_, fun x hx => ?_⟩
        · obtain ⟨r, hr⟩ := e1 x hx
          obtain ⟨i, r', hi, hr'⟩ := g2 y hy
          rw [hr, hr']
          exact apart_kids (by omega)
        · rcases List.mem_append.mp hx with hx | hx
          · obtain ⟨r, hr⟩ := e1 x hx
            exact ⟨j, r, Nat.le_refl _, hr⟩
          · obtain ⟨i, r', hi, hr'⟩ := g2 x hx
            exact ⟨i, r', by omega, hr'⟩
    obtain ⟨g1, g2⟩ := all ks hk 0 m
    rw [wk_node]
    refine ix_snoc g1 fun x hx e => ?_
    obtain ⟨i, r, _, hr⟩ := g2 x hx
    rw [hr] at e
    have := congrArg List.length e
    rw [List.length_append, List.length_cons] at this
    omega
theorem bP_wk {n : Nat} {t : PyData} (h : TrT n t) : (wk t [] 0).map (·.1) = plb t := by
  rw [(wk_ok [] 0 h).1]
  simp
theorem bP_get {n : Nat} {t : PyData} (h : TrT n t) {i : Nat} {p : List Nat} (e : (plb t)[i]? = some p) : ∃ x : Wk, (wk t [] 0)[i]? = some x ∧ x.1 = p ∧ lowOf (labOf t) i = x.2.2 := by
  rw [← bP_wk h, List.getElem?_map] at e
  obtain ⟨x, h1, h2⟩ := Option.map_eq_some_iff.mp e
  refine ⟨x, h1, h2, ?_⟩
  unfold lowOf labOf
  rw [List.getElem?_map, h1]
  rfl
theorem bP_pre {n : Nat} {t : PyData} (h : TrT n t) {i j : Nat} {p r : List Nat} (e1 : (plb t)[i]? = some p) (e2 : (plb t)[j]? = some r) : pre p r = true ↔ Anc (labOf t) i j := by
  obtain ⟨x, a1, rfl, a3⟩ := bP_get h e1
  obtain ⟨y, b1, rfl, b3⟩ := bP_get h e2
  have := (ix_wk n t [] 0 h).pr i j x y a1 b1
  unfold Anc
  rw [this, a3]
  omega
theorem bP_lt {n : Nat} {t : PyData} (h : TrT n t) {i j : Nat} {p r : List Nat} (e1 : (plb t)[i]? = some p) (e2 : (plb t)[j]? = some r) (ne : i ≠ j) : ltN p r = true ↔ Anc (labOf t) i j ∨ (i < j ∧ ¬ Anc (labOf t) j i) := by
  obtain ⟨x, a1, rfl, a3⟩ := bP_get h e1
  obtain ⟨y, b1, rfl, b3⟩ := bP_get h e2
  have := (ix_wk n t [] 0 h).lt i j x y a1 b1 ne
  unfold Anc
  rw [this, a3, b3]
  omega
theorem bP_inj {n : Nat} {t : PyData} (h : TrT n t) {i j : Nat} {p : List Nat} (e1 : (plb t)[i]? = some p) (e2 : (plb t)[j]? = some p) : i = j := by
  have h1 := (bP_pre h e1 e2).mp (pre_iff.mpr (List.prefix_refl _))
  have h2 := (bP_pre h e2 e1).mp (pre_iff.mpr (List.prefix_refl _))
  unfold Anc at h1 h2
  omega
/-- pairs of places go together as their numbers do -/
theorem fit_cp {n m : Nat} {t u : PyData} (ht : TrT n t) (hu : TrT m u) {i i' j j' : Nat} {p p' r r' : List Nat} (e1 : (plb t)[i]? = some p) (e2 : (plb t)[i']? = some p') (f1 : (plb u)[j]? = some r) (f2 : (plb u)[j']? = some r') : fitP (p, r) (p', r') = true ↔ Cp (labOf t) (labOf u) (i, j) (i', j') := by
  have q1 := bP_pre ht e1 e2
  have q2 := bP_pre ht e2 e1
  have q3 := bP_pre hu f1 f2
  have q4 := bP_pre hu f2 f1
  have b2 : ∀ {a b : Bool}, a = b ↔ (a = true ↔ b = true) := fun {a b} => by cases a <;> cases b <;> simp
  have n1 : p = p' ↔ i = i' := ⟨fun e => bP_inj ht e1 (by rw [e]; exact e2), fun e => by rw [e, e2] at e1; exact (Option.some.inj e1).symm⟩
  have n2 : r = r' ↔ j = j' := ⟨fun e => bP_inj hu f1 (by rw [e]; exact f2), fun e => by rw [e, f2] at f1; exact (Option.some.inj f1).symm⟩
  unfold fitP
  simp only [Bool.and_eq_true, Bool.not_eq_true', decide_eq_false_iff_not, decide_eq_true_eq]
  constructor
  · rintro ⟨⟨⟨⟨a1, a2⟩, a3⟩, a4⟩, a5⟩
    have a1 : i ≠ i' := fun e => a1 (n1.mpr e)
    have a2 : j ≠ j' := fun e => a2 (n2.mpr e)
    have c1 : Anc (labOf t) i i' ↔ Anc (labOf u) j j' := by rw [← q1, ← q3, a4]
    have c2 : Anc (labOf t) i' i ↔ Anc (labOf u) j' j := by rw [← q2, ← q4, a5]
    refine ⟨a1, a2, ?_, c1, c2⟩
    have l := b2.mp a3
    rw [bP_lt ht e1 e2 a1, bP_lt hu f1 f2 a2, c1, c2] at l
    dsimp only
    by_cases z1 : Anc (labOf u) j j'
    · have z2 := c1.mpr z1
      unfold Anc at z1 z2
      omega
    · by_cases z3 : Anc (labOf u) j' j
      · have z4 := c2.mpr z3
        unfold Anc at z3 z4
        omega
      · constructor
        · intro h
          rcases l.mp (.inr ⟨h, z3⟩) with w | w
          · exact absurd w z1
          · exact w.1
        · intro h
          rcases l.mpr (.inr ⟨h, z3⟩) with w | w
          · exact absurd w z1
          · exact w.1
  · rintro ⟨a1, a2, a3, a4, a5⟩
    dsimp only at a1 a2 a3 a4 a5
    refine ⟨⟨⟨⟨fun e => a1 (n1.mp e), fun e => a2 (n2.mp e)⟩, ?_⟩, ?_⟩, ?_⟩
    · rw [b2, bP_lt ht e1 e2 a1, bP_lt hu f1 f2 a2, a4, a5, a3]
    · rw [b2, q1, q3, a4]
    · rw [b2, q2, q4, a5]
end Tl
set_option Elab.async false
set_option linter.all false
set_option maxRecDepth 100000
set_option maxHeartbeats 8000000
namespace Tl
open PySem L2 RZ
/-! Matchings of places: none is cheaper than what the rows tell; the told pairs are one. -/
/-- what a matching costs -/
noncomputable def mCost (t u : PyData) (c : Cst) (ps : List PPr) : Int := (c.name : Int) * (unlikeN t u ps : Nat) + (c.out : Int) * ((nn t : Nat) - (ps.length : Nat)) + (c.into : Int) * ((nn u : Nat) - (ps.length : Nat))
theorem plb_mem {n : Nat} {t : PyData} (h : TrT n t) {p : List Nat} : p ∈ plb t ↔ p ∈ plc t := (plb_perm h).mem_iff
theorem plb_last {n : Nat} {t : PyData} (h : TrT n t) : (plb t)[nn t - 1]? = some [] := by
  have hl := plb_len h
  cases n with
  | zero => exact h.elim
  | succ n =>
    obtain ⟨s, ks, rfl, _, hk⟩ := h
    rw [plb_node] at hl ⊢
    rw [List.length_append, List.length_singleton] at hl
    rw [List.getElem?_append_right (by omega), show nn (PyData.tuple [.str s, .tuple ks]) - 1 - (plbAll 0 ks).length = 0 by omega]
    rfl
theorem tag_ix {n : Nat} {t : PyData} (h : TrT n t) {i : Nat} {p : List Nat} (e : (plb t)[i]? = some p) : ∃ s : Str, tagAt t p = .str s ∧ ((labOf t)[i]?).map (·.1) = some s := by
  obtain ⟨x, h1, h2, h3⟩ := bP_get h e
  obtain ⟨e0, a1, _, _, ks', a2⟩ := (wk_ok [] 0 h).2 i p x e h1
  obtain ⟨b1, _⟩ := wk_get h h1
  refine ⟨strOf x.2.1, ?_, ?_⟩
  · unfold tagAt
    rw [a1, a2]
    exact b1
  · unfold labOf
    rw [List.getElem?_map, h1]
    rfl
theorem nam_ix {n m : Nat} {t u : PyData} (c : Cst) (ht : TrT n t) (hu : TrT m u) {i j : Nat} {p r : List Nat} (e : (plb t)[i]? = some p) (f : (plb u)[j]? = some r) : (nam (labOf t) (labOf u) c i j : Int) = (c.name : Int) * (if @decide (tagAt t p = tagAt u r) (Classical.propDecidable _) = true then (0 : Int) else 1) := by
  obtain ⟨s, a1, a2⟩ := tag_ix ht e
  obtain ⟨s', b1, b2⟩ := tag_ix hu f
  unfold nam
  rw [a1, a2, b1, b2]
  by_cases z : s = s'
  · subst z
    rw [if_pos rfl, if_pos (by simp)]
    simp
  · rw [if_neg (fun w => z (Option.some.inj w)), if_neg (by simpa using z)]
    simp
/-- the places that two numbers stand for -/
def numP (t u : PyData) (x : Nat × Nat) : PPr := (((plb t)[x.1]?).getD [], ((plb u)[x.2]?).getD [])
/-- numbers within -/
def InB (t u : PyData) (x : Nat × Nat) : Prop := x.1 < nn t ∧ x.2 < nn u
theorem numP_at {n m : Nat} {t u : PyData} (ht : TrT n t) (hu : TrT m u) {x : Nat × Nat} (h : InB t u x) : (plb t)[x.1]? = some (numP t u x).1 ∧ (plb u)[x.2]? = some (numP t u x).2 := by
  obtain ⟨h1, h2⟩ := h
  rw [← plb_len ht] at h1
  rw [← plb_len hu] at h2
  unfold numP
  rw [List.getElem?_eq_getElem h1, List.getElem?_eq_getElem h2]
  exact ⟨rfl, rfl⟩
theorem unl_cons (t u : PyData) (x : PPr) (ps : List PPr) : ((unlikeN t u (x :: ps) : Nat) : Int) = (if @decide (tagAt t x.1 = tagAt u x.2) (Classical.propDecidable _) = true then (0 : Int) else 1) + (unlikeN t u ps : Nat) := by
  unfold unlikeN
  rw [List.filter_cons]
  cases e : @decide (tagAt t x.1 = tagAt u x.2) (Classical.propDecidable _) with
  | true => simp
  | false =>
    simp
    omega
theorem unl_perm {t u : PyData} {ps qs : List PPr} (h : ps.Perm qs) : unlikeN t u ps = unlikeN t u qs := by
  unfold unlikeN
  exact (h.filter _).length_eq
theorem csum_unl {n m : Nat} {t u : PyData} (c : Cst) (ht : TrT n t) (hu : TrT m u) : ∀ M : NP, (∀ x ∈ M, InB t u x) → csum (labOf t) (labOf u) c M = (c.name : Int) * (unlikeN t u (M.map (numP t u)) : Nat)
  | [], _ => by simp [csum, unlikeN]
  | x :: M, h => by
    obtain ⟨e, f⟩ := numP_at ht hu (h x (.head _))
    rw [csum_cons, csum_unl c ht hu M (fun y hy => h y (.tail _ hy)), nam_ix c ht hu e f, List.map_cons, unl_cons, Int.mul_add]
/-- what numbers cost, with their tops -/
theorem cost_eq {n m : Nat} {t u : PyData} (c : Cst) (ht : TrT n t) (hu : TrT m u) {M : NP} (hM : ∀ x ∈ M, InB t u x) : mCost t u c (([], []) :: M.map (numP t u)) = cM (labOf t) (labOf u) c (topsOf (labOf t) (labOf u)) M + (nam (labOf t) (labOf u) c ((labOf t).length - 1) ((labOf u).length - 1) : Nat) := by
  have p1 := nn_pos t
  have p2 := nn_pos u
  unfold mCost cM topsOf
  dsimp only
  rw [unl_cons, csum_unl c ht hu M hM, lab_len ht, lab_len hu, nam_ix c ht hu (plb_last ht) (plb_last hu), Int.mul_add, List.length_cons, List.length_map, Int.natCast_sub p1, Int.natCast_sub p2,
    show ((nn t : Int) - ((M.length + 1 : Nat) : Int)) = ((nn t : Int) - (1 : Nat)) - ((0 : Nat) : Int) - M.length by omega, show ((nn u : Int) - ((M.length + 1 : Nat) : Int)) = ((nn u : Int) - (1 : Nat)) - ((0 : Nat) : Int) - M.length by omega]
  dsimp only
  omega
theorem fits_two {x y : PPr} (h : fitP x y = true) : fitP y x = true := by
  unfold fitP at h ⊢
  simp only [Bool.and_eq_true, Bool.not_eq_true', decide_eq_false_iff_not, decide_eq_true_eq] at h ⊢
  obtain ⟨⟨⟨⟨a1, a2⟩, a3⟩, a4⟩, a5⟩ := h
  refine ⟨⟨⟨⟨fun e => a1 e.symm, fun e => a2 e.symm⟩, ?_⟩, a5⟩, a4⟩
  rcases ltN_tot _ _ a1 with l | l <;> rcases ltN_tot _ _ a2 with k | k
  · rw [ltN_asy l, ltN_asy k]
  · rw [l, ltN_asy k] at a3
    cases a3
  · rw [k, ltN_asy l] at a3
    cases a3
  · rw [l, k]
theorem root_lt {x : PPr} (h : step1 ([], []) x = true) : x.1 ≠ [] ∧ x.2 ≠ [] := by
  unfold step1 at h
  rw [Bool.and_eq_true, Bool.and_eq_true] at h
  obtain ⟨⟨h1, h2⟩, _⟩ := h
  exact ⟨(fun e => by rw [e] at h1; cases h1), (fun e => by rw [e] at h2; cases h2)⟩
/-- a matching by its numbers -/
theorem mat_nums {n m : Nat} {t u : PyData} (ht : TrT n t) (hu : TrT m u) {ps : List PPr} (h : Mat t u ps) : ∃ M : NP, ps = ([], []) :: M.map (numP t u) ∧ (∀ x ∈ M, InB t u x) ∧ Mp (labOf t) (labOf u) (topsOf (labOf t) (labOf u)) M := by
  obtain ⟨h1, h2, h3⟩ := h
  cases ps with
  | nil => cases h2
  | cons x0 ps =>
    cases h2
    rw [List.pairwise_cons] at h3
    have hx : ∀ x ∈ ps, ∃ y : Nat × Nat, numP t u y = x ∧ y.1 < nn t - 1 ∧ y.2 < nn u - 1 := fun x hx => by
      obtain ⟨g1, g2⟩ := h1 x (.tail _ hx)
      obtain ⟨i, hi⟩ := List.getElem?_of_mem ((plb_mem ht).mpr g1)
      obtain ⟨j, hj⟩ := List.getElem?_of_mem ((plb_mem hu).mpr g2)
      obtain ⟨r1, r2⟩ := root_lt (h3.1 x hx)
      have li := (List.getElem?_eq_some_iff.mp hi).1
      have lj := (List.getElem?_eq_some_iff.mp hj).1
      rw [plb_len ht] at li
      rw [plb_len hu] at lj
      refine ⟨(i, j), ?_, ?_, ?_⟩
      · unfold numP
        dsimp only
        rw [hi, hj]
        rfl
      · have : i ≠ nn t - 1 := fun e => r1 (by rw [e, plb_last ht] at hi; exact (Option.some.inj hi).symm)
        dsimp only
        omega
      · have : j ≠ nn u - 1 := fun e => r2 (by rw [e, plb_last hu] at hj; exact (Option.some.inj hj).symm)
        dsimp only
        omega
    have all : ∀ qs : List PPr, (∀ x ∈ qs, ∃ y : Nat × Nat, numP t u y = x ∧ y.1 < nn t - 1 ∧ y.2 < nn u - 1) → ∃ M : NP, qs = M.map (numP t u) ∧ ∀ y ∈ M, y.1 < nn t - 1 ∧ y.2 < nn u - 1 := by
      intro qs
      induction qs with
      | nil => exact fun _ => ⟨[], rfl, fun _ h => by cases h⟩
      | cons x qs ih =>
        intro h
        obtain ⟨y, h1, h2⟩ := h x (.head _)
        obtain ⟨M, h3, h4⟩ := ih fun z hz => h z (.tail _ hz)
        exact ⟨y :: M, by rw [List.map_cons, h1, h3], fun z hz => (List.mem_cons.mp hz).elim (fun e => by rw [e]; exact h2) (h4 z)⟩
    obtain ⟨M, rfl, hM⟩ := all ps hx
    have inB : ∀ x ∈ M, InB t u x := fun x hx => by
      have := hM x hx
      unfold InB
      omega
    refine ⟨M, rfl, inB, fun x hx => ?_, ?_⟩
    · have := hM x hx
      unfold topsOf
      dsimp only
      rw [lab_len ht, lab_len hu]
      omega
    · have h4 := (steps_fits.mp h3.2).2
      rw [List.pairwise_map] at h4
      refine h4.imp_of_mem fun {x y} hx hy k => ?_
      obtain ⟨e1, e2⟩ := numP_at ht hu (inB x hx)
      obtain ⟨f1, f2⟩ := numP_at ht hu (inB y hy)
      exact (fit_cp ht hu e1 f1 e2 f2).mp k
/-- no matching is cheaper -/
theorem mat_lb {n m : Nat} {t u : PyData} {c : Cst} {rs : Rws} {v : Int} (ht : TrT n t) (hu : TrT m u) (hR : Rgt (labOf t) (labOf u) c rs) (hv : wN c (kwL rs) (topsOf (labOf t) (labOf u)) = some v) {ps : List PPr} (h : Mat t u ps) : v + (nam (labOf t) (labOf u) c ((labOf t).length - 1) ((labOf u).length - 1) : Nat) ≤ mCost t u c ps := by
  obtain ⟨M, rfl, h1, h2⟩ := mat_nums ht hu h
  rw [cost_eq c ht hu h1]
  have := ted_lb (nst_of ht) (nst_of hu) hR ((topsOf (labOf t) (labOf u)).sz + 1) _ v (Nat.lt_succ_self _) tops_spn hv M h2
  omega
/-- pairs, rising -/
theorem so_P : So ltP := by
  refine ⟨fun a => ?_, fun h1 h2 => ltP_tr h1 h2, fun a b h => ?_⟩
  · unfold ltP
    rw [if_pos rfl]
    exact ltN_irr _
  · unfold ltP
    by_cases e : a.1 = b.1
    · rw [if_pos e, if_pos e.symm]
      exact ltN_tot _ _ fun z => h (Prod.ext e z)
    · rw [if_neg e, if_neg fun z => e z.symm]
      exact ltN_tot _ _ e
def srtPP (ps : List PPr) : List PPr := ps.mergeSort (leK ltP id)
theorem srtPP_perm (ps : List PPr) : (srtPP ps).Perm ps := List.mergeSort_perm _ _
end Tl
set_option Elab.async false
set_option linter.all false
set_option maxRecDepth 100000
set_option maxHeartbeats 8000000
namespace Tl
open PySem L2 RZ
/-! Top matchings: pairs beneath pairs alone. -/
/-- the tag at a place of a forest -/
def tgF2 (ks : List PyData) : List Nat → PyData
  | [] => .none
  | i :: r => match ks[i]? with
    | some k => tagAt k r
    | none => .none
noncomputable def unlF (ks ls : List PyData) (ps : List PPr) : Nat := (ps.filter fun x => !@decide (tgF2 ks x.1 = tgF2 ls x.2) (Classical.propDecidable _)).length
/-- a top matching of the first i and j parts of two rows, in any order -/
structure TF2 (ks ls : List PyData) (i j : Nat) (ps : List PPr) : Prop where
  a1 : ∀ x ∈ ps, ∃ i' r k, x.1 = i' :: r ∧ i' < i ∧ ks[i']? = some k ∧ r ∈ plc k
  a2 : ∀ x ∈ ps, ∃ j' r l, x.2 = j' :: r ∧ j' < j ∧ ls[j']? = some l ∧ r ∈ plc l
  fit : ps.Pairwise fun x y => fitP x y = true
  top : ∀ x ∈ ps, (x.1.length = 1 ∧ x.2.length = 1) ∨ (x.1.dropLast, x.2.dropLast) ∈ ps
/-- a top matching of two trees, in any order -/
structure TR2 (t u : PyData) (ps : List PPr) : Prop where
  rt : ([], []) ∈ ps
  at_ : ∀ x ∈ ps, x.1 ∈ plc t ∧ x.2 ∈ plc u
  fit : ps.Pairwise fun x y => fitP x y = true
  top : ∀ x ∈ ps, x = ([], []) ∨ (x.1.dropLast, x.2.dropLast) ∈ ps
noncomputable def fC (ks ls : List PyData) (i j : Nat) (ps : List PPr) : Int := (unlF ks ls ps : Nat) + ((nnAll (ks.take i) : Nat) - (ps.length : Nat)) + ((nnAll (ls.take j) : Nat) - (ps.length : Nat))
noncomputable def tCm (t u : PyData) (ps : List PPr) : Int := (unlikeN t u ps : Nat) + ((nn t : Nat) - (ps.length : Nat)) + ((nn u : Nat) - (ps.length : Nat))
theorem fit_ne {x y : PPr} (h : fitP x y = true) : x.1 ≠ y.1 ∧ x.2 ≠ y.2 ∧ ltN x.1 y.1 = ltN x.2 y.2 ∧ pre x.1 y.1 = pre x.2 y.2 := by
  unfold fitP at h
  simp only [Bool.and_eq_true, Bool.not_eq_true', decide_eq_false_iff_not, decide_eq_true_eq] at h
  exact ⟨h.1.1.1.1, h.1.1.1.2, h.1.1.2, h.1.2⟩
theorem one_first {ps : List PPr} (hp : ps.Pairwise fun x y => fitP x y = true) {x y : PPr} (hx : x ∈ ps) (hy : y ∈ ps) (e : x.1 = y.1) : x = y := Classical.byContradiction fun ne => (fit_ne (pw_two (fun h => fits_two h) hp hx hy ne)).1 e
theorem one_second {ps : List PPr} (hp : ps.Pairwise fun x y => fitP x y = true) {x y : PPr} (hx : x ∈ ps) (hy : y ∈ ps) (e : x.2 = y.2) : x = y := Classical.byContradiction fun ne => (fit_ne (pw_two (fun h => fits_two h) hp hx hy ne)).2.1 e
theorem pre_one {i j : Nat} {r : List Nat} : pre [i] (j :: r) = decide (i = j) := by
  rw [pre_cons, pre_nil, Bool.and_true]
theorem fit_cons {i j : Nat} {a b c d : List Nat} : fitP (i :: a, j :: b) (i :: c, j :: d) = fitP (a, b) (c, d) := by
  unfold fitP
  simp only [ltN, if_true, pre_cons, decide_true, Bool.true_and, List.cons.injEq, true_and]
/-- where a pair lies beneath, its first steps are a pair -/
theorem top_first {ks ls : List PyData} {i j : Nat} {ps : List PPr} (h : TF2 ks ls i j ps) : ∀ (n : Nat) (x : PPr) (a : Nat) (r : List Nat), x ∈ ps → x.1 = a :: r → r.length = n → ∃ b, ([a], [b]) ∈ ps
  | 0, x, a, r, hx, e, hl => by
    have hr : r = [] := List.length_eq_zero_iff.mp hl
    subst hr
    obtain ⟨b, r2, l, e2, _⟩ := h.a2 x hx
    rcases h.top x hx with ⟨_, q⟩ | q
    · rw [e2, List.length_cons] at q
      have : r2 = [] := List.length_eq_zero_iff.mp (by omega)
      subst this
      exact ⟨b, by rw [← e, ← e2]; exact hx⟩
    · rw [e] at q
      obtain ⟨_, _, _, z, _⟩ := h.a1 _ q
      cases z
  | n + 1, x, a, r, hx, e, hl => by
    rcases h.top x hx with ⟨q, _⟩ | q
    · rw [e, List.length_cons] at q
      omega
    · refine top_first h n _ a r.dropLast q ?_ (by rw [List.length_dropLast]; omega)
      show x.1.dropLast = _
      rw [e, List.dropLast_cons_of_ne_nil (fun z => by rw [z] at hl; cases hl)]
theorem top_second {ks ls : List PyData} {i j : Nat} {ps : List PPr} (h : TF2 ks ls i j ps) : ∀ (n : Nat) (x : PPr) (b : Nat) (r : List Nat), x ∈ ps → x.2 = b :: r → r.length = n → ∃ a, ([a], [b]) ∈ ps
  | 0, x, b, r, hx, e, hl => by
    have hr : r = [] := List.length_eq_zero_iff.mp hl
    subst hr
    obtain ⟨a, r2, l, e2, _⟩ := h.a1 x hx
    rcases h.top x hx with ⟨q, _⟩ | q
    · rw [e2, List.length_cons] at q
      have : r2 = [] := List.length_eq_zero_iff.mp (by omega)
      subst this
      exact ⟨a, by rw [← e, ← e2]; exact hx⟩
    · rw [e] at q
      obtain ⟨_, _, _, z, _⟩ := h.a2 _ q
      cases z
  | n + 1, x, b, r, hx, e, hl => by
    rcases h.top x hx with ⟨_, q⟩ | q
    · rw [e, List.length_cons] at q
      omega
    · refine top_second h n _ b r.dropLast q ?_ (by rw [List.length_dropLast]; omega)
      show x.2.dropLast = _
      rw [e, List.dropLast_cons_of_ne_nil (fun z => by rw [z] at hl; cases hl)]
theorem take_nn {ks : List PyData} {i : Nat} {k : PyData} (h : ks[i]? = some k) : nnAll (ks.take (i + 1)) = nnAll (ks.take i) + nn k := by
  have app : ∀ a b : List PyData, nnAll (a ++ b) = nnAll a + nnAll b := by
    intro a b
    induction a with
    | nil => rw [nnAll]; simp
    | cons x a ih => rw [List.cons_append, nnAll, nnAll, ih]; omega
  rw [List.take_add_one, h, app]
  show _ + nnAll [k] = _
  rw [nnAll, nnAll]
  omega
/-- the last part on the one side has no pair -/
theorem tf_out {ks ls : List PyData} {i j : Nat} {ps : List PPr} {k : PyData} (hk : ks[i]? = some k) (h : TF2 ks ls (i + 1) j ps) (hn : ∀ x ∈ ps, pre [i] x.1 = false) : TF2 ks ls i j ps ∧ fC ks ls (i + 1) j ps = nn k + fC ks ls i j ps := by
  refine ⟨⟨fun x hx => ?_, h.a2, h.fit, h.top⟩, ?_⟩
  · obtain ⟨i', r, k', e, hi, q⟩ := h.a1 x hx
    have := hn x hx
    rw [e, pre_one, decide_eq_false_iff_not] at this
    exact ⟨i', r, k', e, by omega, q⟩
  · unfold fC
    rw [take_nn hk]
    omega
theorem tf_into {ks ls : List PyData} {i j : Nat} {ps : List PPr} {l : PyData} (hl : ls[j]? = some l) (h : TF2 ks ls i (j + 1) ps) (hn : ∀ x ∈ ps, pre [j] x.2 = false) : TF2 ks ls i j ps ∧ fC ks ls i (j + 1) ps = nn l + fC ks ls i j ps := by
  refine ⟨⟨h.a1, fun x hx => ?_, h.fit, h.top⟩, ?_⟩
  · obtain ⟨i', r, k', e, hi, q⟩ := h.a2 x hx
    have := hn x hx
    rw [e, pre_one, decide_eq_false_iff_not] at this
    exact ⟨i', r, k', e, by omega, q⟩
  · unfold fC
    rw [take_nn hl]
    omega
theorem unlF_split (ks ls : List PyData) (ps : List PPr) (p : PPr → Bool) : unlF ks ls ps = unlF ks ls (ps.filter p) + unlF ks ls (ps.filter fun x => !p x) := by
  unfold unlF
  have := (List.filter_append_perm p ps).filter (fun x => !@decide (tgF2 ks x.1 = tgF2 ls x.2) (Classical.propDecidable _))
  rw [← this.length_eq, List.filter_append, List.length_append]
/-- both last parts have pairs: they are one -/
theorem tf_both {ks ls : List PyData} {i j : Nat} {ps : List PPr} {k l : PyData} (hk : ks[i]? = some k) (hl : ls[j]? = some l) (h : TF2 ks ls (i + 1) (j + 1) ps) (h1 : ∃ x ∈ ps, pre [i] x.1 = true) (h2 : ∃ x ∈ ps, pre [j] x.2 = true) :
    ∃ p0 p1 : List PPr, TF2 ks ls i j p0 ∧ TR2 k l p1 ∧ fC ks ls (i + 1) (j + 1) ps = tCm k l p1 + fC ks ls i j p0 := by
  have root : ([i], [j]) ∈ ps := by
    obtain ⟨x, hx, ex⟩ := h1
    obtain ⟨y, hy, ey⟩ := h2
    obtain ⟨i', r, _, e1, _⟩ := h.a1 x hx
    obtain ⟨j', r', _, e2, _⟩ := h.a2 y hy
    rw [e1, pre_one, decide_eq_true_iff] at ex
    rw [e2, pre_one, decide_eq_true_iff] at ey
    subst ex ey
    obtain ⟨b, hb⟩ := top_first h _ x i r hx e1 rfl
    obtain ⟨a, ha⟩ := top_second h _ y j r' hy e2 rfl
    by_cases eb : b = j
    · rw [← eb]; exact hb
    exfalso
    obtain ⟨_, _, _, z1, z2, _⟩ := h.a2 _ hb
    cases z1
    obtain ⟨_, _, _, w1, w2, _⟩ := h.a1 _ ha
    cases w1
    have ne : (([i], [b]) : PPr) ≠ ([a], [j]) := fun z => eb (by injection z with _ z; injection z)
    obtain ⟨q1, q2, q3, _⟩ := fit_ne (pw_two (fun h => fits_two h) h.fit hb ha ne)
    have ai : a ≠ i := fun z => q1 (by rw [z])
    dsimp only at q3
    have l1 : ltN [i] [a] = false := by rw [ltN, if_neg (fun z => ai z.symm)]; exact decide_eq_false (by omega)
    have l2 : ltN [b] [j] = true := by rw [ltN, if_neg eb]; exact decide_eq_true (by omega)
    rw [l1, l2] at q3
    cases q3
  have same : ∀ x ∈ ps, pre [i] x.1 = pre [j] x.2 := fun x hx => by
    by_cases e : x = ([i], [j])
    · rw [e, pre_one, pre_one, decide_eq_true rfl, decide_eq_true rfl]
    · exact (fit_ne (pw_two (fun h => fits_two h) h.fit root hx fun z => e z.symm)).2.2.2
  have hd1 : ∀ x ∈ ps.filter fun x => pre [i] x.1, ∃ r r', x = (i :: r, j :: r') ∧ r ∈ plc k ∧ r' ∈ plc l := fun x hx => by
    obtain ⟨hx, ex⟩ := List.mem_filter.mp hx
    obtain ⟨i', r, k', e1, _, e2, e3⟩ := h.a1 x hx
    obtain ⟨j', r', l', f1, _, f2, f3⟩ := h.a2 x hx
    have ex2 := same x hx
    rw [ex] at ex2
    rw [e1, pre_one, decide_eq_true_iff] at ex
    rw [f1, pre_one] at ex2
    have ex2 := (decide_eq_true_iff.mp ex2.symm)
    subst ex ex2
    rw [hk] at e2
    rw [hl] at f2
    cases e2
    cases f2
    exact ⟨r, r', Prod.ext e1 f1, e3, f3⟩
  have rootf : ([i], [j]) ∈ ps.filter fun x => pre [i] x.1 := List.mem_filter.mpr ⟨root, by rw [pre_one, decide_eq_true rfl]⟩
  refine ⟨ps.filter fun x => !pre [i] x.1, (ps.filter fun x => pre [i] x.1).map fun x => (x.1.tail, x.2.tail), ⟨fun x hx => ?_, fun x hx => ?_, h.fit.sublist List.filter_sublist, fun x hx => ?_⟩, ⟨?_, fun x hx => ?_, ?_, fun x hx => ?_⟩, ?_⟩
  · obtain ⟨hx, ex⟩ := List.mem_filter.mp hx
    obtain ⟨i', r, k', e1, e4, e2⟩ := h.a1 x hx
    rw [e1, pre_one, Bool.not_eq_true', decide_eq_false_iff_not] at ex
    exact ⟨i', r, k', e1, by omega, e2⟩
  · obtain ⟨hx, ex⟩ := List.mem_filter.mp hx
    rw [same x hx] at ex
    obtain ⟨j', r, k', e1, e4, e2⟩ := h.a2 x hx
    rw [e1, pre_one, Bool.not_eq_true', decide_eq_false_iff_not] at ex
    exact ⟨j', r, k', e1, by omega, e2⟩
  · obtain ⟨hx, ex⟩ := List.mem_filter.mp hx
    rcases h.top x hx with q | q
    · exact .inl q
    · refine .inr (List.mem_filter.mpr ⟨q, ?_⟩)
      obtain ⟨i', r, k', e1, _⟩ := h.a1 x hx
      obtain ⟨i2, r2, _, e2, _⟩ := h.a1 _ q
      dsimp only at e2 ⊢
      rw [e2, pre_one]
      rw [e1, pre_one] at ex
      rw [e1] at e2
      cases r with
      | nil => cases e2
      | cons r0 r =>
        rw [List.dropLast_cons_of_ne_nil (List.cons_ne_nil _ _)] at e2
        injection e2 with e2 _
        rw [← e2]
        exact ex
  · exact List.mem_map.mpr ⟨_, rootf, rfl⟩
  · obtain ⟨y, hy, rfl⟩ := List.mem_map.mp hx
    obtain ⟨r, r', rfl, q1, q2⟩ := hd1 y hy
    exact ⟨q1, q2⟩
  · rw [List.pairwise_map]
    refine (h.fit.sublist List.filter_sublist).imp_of_mem fun {x y} hx hy q => ?_
    obtain ⟨r, r', rfl, _⟩ := hd1 x hx
    obtain ⟨s, s', rfl, _⟩ := hd1 y hy
    rw [fit_cons] at q
    exact q
  · obtain ⟨y, hy, rfl⟩ := List.mem_map.mp hx
    obtain ⟨r, r', rfl, _⟩ := hd1 y hy
    have hy2 := (List.mem_filter.mp hy).1
    cases r with
    | nil =>
      have := one_first h.fit hy2 root rfl
      injection this with _ z
      injection z with _ z
      rw [z]
      exact .inl rfl
    | cons r0 r =>
      cases r' with
      | nil =>
        have := one_second h.fit hy2 root rfl
        injection this with z _
        injection z with _ z
        cases z
      | cons s0 s =>
        refine .inr ?_
        rcases h.top _ hy2 with ⟨q, _⟩ | q
        · simp at q
        · dsimp only at q ⊢
          rw [List.dropLast_cons_of_ne_nil (List.cons_ne_nil _ _), List.dropLast_cons_of_ne_nil (List.cons_ne_nil _ _)] at q
          exact List.mem_map.mpr ⟨_, List.mem_filter.mpr ⟨q, by rw [pre_one, decide_eq_true rfl]⟩, rfl⟩
  · have hlen := (List.filter_append_perm (fun x : PPr => pre [i] x.1) ps).length_eq
    rw [List.length_append] at hlen
    have hu : unlF ks ls (ps.filter fun x => pre [i] x.1) = unlikeN k l ((ps.filter fun x => pre [i] x.1).map fun x => (x.1.tail, x.2.tail)) := by
      unfold unlF unlikeN
      rw [List.filter_map, List.length_map]
      congr 1
      refine List.filter_congr fun x hx => ?_
      obtain ⟨r, r', rfl, _⟩ := hd1 x hx
      have t1 : tgF2 ks (i :: r) = tagAt k r := by unfold tgF2; dsimp only; rw [hk]
      have t2 : tgF2 ls (j :: r') = tagAt l r' := by unfold tgF2; dsimp only; rw [hl]
      show (!@decide (tgF2 ks (i :: r) = tgF2 ls (j :: r')) (Classical.propDecidable _)) = !@decide (tagAt k r = tagAt l r') (Classical.propDecidable _)
      rw [t1, t2]
    unfold fC tCm
    rw [unlF_split ks ls ps (fun x => pre [i] x.1), hu, take_nn hk, take_nn hl, List.length_map]
    omega
/-- the least cost of top matchings, by rows of parts -/
def lD (f : PyData → PyData → Int) (ks ls : List PyData) : Nat → Nat → Int
  | 0, j => (nnAll (ls.take j) : Nat)
  | i + 1, 0 => (nnAll (ks.take (i + 1)) : Nat)
  | i + 1, j + 1 => min (f (ks.getD i .none) (ls.getD j .none) + lD f ks ls i j) (min (lD f ks ls i (j + 1) + (nn (ks.getD i .none) : Nat)) (lD f ks ls (i + 1) j + (nn (ls.getD j .none) : Nat)))
def kdD : PyData → List PyData
  | .tuple [_, .tuple ks] => ks
  | _ => []
def tagD : PyData → Str
  | .tuple [.str s, _] => s
  | _ => ⟨#[]⟩
def tD : Nat → PyData → PyData → Int
  | 0, _, _ => 0
  | n + 1, t, u => lD (tD n) (kdD t) (kdD u) (kdD t).length (kdD u).length + if tagD t = tagD u then 0 else 1
theorem tf_mt {ks ls : List PyData} {i j : Nat} {ps : List PPr} (h : TF2 ks ls i j ps) (e : i = 0 ∨ j = 0) : ps = [] := by
  cases ps with
  | nil => rfl
  | cons x ps =>
    rcases e with e | e
    · obtain ⟨_, _, _, _, z, _⟩ := h.a1 x (.head _)
      omega
    · obtain ⟨_, _, _, _, z, _⟩ := h.a2 x (.head _)
      omega
theorem lD_lb {f : PyData → PyData → Int} {ks ls : List PyData} (hf : ∀ k ∈ ks, ∀ l ∈ ls, ∀ ps, TR2 k l ps → f k l ≤ tCm k l ps) : ∀ (i j : Nat), i ≤ ks.length → j ≤ ls.length → ∀ ps, TF2 ks ls i j ps → lD f ks ls i j ≤ fC ks ls i j ps
  | 0, j, _, _ => fun ps h => by
    rw [tf_mt h (.inl rfl), lD]
    unfold fC unlF
    simp [nnAll]
  | i + 1, 0, _, _ => fun ps h => by
    rw [tf_mt h (.inr rfl), lD]
    unfold fC unlF
    simp [nnAll]
  | i + 1, j + 1, hi, hj => fun ps h => by
    obtain ⟨k, hk⟩ : ∃ k, ks[i]? = some k := ⟨_, List.getElem?_eq_getElem hi⟩
    obtain ⟨l, hl⟩ : ∃ l, ls[j]? = some l := ⟨_, List.getElem?_eq_getElem hj⟩
    have gk : ks.getD i .none = k := by rw [List.getD_eq_getElem?_getD, hk]; rfl
    have gl : ls.getD j .none = l := by rw [List.getD_eq_getElem?_getD, hl]; rfl
    rw [lD, gk, gl]
    by_cases u1 : ∃ x ∈ ps, pre [i] x.1 = true
    · by_cases u2 : ∃ x ∈ ps, pre [j] x.2 = true
      · obtain ⟨p0, p1, q0, q1, q2⟩ := tf_both hk hl h u1 u2
        have b0 := lD_lb hf i j (by omega) (by omega) p0 q0
        have b1 := hf k (List.mem_of_getElem? hk) l (List.mem_of_getElem? hl) p1 q1
        omega
      · obtain ⟨q1, q2⟩ := tf_into hl h fun x hx => by
          cases e : pre [j] x.2 with
          | false => rfl
          | true => exact absurd ⟨x, hx, e⟩ u2
        have := lD_lb hf (i + 1) j hi (by omega) ps q1
        omega
    · obtain ⟨q1, q2⟩ := tf_out hk h fun x hx => by
        cases e : pre [i] x.1 with
        | false => rfl
        | true => exact absurd ⟨x, hx, e⟩ u1
      have := lD_lb hf i (j + 1) (by omega) hj ps q1
      omega
theorem plc_kid {n : Nat} {s : Str} {ks : List PyData} (h : TrT n (.tuple [.str s, .tuple ks])) {q : List Nat} (hq : q ∈ plc (.tuple [.str s, .tuple ks])) (hn : q ≠ []) : ∃ i r k, q = i :: r ∧ i < ks.length ∧ ks[i]? = some k ∧ r ∈ plc k := by
  obtain ⟨e, he⟩ := plc_sub h _ hq
  cases q with
  | nil => exact absurd rfl hn
  | cons i r =>
    rw [sub_node] at he
    cases c : ks[i]? with
    | none => rw [c] at he; cases he
    | some k =>
      rw [c] at he
      have he : sub k r = some e := he
      cases n with
      | zero => exact h.elim
      | succ n =>
        obtain ⟨s', ks', e', _, hk⟩ := h
        injection e' with e'
        injection e' with _ e'
        injection e' with e' _
        injection e' with e'
        subst e'
        exact ⟨i, r, k, rfl, (List.getElem?_eq_some_iff.mp c).1, c, sub_plc (hk k (List.mem_of_getElem? c)) he⟩
/-- no top matching is cheaper -/
theorem tD_lb : ∀ (n : Nat) (t u : PyData) (m : Nat), TrT n t → TrT m u → ∀ ps, TR2 t u ps → tD n t u ≤ tCm t u ps
  | 0, t, u, m, h, _ => h.elim
  | n + 1, t, u, 0, _, h => h.elim
  | n + 1, t, u, m + 1, ht, hu => fun ps h => by
    have ht0 := ht
    have hu0 := hu
    obtain ⟨s, ks, rfl, hs, hk⟩ := ht
    obtain ⟨s', ls, rfl, hs', hl⟩ := hu
    have nd : ps.Nodup := List.Pairwise.imp (fun {a b} (q : fitP a b = true) (e : a = b) => (fit_ne q).1 (by rw [e])) h.fit
    have hp := List.perm_cons_erase h.rt
    have hne : ∀ x ∈ ps.erase ([], []), x ∈ ps ∧ x.1 ≠ [] ∧ x.2 ≠ [] := fun x hx => by
      have hx2 := List.mem_of_mem_erase hx
      have ne : x ≠ ([], []) := fun e => by
        rw [e] at hx
        exact (nd.not_mem_erase) hx
      exact ⟨hx2, fun e => ne (one_first h.fit hx2 h.rt e), fun e => ne (one_second h.fit hx2 h.rt e)⟩
    have tf : TF2 ks ls ks.length ls.length (ps.erase ([], [])) := by
      refine ⟨fun x hx => ?_, fun x hx => ?_, h.fit.sublist List.erase_sublist, fun x hx => ?_⟩
      · obtain ⟨q1, q2, q3⟩ := hne x hx
        exact plc_kid ht0 (h.at_ x q1).1 q2
      · obtain ⟨q1, q2, q3⟩ := hne x hx
        exact plc_kid hu0 (h.at_ x q1).2 q3
      · obtain ⟨q1, q2, q3⟩ := hne x hx
        rcases h.top x q1 with q | q
        · exact absurd (by rw [q]) q2
        · by_cases z : (x.1.dropLast, x.2.dropLast) = (([], []) : PPr)
          · injection z with z1 z2
            have y1 := congrArg List.length z1
            have y2 := congrArg List.length z2
            rw [List.length_dropLast, List.length_nil] at y1 y2
            have w1 := List.length_pos_iff.mpr q2
            have w2 := List.length_pos_iff.mpr q3
            exact .inl ⟨by omega, by omega⟩
          · exact .inr ((List.mem_erase_of_ne z).mpr q)
    have := lD_lb (f := tD n) (fun k hk1 l hl1 qs hq => tD_lb n k l m (hk k hk1) (hl l hl1) qs hq) ks.length ls.length (Nat.le_refl _) (Nat.le_refl _) _ tf
    have hu1 : unlikeN (.tuple [.str s, .tuple ks]) (.tuple [.str s', .tuple ls]) (ps.erase ([], [])) = unlF ks ls (ps.erase ([], [])) := by
      unfold unlikeN unlF
      congr 1
      refine List.filter_congr fun x hx => ?_
      obtain ⟨i, r, k, e1, _, c1, c2⟩ := tf.a1 x hx
      obtain ⟨j, r', l, f1, _, d1, d2⟩ := tf.a2 x hx
      have t1 : tagAt (.tuple [.str s, .tuple ks]) x.1 = tgF2 ks x.1 := by
        rw [e1]
        unfold tagAt tgF2
        dsimp only
        rw [sub_node, c1]
        rfl
      have t2 : tagAt (.tuple [.str s', .tuple ls]) x.2 = tgF2 ls x.2 := by
        rw [f1]
        unfold tagAt tgF2
        dsimp only
        rw [sub_node, d1]
        rfl
      rw [t1, t2]
    have ec : tCm (.tuple [.str s, .tuple ks]) (.tuple [.str s', .tuple ls]) ps = (if s = s' then 0 else 1) + fC ks ls ks.length ls.length (ps.erase ([], [])) := by
      unfold tCm fC
      rw [unl_perm hp, unl_cons, hu1, hp.length_eq, List.length_cons, List.take_length, List.take_length, nn, nn]
      have t1 : tagAt (.tuple [.str s, .tuple ks]) [] = .str s := by unfold tagAt; rw [sub_nil]
      have t2 : tagAt (.tuple [.str s', .tuple ls]) [] = .str s' := by unfold tagAt; rw [sub_nil]
      rw [t1, t2]
      by_cases z : s = s'
      · subst z
        simp
        omega
      · rw [if_neg (by simpa using z), if_neg z]
        omega
    rw [ec, tD]
    show lD (tD n) ks ls ks.length ls.length + (if s = s' then (0 : Int) else 1) ≤ _
    omega
end Tl
set_option Elab.async false
set_option linter.all false
set_option maxRecDepth 100000
set_option maxHeartbeats 8000000
namespace Tl
open PySem L2 RZ
/-! The told top matching. -/
theorem tf_out' {ks ls : List PyData} {i j : Nat} {ps : List PPr} {k : PyData} (hk : ks[i]? = some k) (h : TF2 ks ls i j ps) : TF2 ks ls (i + 1) j ps ∧ fC ks ls (i + 1) j ps = nn k + fC ks ls i j ps := by
  refine ⟨⟨fun x hx => ?_, h.a2, h.fit, h.top⟩, ?_⟩
  · obtain ⟨i', r, k', e, hi, q⟩ := h.a1 x hx
    exact ⟨i', r, k', e, by omega, q⟩
  · unfold fC
    rw [take_nn hk]
    omega
theorem tf_into' {ks ls : List PyData} {i j : Nat} {ps : List PPr} {l : PyData} (hl : ls[j]? = some l) (h : TF2 ks ls i j ps) : TF2 ks ls i (j + 1) ps ∧ fC ks ls i (j + 1) ps = nn l + fC ks ls i j ps := by
  refine ⟨⟨h.a1, fun x hx => ?_, h.fit, h.top⟩, ?_⟩
  · obtain ⟨i', r, k', e, hi, q⟩ := h.a2 x hx
    exact ⟨i', r, k', e, by omega, q⟩
  · unfold fC
    rw [take_nn hl]
    omega
def cons2 (i j : Nat) (x : PPr) : PPr := (i :: x.1, j :: x.2)
theorem tf_both' {ks ls : List PyData} {i j : Nat} {p0 p1 : List PPr} {k l : PyData} (hk : ks[i]? = some k) (hl : ls[j]? = some l) (h0 : TF2 ks ls i j p0) (h1 : TR2 k l p1) :
    TF2 ks ls (i + 1) (j + 1) (p0 ++ p1.map (cons2 i j)) ∧ fC ks ls (i + 1) (j + 1) (p0 ++ p1.map (cons2 i j)) = tCm k l p1 + fC ks ls i j p0 := by
  refine ⟨⟨fun x hx => ?_, fun x hx => ?_, ?_, fun x hx => ?_⟩, ?_⟩
  · rcases List.mem_append.mp hx with hx | hx
    · obtain ⟨i', r, k', e, hi, q⟩ := h0.a1 x hx
      exact ⟨i', r, k', e, by omega, q⟩
    · obtain ⟨y, hy, rfl⟩ := List.mem_map.mp hx
      exact ⟨i, y.1, k, rfl, Nat.lt_succ_self i, hk, (h1.at_ y hy).1⟩
  · rcases List.mem_append.mp hx with hx | hx
    · obtain ⟨i', r, k', e, hi, q⟩ := h0.a2 x hx
      exact ⟨i', r, k', e, by omega, q⟩
    · obtain ⟨y, hy, rfl⟩ := List.mem_map.mp hx
      exact ⟨j, y.2, l, rfl, Nat.lt_succ_self j, hl, (h1.at_ y hy).2⟩
  · rw [List.pairwise_append, List.pairwise_map]
    refine ⟨h0.fit, h1.fit.imp fun {x y} q => ?_, fun x hx y hy => ?_⟩
    · unfold cons2
      rw [fit_cons]
      exact q
    · obtain ⟨z, hz, rfl⟩ := List.mem_map.mp hy
      obtain ⟨i', r, _, e1, hi, _⟩ := h0.a1 x hx
      obtain ⟨j', r', _, e2, hj, _⟩ := h0.a2 x hx
      obtain ⟨x1, x2⟩ := x
      dsimp only at e1 e2
      subst e1 e2
      have l1 : ltN (i' :: r) (i :: z.1) = true := by rw [ltN, if_neg (by omega)]; exact decide_eq_true hi
      have l2 : ltN (j' :: r') (j :: z.2) = true := by rw [ltN, if_neg (by omega)]; exact decide_eq_true hj
      unfold fitP cons2
      have n1 : i' ≠ i := by omega
      have n2 : j' ≠ j := by omega
      simp only [l1, l2, pre_cons, decide_eq_false n1, decide_eq_false n2, decide_eq_false (fun z : i = i' => n1 z.symm), decide_eq_false (fun z : j = j' => n2 z.symm), Bool.false_and, List.cons.injEq, n1, n2, false_and, decide_false, Bool.not_false, Bool.true_and, decide_true]
  · rcases List.mem_append.mp hx with hx | hx
    · rcases h0.top x hx with q | q
      · exact .inl q
      · exact .inr (List.mem_append_left _ q)
    · obtain ⟨y, hy, rfl⟩ := List.mem_map.mp hx
      by_cases e : y = ([], [])
      · rw [e]
        exact .inl ⟨rfl, rfl⟩
      · have n1 : y.1 ≠ [] := fun z => e (one_first h1.fit hy h1.rt z)
        have n2 : y.2 ≠ [] := fun z => e (one_second h1.fit hy h1.rt z)
        rcases h1.top y hy with q | q
        · exact absurd q e
        · refine .inr (List.mem_append_right _ (List.mem_map.mpr ⟨_, q, ?_⟩))
          unfold cons2
          dsimp only
          rw [List.dropLast_cons_of_ne_nil n1, List.dropLast_cons_of_ne_nil n2]
  · have hu : unlF ks ls (p1.map (cons2 i j)) = unlikeN k l p1 := by
      unfold unlF unlikeN
      rw [List.filter_map, List.length_map]
      congr 1
      refine List.filter_congr fun x hx => ?_
      have t1 : tgF2 ks (i :: x.1) = tagAt k x.1 := by unfold tgF2; dsimp only; rw [hk]
      have t2 : tgF2 ls (j :: x.2) = tagAt l x.2 := by unfold tgF2; dsimp only; rw [hl]
      show (!@decide (tgF2 ks (i :: x.1) = tgF2 ls (j :: x.2)) (Classical.propDecidable _)) = !@decide (tagAt k x.1 = tagAt l x.2) (Classical.propDecidable _)
      rw [t1, t2]
    have ha : unlF ks ls (p0 ++ p1.map (cons2 i j)) = unlF ks ls p0 + unlF ks ls (p1.map (cons2 i j)) := by
      unfold unlF
      rw [List.filter_append, List.length_append]
    unfold fC tCm
    rw [ha, hu, take_nn hk, take_nn hl, List.length_append, List.length_map]
    omega
/-! as the code goes -/
abbrev CP := Int × List PPr
def min3 (a b c : CP) : CP := let m := if b.1 < a.1 then b else a; if c.1 < m.1 then c else m
theorem min3_or (a b c : CP) : (min3 a b c = a ∨ min3 a b c = b ∨ min3 a b c = c) ∧ (min3 a b c).1 = min a.1 (min b.1 c.1) := by
  unfold min3
  dsimp only
  by_cases h1 : b.1 < a.1
  · rw [if_pos h1]
    by_cases h2 : c.1 < b.1
    · rw [if_pos h2]; exact ⟨.inr (.inr rfl), by omega⟩
    · rw [if_neg h2]; exact ⟨.inr (.inl rfl), by omega⟩
  · rw [if_neg h1]
    by_cases h2 : c.1 < a.1
    · rw [if_pos h2]; exact ⟨.inr (.inr rfl), by omega⟩
    · rw [if_neg h2]; exact ⟨.inl rfl, by omega⟩
def withC (x : CP) (k : PyData) : CP := (x.1 + (nn k : Nat), x.2)
/-- a cell of the rows -/
def cE (f : PyData → PyData → List Nat → List Nat → CP) (ks ls : List PyData) (p q : List Nat) : Nat → Nat → CP
  | 0, j => ((nnAll (ls.take j) : Nat), [])
  | i + 1, 0 => withC (cE f ks ls p q i 0) (ks.getD i .none)
  | i + 1, j + 1 => min3 ((cE f ks ls p q i j).1 + (f (ks.getD i .none) (ls.getD j .none) (p ++ [i]) (q ++ [j])).1, (cE f ks ls p q i j).2 ++ (f (ks.getD i .none) (ls.getD j .none) (p ++ [i]) (q ++ [j])).2)
      (withC (cE f ks ls p q i (j + 1)) (ks.getD i .none)) (withC (cE f ks ls p q (i + 1) j) (ls.getD j .none))
def prE : Nat → PyData → PyData → List Nat → List Nat → CP
  | 0, _, _, _, _ => (0, [])
  | n + 1, t, u, p, q => ((cE (prE n) (kdD t) (kdD u) p q (kdD t).length (kdD u).length).1 + (if tagD t = tagD u then 0 else 1), (p, q) :: (cE (prE n) (kdD t) (kdD u) p q (kdD t).length (kdD u).length).2)
def pfx (p q : List Nat) (x : PPr) : PPr := (p ++ x.1, q ++ x.2)
theorem cE_ok {f : PyData → PyData → List Nat → List Nat → CP} {g : PyData → PyData → Int} {ks ls : List PyData} (hf : ∀ k ∈ ks, ∀ l ∈ ls, ∀ p q, (f k l p q).1 = g k l ∧ ∃ ps, TR2 k l ps ∧ tCm k l ps = g k l ∧ (f k l p q).2 = ps.map (pfx p q)) (p q : List Nat) :
    ∀ i j, i ≤ ks.length → j ≤ ls.length → (cE f ks ls p q i j).1 = lD g ks ls i j ∧ ∃ ps, TF2 ks ls i j ps ∧ fC ks ls i j ps = lD g ks ls i j ∧ (cE f ks ls p q i j).2 = ps.map (pfx p q)
  | 0, j, _, _ => by
    refine ⟨by rw [cE, lD], [], ⟨(fun _ h => by cases h), (fun _ h => by cases h), List.Pairwise.nil, (fun _ h => by cases h)⟩, ?_, by rw [cE]; rfl⟩
    rw [lD]
    unfold fC unlF
    simp [nnAll]
  | i + 1, 0, hi, hj => by
    obtain ⟨h1, ps, h2, h3, h4⟩ := cE_ok hf p q i 0 (by omega) hj
    obtain ⟨k, hk⟩ : ∃ k, ks[i]? = some k := ⟨_, List.getElem?_eq_getElem hi⟩
    have gk : ks.getD i .none = k := by rw [List.getD_eq_getElem?_getD, hk]; rfl
    have e0 : lD g ks ls i 0 = (nnAll (ks.take i) : Nat) := by
      cases i with
      | zero => rw [lD]; simp [nnAll]
      | succ i => rw [lD]
    have e1 : lD g ks ls (i + 1) 0 = nn k + lD g ks ls i 0 := by
      rw [e0, lD, take_nn hk]
      omega
    obtain ⟨t1, t2⟩ := tf_out' hk h2
    refine ⟨?_, ps, t1, by rw [t2, h3, e1], ?_⟩
    · rw [cE, gk, e1]
      unfold withC
      dsimp only
      rw [h1]
      omega
    · rw [cE]
      exact h4
  | i + 1, j + 1, hi, hj => by
    obtain ⟨k, hk⟩ : ∃ k, ks[i]? = some k := ⟨_, List.getElem?_eq_getElem hi⟩
    obtain ⟨l, hl⟩ : ∃ l, ls[j]? = some l := ⟨_, List.getElem?_eq_getElem hj⟩
    have gk : ks.getD i .none = k := by rw [List.getD_eq_getElem?_getD, hk]; rfl
    have gl : ls.getD j .none = l := by rw [List.getD_eq_getElem?_getD, hl]; rfl
    obtain ⟨a1, pa, a2, a3, a4⟩ := cE_ok hf p q i j (by omega) (by omega)
    obtain ⟨b1, pb, b2, b3, b4⟩ := cE_ok hf p q i (j + 1) (by omega) hj
    obtain ⟨c1, pc, c2, c3, c4⟩ := cE_ok hf p q (i + 1) j hi (by omega)
    obtain ⟨f1, pf, f2, f3, f4⟩ := hf k (List.mem_of_getElem? hk) l (List.mem_of_getElem? hl) (p ++ [i]) (q ++ [j])
    rw [cE, lD, gk, gl]
    obtain ⟨ho, hm⟩ := min3_or ((cE f ks ls p q i j).1 + (f k l (p ++ [i]) (q ++ [j])).1, (cE f ks ls p q i j).2 ++ (f k l (p ++ [i]) (q ++ [j])).2) (withC (cE f ks ls p q i (j + 1)) k) (withC (cE f ks ls p q (i + 1) j) l)
    generalize min3 _ _ _ = m at ho hm ⊢
    unfold withC at ho hm
    dsimp only at ho hm
    rw [a1, b1, c1, f1] at hm
    have hv : m.1 = min (g k l + lD g ks ls i j) (min (lD g ks ls i (j + 1) + (nn k : Nat)) (lD g ks ls (i + 1) j + (nn l : Nat))) := by rw [hm]; omega
    refine ⟨hv, ?_⟩
    rcases ho with rfl | rfl | rfl
    · obtain ⟨t1, t2⟩ := tf_both' hk hl a2 f2
      refine ⟨_, t1, ?_, ?_⟩
      · rw [t2, f3, a3, ← hv]
        dsimp only
        rw [a1, f1]
        omega
      · dsimp only
        rw [a4, f4, List.map_append, List.map_map]
        congr 1
        refine List.map_congr_left fun x _ => ?_
        show (p ++ [i] ++ x.1, q ++ [j] ++ x.2) = (p ++ (i :: x.1), q ++ (j :: x.2))
        rw [List.append_assoc, List.append_assoc]
        rfl
    · obtain ⟨t1, t2⟩ := tf_out' hk b2
      refine ⟨_, t1, ?_, b4⟩
      rw [t2, b3, ← hv]
      dsimp only
      rw [b1]
      omega
    · obtain ⟨t1, t2⟩ := tf_into' hl c2
      refine ⟨_, t1, ?_, c4⟩
      rw [t2, c3, ← hv]
      dsimp only
      rw [c1]
      omega
end Tl
set_option Elab.async false
set_option linter.all false
set_option maxRecDepth 100000
set_option maxHeartbeats 8000000
namespace Tl
open PySem L2 RZ
theorem tr_of_tf {n m : Nat} {s s' : Str} {ks ls : List PyData} {ps : List PPr} (ht : TrT n (.tuple [.str s, .tuple ks])) (hu : TrT m (.tuple [.str s', .tuple ls])) (h : TF2 ks ls ks.length ls.length ps) : TR2 (.tuple [.str s, .tuple ks]) (.tuple [.str s', .tuple ls]) (([], []) :: ps) ∧ tCm (.tuple [.str s, .tuple ks]) (.tuple [.str s', .tuple ls]) (([], []) :: ps) = (if s = s' then 0 else 1) + fC ks ls ks.length ls.length ps := by
  refine ⟨⟨.head _, fun x hx => ?_, ?_, fun x hx => ?_⟩, ?_⟩
  · rcases List.mem_cons.mp hx with rfl | hx
    · rw [plc_node, plc_node]
      exact ⟨.head _, .head _⟩
    · obtain ⟨i, r, k, e1, _, c1, c2⟩ := h.a1 x hx
      obtain ⟨j, r', l, f1, _, d1, d2⟩ := h.a2 x hx
      rw [plc_node, plc_node, e1, f1]
      have m1 := mem_plcAll 0 c1 c2
      have m2 := mem_plcAll 0 d1 d2
      rw [Nat.zero_add] at m1 m2
      exact ⟨.tail _ m1, .tail _ m2⟩
  · rw [List.pairwise_cons]
    refine ⟨fun x hx => ?_, h.fit⟩
    obtain ⟨i, r, k, e1, _⟩ := h.a1 x hx
    obtain ⟨j, r', l, f1, _⟩ := h.a2 x hx
    obtain ⟨x1, x2⟩ := x
    dsimp only at e1 f1
    subst e1 f1
    rfl
  · rcases List.mem_cons.mp hx with rfl | hx
    · exact .inl rfl
    · refine .inr ?_
      rcases h.top x hx with ⟨q1, q2⟩ | q
      · have z1 : x.1.dropLast = [] := List.length_eq_zero_iff.mp (by rw [List.length_dropLast]; omega)
        have z2 : x.2.dropLast = [] := List.length_eq_zero_iff.mp (by rw [List.length_dropLast]; omega)
        rw [z1, z2]
        exact .head _
      · exact .tail _ q
  · have hu1 : unlikeN (.tuple [.str s, .tuple ks]) (.tuple [.str s', .tuple ls]) ps = unlF ks ls ps := by
      unfold unlikeN unlF
      congr 1
      refine List.filter_congr fun x hx => ?_
      obtain ⟨i, r, k, e1, _, c1, c2⟩ := h.a1 x hx
      obtain ⟨j, r', l, f1, _, d1, d2⟩ := h.a2 x hx
      have t1 : tagAt (.tuple [.str s, .tuple ks]) x.1 = tgF2 ks x.1 := by
        rw [e1]
        unfold tagAt tgF2
        dsimp only
        rw [sub_node, c1]
        rfl
      have t2 : tagAt (.tuple [.str s', .tuple ls]) x.2 = tgF2 ls x.2 := by
        rw [f1]
        unfold tagAt tgF2
        dsimp only
        rw [sub_node, d1]
        rfl
      rw [t1, t2]
    unfold tCm fC
    rw [unl_cons, hu1, List.length_cons, List.take_length, List.take_length, nn, nn]
    have t1 : tagAt (.tuple [.str s, .tuple ks]) [] = .str s := by unfold tagAt; rw [sub_nil]
    have t2 : tagAt (.tuple [.str s', .tuple ls]) [] = .str s' := by unfold tagAt; rw [sub_nil]
    rw [t1, t2]
    by_cases z : s = s'
    · subst z
      simp
      omega
    · rw [if_neg (by simpa using z), if_neg z]
      omega
theorem prE_ok : ∀ (n : Nat) (t u : PyData) (m : Nat), TrT n t → TrT m u → ∀ p q, (prE n t u p q).1 = tD n t u ∧ ∃ ps, TR2 t u ps ∧ tCm t u ps = tD n t u ∧ (prE n t u p q).2 = ps.map (pfx p q)
  | 0, t, u, m, h, _ => h.elim
  | n + 1, t, u, 0, _, h => h.elim
  | n + 1, t, u, m + 1, ht, hu => fun p q => by
    have ht0 := ht
    have hu0 := hu
    obtain ⟨s, ks, rfl, hs, hk⟩ := ht
    obtain ⟨s', ls, rfl, hs', hl⟩ := hu
    obtain ⟨h1, ps, h2, h3, h4⟩ := cE_ok (f := prE n) (g := tD n) (ks := ks) (ls := ls) (fun k hk1 l hl1 p q => prE_ok n k l m (hk k hk1) (hl l hl1) p q) p q ks.length ls.length (Nat.le_refl _) (Nat.le_refl _)
    obtain ⟨g1, g2⟩ := tr_of_tf ht0 hu0 h2
    refine ⟨?_, ([], []) :: ps, g1, ?_, ?_⟩
    · show (cE (prE n) ks ls p q ks.length ls.length).1 + (if s = s' then (0 : Int) else 1) = lD (tD n) ks ls ks.length ls.length + if s = s' then 0 else 1
      rw [h1]
    · rw [g2, h3]
      show _ = lD (tD n) ks ls ks.length ls.length + if s = s' then (0 : Int) else 1
      omega
    · show (p, q) :: (cE (prE n) ks ls p q ks.length ls.length).2 = _
      rw [h4, List.map_cons]
      unfold pfx
      simp
/-- the told top matching, rising -/
def toldT (t u : PyData) : List PPr := srtPP (prE 12 t u [] []).2
theorem tr_mat {t u : PyData} {ps : List PPr} (h : TR2 t u ps) : Mat t u (srtPP ps) ∧ ∀ x ∈ (srtPP ps).drop 1, (x.1.dropLast, x.2.dropLast) ∈ srtPP ps := by
  have p := srtPP_perm ps
  have nd : (ps.map id).Nodup := by
    rw [List.map_id]
    exact List.Pairwise.imp (fun {a b} (q : fitP a b = true) (e : a = b) => (fit_ne q).1 (by rw [e])) h.fit
  have srt1 : (srtPP ps).Pairwise fun x y => ltP x y = true := by
    have := So.sorted so_P id nd
    rwa [List.map_id] at this
  have fit2 := h.fit.perm p.symm fun h => fits_two h
  have st := steps_fits.mpr ⟨srt1, fit2⟩
  have hm : (([], []) : PPr) ∈ srtPP ps := p.mem_iff.mpr h.rt
  have hd : (srtPP ps).head? = some ([], []) := by
    cases e : srtPP ps with
    | nil => rw [e] at hm; cases hm
    | cons y r =>
      rw [e] at hm srt1
      rcases List.mem_cons.mp hm with z | z
      · rw [← z]
        rfl
      · have := (List.pairwise_cons.mp srt1).1 _ z
        obtain ⟨a, b⟩ := y
        unfold ltP at this
        dsimp only at this
        split at this
        · cases b <;> cases this
        · cases a <;> cases this
  refine ⟨⟨fun x hx => h.at_ x (p.mem_iff.mp hx), hd, st⟩, fun x hx => ?_⟩
  have hx2 := List.mem_of_mem_drop hx
  rcases h.top x (p.mem_iff.mp hx2) with q | q
  · exfalso
    cases e : srtPP ps with
    | nil => rw [e] at hm; cases hm
    | cons y r =>
      rw [e] at hd hx srt1
      cases hd
      have hx : x ∈ r := hx
      have := (List.pairwise_cons.mp srt1).1 x hx
      rw [q] at this
      cases this
  · exact p.mem_iff.mpr q
theorem tC_perm {t u : PyData} {ps qs : List PPr} (h : ps.Perm qs) : tCm t u ps = tCm t u qs := by
  unfold tCm
  rw [unl_perm h, h.length_eq]
theorem tC_m {t u : PyData} {ps : List PPr} : mCost t u ⟨1, 1, 1⟩ ps = tCm t u ps := by
  unfold mCost tCm
  dsimp only
  omega
theorem toldT_ok {n m : Nat} {t u : PyData} (ht : TrT 12 t) (hu : TrT m u) : Mat t u (toldT t u) ∧ (∀ x ∈ (toldT t u).drop 1, (x.1.dropLast, x.2.dropLast) ∈ toldT t u) ∧ tCm t u (toldT t u) = tD 12 t u := by
  obtain ⟨_, ps, h1, h2, h3⟩ := prE_ok 12 t u m ht hu [] []
  have e : (prE 12 t u [] []).2 = ps := by
    rw [h3]
    unfold pfx
    simp
  unfold toldT
  rw [e]
  obtain ⟨g1, g2⟩ := tr_mat h1
  exact ⟨g1, g2, by rw [tC_perm (srtPP_perm ps), h2]⟩
/-! the other way round -/
def swp (x : PPr) : PPr := (x.2, x.1)
theorem fit_swp {x y : PPr} (h : fitP x y = true) : fitP (swp x) (swp y) = true := by
  unfold fitP swp at *
  simp only [Bool.and_eq_true, Bool.not_eq_true', decide_eq_false_iff_not, decide_eq_true_eq] at h ⊢
  exact ⟨⟨⟨⟨h.1.1.1.2, h.1.1.1.1⟩, h.1.1.2.symm⟩, h.1.2.symm⟩, h.2.symm⟩
theorem tr_swp {t u : PyData} {ps : List PPr} (h : TR2 t u ps) : TR2 u t (ps.map swp) ∧ tCm u t (ps.map swp) = tCm t u ps := by
  refine ⟨⟨List.mem_map.mpr ⟨_, h.rt, rfl⟩, fun x hx => ?_, ?_, fun x hx => ?_⟩, ?_⟩
  · obtain ⟨y, hy, rfl⟩ := List.mem_map.mp hx
    exact ⟨(h.at_ y hy).2, (h.at_ y hy).1⟩
  · rw [List.pairwise_map]
    exact h.fit.imp fun q => fit_swp q
  · obtain ⟨y, hy, rfl⟩ := List.mem_map.mp hx
    rcases h.top y hy with q | q
    · rw [q]
      exact .inl rfl
    · exact .inr (List.mem_map.mpr ⟨_, q, rfl⟩)
  · have hu : unlikeN u t (ps.map swp) = unlikeN t u ps := by
      unfold unlikeN
      rw [List.filter_map, List.length_map]
      congr 1
      refine List.filter_congr fun x hx => ?_
      show (!@decide (tagAt u x.2 = tagAt t x.1) (Classical.propDecidable _)) = _
      congr 1
      exact decide_eq_decide.mpr eq_comm
    unfold tCm
    rw [hu, List.length_map]
    omega
theorem tD_swp {t u : PyData} (ht : TrT 12 t) (hu : TrT 12 u) : tD 12 u t = tD 12 t u := by
  obtain ⟨_, ps, h1, h2, _⟩ := prE_ok 12 t u 12 ht hu [] []
  obtain ⟨_, qs, g1, g2, _⟩ := prE_ok 12 u t 12 hu ht [] []
  obtain ⟨a1, a2⟩ := tr_swp h1
  obtain ⟨b1, b2⟩ := tr_swp g1
  have c1 := tD_lb 12 u t 12 hu ht _ a1
  have c2 := tD_lb 12 t u 12 ht hu _ b1
  omega
end Tl
set_option Elab.async false
set_option linter.all false
set_option maxRecDepth 100000
set_option maxHeartbeats 8000000
namespace Tl
open PySem L2 RZ
theorem plc_last {n : Nat} {t : PyData} (h : TrT n t) : ∀ q ∈ plc t, q.dropLast ∈ plc t := fun q hq => by
  obtain ⟨e, he⟩ := plc_sub h q hq
  rcases List.eq_nil_or_concat q with rfl | ⟨r, i, rfl⟩
  · exact hq
  · rw [List.concat_eq_append] at he ⊢
    rw [List.dropLast_concat]
    have : ∀ (d : PyData) (r : List Nat), (∃ e, sub d (r ++ [i]) = some e) → ∃ e, sub d r = some e := by
      intro d r
      induction r generalizing d with
      | nil => exact fun _ => ⟨d, sub_nil d⟩
      | cons a r ih =>
        rintro ⟨e, he⟩
        rw [List.cons_append] at he
        obtain ⟨s, ks, k, rfl, hk, he⟩ := sub_consE he
        obtain ⟨e2, he2⟩ := ih k ⟨e, he⟩
        exact ⟨e2, by rw [sub_node, hk]; exact he2⟩
    obtain ⟨e2, he2⟩ := this t r ⟨e, he⟩
    exact sub_plc h he2
theorem id_tr {n : Nat} {t : PyData} (h : TrT n t) : TR2 t t ((plc t).map fun q => (q, q)) ∧ tCm t t ((plc t).map fun q => (q, q)) = 0 := by
  refine ⟨⟨List.mem_map.mpr ⟨[], sub_plc h (sub_nil t), rfl⟩, fun x hx => ?_, ?_, fun x hx => ?_⟩, ?_⟩
  · obtain ⟨q, hq, rfl⟩ := List.mem_map.mp hx
    exact ⟨hq, hq⟩
  · rw [List.pairwise_map]
    refine List.Pairwise.imp (fun {a b} (ne : a ≠ b) => ?_) (plc_nodup h)
    unfold fitP
    simp [ne]
  · obtain ⟨q, hq, rfl⟩ := List.mem_map.mp hx
    exact .inr (List.mem_map.mpr ⟨_, plc_last h q hq, rfl⟩)
  · have hu : unlikeN t t ((plc t).map fun q => (q, q)) = 0 := by
      unfold unlikeN
      rw [List.length_eq_zero_iff, List.filter_eq_nil_iff]
      intro x hx
      obtain ⟨q, hq, rfl⟩ := List.mem_map.mp hx
      simp
    unfold tCm
    rw [hu, List.length_map, plc_len h]
    omega
theorem up_all {a b : List (List Nat)} (ha : Up a) (hs : ∀ x ∈ a, x ∈ b) (hb : Up b) (hl : a.length = b.length) : a = b := by
  refine up_ext ha hb fun x => ⟨hs x, fun hx => Classical.byContradiction fun hn => ?_⟩
  have := up_len (b := b.erase x) ha fun y hy => (List.mem_erase_of_ne (fun e => hn (by rw [← e]; exact hy))).mpr (hs y hy)
  rw [List.length_erase_of_mem hx] at this
  have := List.length_pos_of_mem hx
  omega
theorem both_maps : ∀ {l : List PPr} {a : List (List Nat)}, l.map (·.1) = a → l.map (·.2) = a → l = a.map fun q => (q, q)
  | [], a, h, _ => by rw [← h]; rfl
  | x :: l, a, h, g => by
    cases a with
    | nil => cases h
    | cons q a =>
      rw [List.map_cons] at h g
      injection h with h1 h2
      injection g with g1 g2
      rw [List.map_cons, ← both_maps h2 g2]
      congr 1
      exact Prod.ext h1 g1
/-- a tree and itself -/
theorem told_same {t : PyData} (h : TrT 12 t) : toldT t t = (plc t).map fun q => (q, q) := by
  obtain ⟨hm, _, hc⟩ := toldT_ok (n := 0) h h
  obtain ⟨i1, i2⟩ := id_tr h
  have lb := tD_lb 12 t t 12 h h _ i1
  have hl := hm.len
  rw [plc_len h] at hl
  unfold tCm at hc
  have hn : (toldT t t).length = nn t := by omega
  have s1 : Up ((toldT t t).map (·.1)) := List.pairwise_map.mpr (hm.st.imp fun {x y} k => by
    unfold step1 at k
    rw [Bool.and_eq_true, Bool.and_eq_true] at k
    exact k.1.1)
  have s2 : Up ((toldT t t).map (·.2)) := List.pairwise_map.mpr (hm.st.imp fun {x y} k => by
    unfold step1 at k
    rw [Bool.and_eq_true, Bool.and_eq_true] at k
    exact k.1.2)
  refine both_maps (up_all s1 (fun x hx => ?_) (plc_up h) (by rw [List.length_map, hn, plc_len h])) (up_all s2 (fun x hx => ?_) (plc_up h) (by rw [List.length_map, hn, plc_len h]))
  · obtain ⟨y, hy, rfl⟩ := List.mem_map.mp hx
    exact (hm.at_ y hy).1
  · obtain ⟨y, hy, rfl⟩ := List.mem_map.mp hx
    exact (hm.at_ y hy).2
end Tl
set_option Elab.async false
set_option linter.all false
set_option maxRecDepth 100000
set_option maxHeartbeats 4000000
/-! min(xs, key=lambda p: ..), xs a list, the keys numbers: the first of the least. -/
namespace Tl
open PySem PySem.Spec L2 PyProof.Rows
section
variable {prog : Program} {w : World} {A : Around} {E : Value → Shared → Prop} {s : Shared}
theorem min_key_list {a f : Addr} {its : List Value} {ks : List Int} {Q : Value → Shared → Prop} (hl : s.heap.IsList a its.toArray) (hn : 0 < its.length) (hk : ks.length = its.length) (hh : A.handled = none)
    (turn : ∀ (i : Nat) (v : Value) (k : Int), its[i]? = some v → ks[i]? = some k → ∀ (h : Heap) (tk : Nat), (∀ b o, s.heap.get? b = some o → h.get? b = some o) →
      wpAny (model prog w) A.in1 (call (.ref f) [v]) (fun u s2 => ∃ h' tk' t, s2 = { s with heap := h', toks := tk' } ∧ (∀ b o, h.get? b = some o → h'.get? b = some o) ∧ u = .int k t) (fun _ _ => False) { s with heap := h, toks := tk })
    (go : ∀ (v : Value) (h' : Heap) (tk' : Nat), its[argBest (fun i j => decide (ks.getD i 0 < ks.getD j 0)) (its.length - 1)]? = some v → (∀ b o, s.heap.get? b = some o → h'.get? b = some o) → Q v { s with heap := h', toks := tk' }) :
    wpAny (model prog w) A (call (.builtin "min") [.ref a] [(Str.ofString "key", .ref f)]) Q E s := by
  refine PySem.call_min_walkK (wpAny_pyIter_list hl ?_)
  have hI : a ≠ s.heap.objs.size := by
    obtain ⟨o, ho, _⟩ := hl
    exact Nat.ne_of_lt (Heap.lt_size ho)
  have W := (Walks.list (prog := prog) (w := w) (A := A.in1) hh s.heap.objs.size a hI its.toArray).toS
  have up : ∀ b o, s.heap.get? b = some o → (s.heap.push { cls := .type "list_iterator", data := .fields #[.ref a, .int 0 0] }).get? b = some o := fun b o e => Heap.get?_push_of_some _ e
  refine ⟨s.heap.objs.size, _, _, _, _, _, _, fun s' => ∃ h' tk', s' = { s with heap := h', toks := tk' } ∧ ∀ b o, s.heap.get? b = some o → h'.get? b = some o, fun i k _ => ∃ t, k = .int (ks.getD i 0) t, fun i j => decide (ks.getD i 0 < ks.getD j 0), rfl, W, ⟨⟨_, Heap.get?_push_size _ rfl, rfl, rfl⟩, hl.at fun o e => up a o e⟩, fun b hb => ?_, by simpa using hn, ⟨fun s1 s2 hj hm => ?_, fun i k s1 s2 hv hm => hv, fun i v s1 o Q2 E2 hi hv hj hst hS hgo => ?_, fun i j ki kj s1 Q2 E2 hj hki hkj hq => ?_⟩, ⟨_, _, rfl, up⟩, fun v s' hv hj => ?_⟩
  · have hb : b = s.heap.objs.size ∨ b = a := by simpa using hb
    rw [Heap.size_push]
    rcases hb with rfl | rfl
    · exact Nat.lt_succ_self _
    · obtain ⟨o, ho, _⟩ := hl
      exact Nat.lt_succ_of_lt (Heap.lt_size ho)
  · obtain ⟨h', tk', rfl, kp⟩ := hj
    obtain ⟨hm1, hm2, hm3, hm4, hm5⟩ := hm
    refine ⟨s2.heap, s2.toks, ?_, fun b o e => hm1 b o (fun z => ?_) (kp b o e)⟩
    · obtain ⟨x1, x2, x3, x4, x5⟩ := s2
      have hm2 : x2 = s.gens := hm2
      have hm3 : x3 = s.drawn := hm3
      have hm4 : x5 = s.os := hm4
      subst hm2 hm3 hm4
      rfl
    · have lt := Heap.lt_size e
      have z : b = (s.heap.push { cls := .type "list_iterator", data := .fields #[.ref a, .int 0 0] }).objs.size ∨ b = s.heap.objs.size := by simpa using z
      rw [Heap.size_push] at z
      rcases z with z | z
      · exact Nat.lt_irrefl _ (Nat.lt_of_lt_of_le lt (by rw [z]; exact Nat.le_succ _))
      · exact Nat.lt_irrefl _ (Nat.lt_of_lt_of_le lt (by rw [z]; exact Nat.le_refl _))
  · obtain ⟨h', tk', rfl, kp⟩ := hj
    have hi : i < its.length := by simpa using hi
    have hv : its[i]? = some v := by simpa using hv
    have hki : ks[i]? = some (ks.getD i 0) := by
      rw [List.getD_eq_getElem?_getD, List.getElem?_eq_getElem (by omega)]
      rfl
    refine wpAny_mono (turn i v _ hv hki h' tk' kp) (fun u s2 h => ?_) fun _ _ h => h.elim
    obtain ⟨h2, tk2, t, rfl, kp2, rfl⟩ := h
    exact hgo _ _ ⟨h2, tk2, rfl, fun b o e => kp2 b o (kp b o e)⟩ ⟨hst.1.at fun o e => kp2 _ o e, hst.2.at fun o e => kp2 _ o e⟩ (kp2 _ _ hS) ⟨t, rfl⟩ fun j k' h => h
  · obtain ⟨t, rfl⟩ := hki
    obtain ⟨u, rfl⟩ := hkj
    exact wpAny_lt_int hq
  · obtain ⟨h', tk', rfl, kp⟩ := hj
    refine go v h' tk' ?_ kp
    simpa using hv
end
end Tl
namespace Tl
open PySem PySem.Spec L2 PyProof.Rows
open PySem.W (KeyPure)
/-- a pair that begins with a number -/
def IOk (d : PyData) : Prop := ∃ (c : Int) (e : PyData), d = .tuple [.int c, e]
def kI : PyData → Int
  | .tuple [.int c, _] => c
  | _ => 0
/-- what the lambda's body gives of such a pair -/
def KeyI (prog : Program) (w : World) (mg : Str → Option Value) (body : Expr) (scope : Scope) (x : Str) : Prop :=
  ∀ (A : Around) (s0 : Shared) (g : Heap) (tk : Nat) (q : Str) (L f : Addr) (cd v : Value) (d : PyData) (as : List Addr), (∀ a o, s0.heap.get? a = some o → g.get? a = some o) → g.Ns L (fun y => [(x, v)].reverse.lookup y) → Reads g v d as → IOk d →
    wpAny (model prog w) A (eval body (PySem.W.envX q scope L f cd [])) (KeyPure (.int (kI d)) s0) (fun _ _ => False) { s0 with heap := g, toks := tk }
theorem tup_of {h : Heap} {v : Value} {c : Int} {e : PyData} {as : List Addr} (r : Reads h v (.tuple [.int c, e]) as) : ∃ (a : Addr) (t : Tok) (u : Value), v = .ref a ∧ IsTup h a [.int c t, u].toArray := by
  cases r with
  | tuple h1 h2 h3 h4 =>
    rename_i a o vs n
    generalize e0 : vs.toList = l at h4
    cases h4 with
    | cons r1 r2 =>
      cases r1
      cases r2 with
      | cons r2 r3 =>
        cases r3
        rename_i t0 u0 as0
        refine ⟨a, t0, u0, rfl, o, h1, h2, n, ?_⟩
        rw [h3, ← e0]
/-- x[0] -/
theorem ev_key0 {prog : Program} {w : World} {mg : Str → Option Value} {scope : Scope} {x : Str} {p1 p2 p3 : Pos} {j : Nat} (hk : scope.kind = .function) (hl : scope.names.lookup x = some .local) (hd : (x == ("__debug__" : Str)) = false := by decide) : KeyI prog w mg (.Subscript (.Name x p1) (.Constant (.int 0) j p2) p3) scope x := by
  intro A s0 g tk q L f cd v d as kp hn r hd2
  obtain ⟨c, e, rfl⟩ := hd2
  obtain ⟨a, t, u, rfl, ht⟩ := tup_of r
  refine Subscript_ (wpAny_Name (wpAny_loadName_local hk hl hn (v := .ref a) (by simp) (wpAny_Constant_int ?_)) hd)
  refine item_tupleL (j := 0) (s := { s0 with heap := g, toks := tk + 1 }) ht (by decide) (by decide) (by rfl) (by rfl) ⟨g, tk + 1, rfl, kp, ?_⟩
  exact Reads.int _ _
def bestI (zs : List (V × PyData)) : Nat := argBest (fun i j => decide ((zs.map fun z => kI z.2).getD i 0 < (zs.map fun z => kI z.2).getD j 0)) (zs.length - 1)
theorem run_minK {X : Cx} (hdp : X.A.depth < recursionLimit) (hh : X.A.handled = none) {pins : List (Addr × Obj)} {s : Shared} {σ : L2.St} {H : Hp} {a f b : Addr} {q x : Str} {zs : List (V × PyData)} {v : Value} {params : Arguments} {body : Expr} {scope : Scope} {pm ctv : Value} {Q : VK}
    (I : Inv X pins σ H s) (hv : v = .ref a) (hs : SqL X.K H a (zs.map (·.1))) (hd : DpAll X.K H (zs.map (·.1)) (zs.map (·.2))) (hz : ∀ z ∈ zs, IOk z.2) (hn : 0 < zs.length) (L : LamN x scope)
    (ho : s.heap.get? f = some (PySem.W.kla_obj "<lambda>" q params body scope [] pm b ctv)) (hb : H b = some (LamX.CodeO b q))
    (bd : ∀ v, bindArgs (PySem.W.kla_fn "<lambda>" q params body scope [] pm (.ref b) ctv) ⟨[v], []⟩ = pure [(x, v)]) (ev : KeyI X.prog X.w X.mg body scope x)
    (go : ∀ z, zs[bestI zs]? = some z → Q z.1 H) :
    wpAny (model X.prog X.w) X.A (call (.builtin "min") [v] [(Str.ofString "key", .ref f)]) (EP X pins σ Q) X.xe s := by
  subst hv
  obtain ⟨its, rv, hl, hsz⟩ := I.list hs
  have er := each_reads I rv hd
  have hlen : its.length = zs.length := by
    have := rv.length
    rw [List.length_map] at this
    exact this.symm
  refine min_key_list (ks := zs.map fun z => kI z.2) hl.isList (by omega) (by rw [List.length_map]; omega) hh (fun i v k hi hk h tk kp => ?_) fun v h' tk' hi kp => ?_
  · rw [List.getElem?_map] at hk
    obtain ⟨z, hz1, rfl⟩ := Option.map_eq_some_iff.mp hk
    obtain ⟨as, h2⟩ : ∃ as, Reads s.heap v z.2 as := by
      have hzi : (zs.map (·.2))[i]? = some z.2 := by rw [List.getElem?_map, hz1]; rfl
      clear hk hz1 kp hl hs hd rv hsz hlen go hz hn
      induction er generalizing i with
      | nil => simp at hi
      | cons a b ih =>
        cases i with
        | zero =>
          have z1 := Option.some.inj hi
          have z2 := Option.some.inj hzi
          rw [← z1, ← z2]
          exact a
        | succ i => exact ih i hi hzi
    obtain ⟨⟨oc, us, t, e1, e2, e3⟩, _, _⟩ := I.hok b _ hb
    have nl : h.NoLimit := I.nolimit.keeps kp
    refine lam_call1 (s := { s with heap := h, toks := tk }) hdp (kp _ _ ho) ⟨b, oc, us, t, rfl, kp _ _ e1, e2, e3⟩ nl L.kind L.co L.gen L.loc L.cel (bd v) fun g tk2 kg hns => ?_
    refine wpAny_mono (ev _ { s with heap := h, toks := tk } g tk2 _ _ _ _ v z.2 as kg hns (Reads.keeps (fun c o e => kg _ _ (kp c o e)) h2) (hz z (List.mem_of_getElem? hz1))) (fun u s2 hu => ?_) fun _ _ h => h
    obtain ⟨h3, tk3, rfl, kp3, r3⟩ := hu
    cases r3
    exact ⟨h3, tk3, _, rfl, kp3, rfl⟩
  · have hb2 : argBest (fun i j => decide ((zs.map fun z => kI z.2).getD i 0 < (zs.map fun z => kI z.2).getD j 0)) (its.length - 1) = bestI zs := by unfold bestI; rw [hlen]
    rw [hb2] at hi
    obtain ⟨z, hz1⟩ : ∃ z, zs[bestI zs]? = some z := by
      have := (List.getElem?_eq_some_iff.mp hi).1
      exact ⟨_, List.getElem?_eq_getElem (by omega)⟩
    refine ⟨z.1, H, I.kept (t' := tk') kp, ?_, go z hz1⟩
    obtain ⟨u, hu, ru⟩ := rv.get (show (zs.map (·.1))[bestI zs]? = some z.1 by rw [List.getElem?_map, hz1]; rfl)
    rw [hi] at hu
    cases hu
    exact ru
end Tl
namespace Tl
open PySem PySem.Spec L2 PyProof.Rows
def tMinK (P : Addr) (q : Str) (t : TA) (K : PySem.W.Frag) : TE := fun σ H Q => t σ H fun vs H1 => ∃ (a : Addr) (zs : List (V × PyData)), vs = [.ref a] ∧ SqL K H1 a (zs.map (·.1)) ∧ DpAll K H1 (zs.map (·.1)) (zs.map (·.2)) ∧ (∀ z ∈ zs, IOk z.2) ∧ 0 < zs.length ∧ LamX.TabS H1 P q ∧
  ∀ H2 : Hp, TabStep H1 P q H2 → ∀ z, zs[bestI zs]? = some z → Q z.1 H2
theorem pe_minK {X : Cx} {e : Expr} {t : TA} {c P : Addr} {q x : Str} {params : Arguments} {body : Expr} {scope : Scope} {p1 p2 kpos pos : Pos} (hdp : X.A.depth < recursionLimit) (hh : X.A.handled = none) (hg : Gl X "min") (hm : X.mg "min" = none) (ha : PA X [e] t)
    (TB : LamX.TabB X.base X.mg c P) (cd : X.env.code = .ref c) (eq : X.env.qual ++ "<lambda>" = q) (df : defaultsOf params X.env = ([], [])) (L : LamN x scope) (ev : KeyI X.prog X.w X.mg body scope x)
    (bd : ∀ pm b ctv v, bindArgs (PySem.W.kla_fn "<lambda>" q params body scope [] pm (.ref b) ctv) ⟨[v], []⟩ = pure [(x, v)])
    (he : backTo pos (starEach [e] X.env) = (false, eval e X.env) :: backTo pos (starEach [] X.env) := by rfl) (hpl : (backTo pos (starEach [e] X.env)).any (·.1) = false := by rfl) :
    PE X (.Call (.Name "min" p1) [e] [⟨some "key", .Lambda params body scope p2, kpos⟩] pos) (tMinK P q t X.K) := by
  refine ⟨fun pins s σ H Q I h => ?_⟩
  refine wpAny_Call_Name_kw (ld_blt I hg hm PyProof.Rows.boot_min ?_)
  refine PyProof.Rows.callWith_kw (thn (ha.run pos pins s σ H _ I h) fun us s1 ⟨vs, H1, I1, r1, q1⟩ => ?_) he hpl rfl rfl
  obtain ⟨a, zs, rfl, h1, h2, h3, hn, h4, h5⟩ := q1
  rw [Vals.ref1 r1]
  show wpAny _ _ (evalAll ((do let v ← eval (.Lambda params body scope p2) X.env; standAt pos; pure v) :: [])) _ _ s1
  refine wpAny_evalAll_cons (wpAny_bind (lam_make3 I1 TB cd eq h4 df (fun y hy z => absurd z (L.fre y hy)) fun f b pm ctv H2 s2 I2 ts ho hf hfr hb => wpAny_bind (wpAny_standAt (wpAny_pure ?_))))
  refine wpAny_evalAll_nil ?_
  rw [cloFrom_nil L.fre] at ho
  exact run_minK hdp hh I2 rfl (ts.sqL h1) (ts.dps _ _ h2) h3 hn L ho hb (bd pm b ctv) ev (h5 H2 ts)
/-- the first of the least -/
def bestD (ds : List PyData) : Nat := argBest (fun i j => decide ((ds.map kI).getD i 0 < (ds.map kI).getD j 0)) (ds.length - 1)
theorem bestD_eq (zs : List (V × PyData)) : bestD (zs.map (·.2)) = bestI zs := by
  unfold bestD bestI
  rw [List.map_map, List.length_map]
  rfl
section
variable {K : PySem.W.Frag} {Wx : WX} {RE : REx}
@[reducible] def fMinK (P : Addr) (q : Str) : FL := fun xs M R => g1 xs fun x => gW M x fun ws => gDs ws fun ds => (M P = some (.tab q)) ∧ ((∀ d ∈ ds, IOk d) ∧ 0 < ds.length ∧ PyData.hasDictAll ds = false) ∧ ∀ d, ds[bestD ds]? = some d → R (.d d) M
theorem se_minK {n : Nat} {P : Addr} {q : Str} {t : TA} {T : TDA} (h : SAn K Wx RE n t T) : SE K Wx RE (tMinK P q t K) (cbT (fMinK P q) T) := fun F H M σ ρ R Q hr hx hs ht k =>
  h F H M σ ρ _ _ hr hx hs ht fun vs H1 F1 M1 xs r1 g1 rxs hl h1 => by
    obtain ⟨x, rfl, h2⟩ := g1_of h1
    obtain ⟨v, rfl, r⟩ := rxs.one
    obtain ⟨a, us, ws, rfl, h3, h4, h5⟩ := gW_of r1 r h2
    obtain ⟨ds, rfl, hp, ⟨h6, h7, h8⟩, h9⟩ := gDs_of h5
    obtain ⟨zs, rfl, rfl, hz⟩ := h4.undat.zip
    refine ⟨a, zs, rfl, SqL.of h3, DxL.dp _ _ (DxL.mono r1.fh _ _ h4.undat) h8, fun z hm => h6 _ (List.mem_map.mpr ⟨z, hm, rfl⟩), by rw [List.length_map] at h7; exact h7, rl_tabS r1 hp, fun H2 ts z hz1 => ?_⟩
    obtain ⟨F2, r2, g2⟩ := rl_tab r1 hp ts
    refine k _ _ _ _ _ r2 (g1.trans g2) (.d (Dx.mono g2.ff _ _ (hz z (List.mem_of_getElem? hz1)))) (h9 z.2 ?_)
    rw [bestD_eq, List.getElem?_map, hz1]
    rfl
end
end Tl
set_option Elab.async false
set_option linter.all false
set_option maxRecDepth 100000
set_option maxHeartbeats 4000000
/-! A def whose own table of code is known; a law with such a def: its first state, its end. -/
namespace Tl
open PySem PySem.Spec L2 PyProof.Rows
/-- as a law begins: the script, locked, and empty tables -/
def withTabs (a : Addr) (u : Option HO) (ts : List Addr) : Hp := fun b => if b ∈ ts then some (.tbl #[]) else if b = a then u else none
theorem end_atT {P : Program} {w : World} {K : PySem.W.Frag} {mg mb : Str → Option Value} {fa a : Addr} {s₁ : Shared} {vs : List Value} {ns : List Int} {cs : List (Addr × Addr)}
    (KX : K.In s₁.heap) (gl : s₁.heap.Ns mainGlobals mg) (hmb : s₁.heap.Ns builtinsNs mb) (hbb : ∀ x : Str, x ≠ "__name__" → mb x = bootBuiltins x) (nl : s₁.heap.NoLimit) (ge : s₁.gens = #[])
    (tb : ∀ p ∈ cs, s₁.heap.get? p.2 = some { cls := .none, data := .fields #[] }) (tn : ∀ p ∈ cs, K.lookup p.2 = none) (tc : ∀ p ∈ cs, PySem.W.CodeHd s₁.heap p.1 p.2)
    (bm : ∃ (m : Addr) (o : Obj), mg "__builtins__" = some (.ref m) ∧ m ≠ builtinsNs ∧ s₁.heap.get? m = some o ∧ o.cls = .type "module" ∧ o.dict = some builtinsNs ∧ o.data = .plain)
    (ha : s₁.heap.get? a = some { cls := .type "list", data := .seq vs.toArray }) (hi : IntsAre vs ns) (hl : ns.length ≤ sizeLine)
    (run : ∀ (base : Heap) (H : Hp), K.In base → base.Ns mainGlobals mg → SqL K H a (ns.map V.int) → (∀ p ∈ cs, H p.2 = some (.tbl #[])) → (∀ p ∈ cs, LamX.TabB base mg p.1 p.2) → Env0 P w K mg base callerA [] s₁ H →
      codeAny (model P w) callerA (.call (.ref fa) ⟨[.ref a], []⟩) (CR CX0 [] P w H s₁ (fun v _ => v = V.bl true) fun _ _ _ => False) s₁) :
    codeAny (model P w) callerA (.call (.ref fa) ⟨[.ref a], []⟩) (fun r s2 => r = .ok (.ret (.bool true)) ∧ OldK s₁.heap s2.heap ∧ s2.os = s₁.os ∧ AllBare s2.gens) s₁ := by
  have rv := vals_ints hi
  have lv := hi.length
  have memT : ∀ p ∈ cs, p.2 ∈ cs.map (·.2) := fun p hp => List.mem_map.mpr ⟨p, hp, rfl⟩
  have isT : ∀ b ∈ cs.map (·.2), s₁.heap.get? b = some { cls := .none, data := .fields #[] } ∧ K.lookup b = none := fun b hb => by
    obtain ⟨p, hp, rfl⟩ := List.mem_map.mp hb
    exact ⟨tb p hp, tn p hp⟩
  have na : a ∉ cs.map (·.2) := fun z => by
    have q := (isT a z).1
    rw [ha] at q
    have : Data.seq vs.toArray 0 = Data.fields #[] := congrArg Obj.data (Option.some.inj q)
    cases this
  have go : ∀ u : Option HO, (∀ o, u = some o → o = .frz { cls := .type "list", data := .seq vs.toArray } (.lst (ns.map V.int)) ∧ K.lookup a = none) → SqL K (withTabs a u (cs.map (·.2))) a (ns.map V.int) →
      codeAny (model P w) callerA (.call (.ref fa) ⟨[.ref a], []⟩) (fun r s2 => r = .ok (.ret (.bool true)) ∧ OldK s₁.heap s2.heap ∧ s2.os = s₁.os ∧ AllBare s2.gens) s₁ := by
    intro u hu hS
    generalize eH : withTabs a u (cs.map (·.2)) = H at hS
    have kinds : ∀ b o, H b = some o → (b ∈ cs.map (·.2) ∧ o = .tbl #[]) ∨ (b = a ∧ u = some o) := fun b o h => by
      rw [← eH] at h
      unfold withTabs at h
      split at h
      · rename_i m; cases h; exact .inl ⟨m, rfl⟩
      · split at h
        · rename_i m; exact .inr ⟨m, h⟩
        · cases h
    have tabH : ∀ p ∈ cs, H p.2 = some (.tbl #[]) := fun p hp => by
      rw [← eH]
      exact if_pos (memT p hp)
    have free : ∀ {b : Addr} {o : Obj}, s₁.heap.get? b = some o → (∀ x n, o.data ≠ .seq x n) → o.data ≠ .fields #[] → H b = none := fun {b o} h n1 n2 => by
      cases z : H b with
      | none => rfl
      | some y =>
        rcases kinds b y z with ⟨m, _⟩ | ⟨rfl, _⟩
        · rw [(isT b m).1] at h
          cases h
          exact absurd rfl n2
        · rw [ha] at h
          cases h
          exact absurd rfl (n1 _ _)
    have lo : ∀ {b : Addr} {o : Obj}, s₁.heap.get? b = some o → H b = none → (hidT s₁.heap H).get? b = some o := fun q n => hidT_get q n
    have nsK : ∀ {b : Addr} {m : Str → Option Value}, s₁.heap.Ns b m → (hidT s₁.heap H).Ns b m := fun {b m} ⟨o, es, ep, q, d, r⟩ =>
      ⟨o, es, ep, lo q (free q (fun x n z => by rw [d] at z; cases z) (fun z => by rw [d] at z; cases z)), d, r⟩
    have kb : K.In (hidT s₁.heap H) := fun b o q => lo (KX b o q) (by
      cases z : H b with
      | none => rfl
      | some y =>
        rcases kinds b y z with ⟨m, _⟩ | ⟨rfl, h⟩
        · rw [(isT b m).2] at q; cases q
        · rw [(hu y h).2] at q; cases q)
    have hM : Mod K mg (hidT s₁.heap H) := ⟨kb, nsK gl, ⟨mb, nsK hmb, hbb⟩, by
      obtain ⟨mc, l1, l2⟩ := nl
      exact ⟨mc, nsK l1, l2⟩⟩
    have hok : HOk P w H s₁.heap := fun b o h => by
      rcases kinds b o h with ⟨m, rfl⟩ | ⟨rfl, h2⟩
      · exact (isT b m).1
      · rw [(hu o h2).1]
        exact ⟨ha, by rw [List.length_map]; exact hl, vs, _, rv, ha⟩
    have TB : ∀ p ∈ cs, LamX.TabB (hidT s₁.heap H) mg p.1 p.2 := fun p hp => by
      have ht := tb p hp
      refine ⟨?_, ?_, fun z => ?_⟩
      · obtain ⟨o, us, x1, x2, x3, x4, x5, x6, x7, e1, r1, r2, r3, r4⟩ := tc p hp
        exact ⟨o, us, x1, x2, x3, x4, x5, x6, x7, lo e1 (free e1 (fun x n z => by rw [r2] at z; cases z) (fun z => by rw [r2] at z; cases z; simp at r3)), r1, r2, r3, r4⟩
      · obtain ⟨m, o, b1, b2, b3, b4, b5, b6⟩ := bm
        refine ⟨m, o, b1, b2, fun q => ?_, fun q => ?_, lo b3 (free b3 (fun x n z => by rw [b6] at z; cases z) (fun z => by rw [b6] at z; cases z)), b4, b5, b6⟩
        · obtain ⟨o2, es, ep, e, hd, _⟩ := gl
          rw [q, e] at b3
          cases b3
          rw [hd] at b6
          cases b6
        · rw [q, ht] at b3
          cases b3
          cases b6
      · obtain ⟨o2, es, ep, e, hd, _⟩ := gl
        rw [z, ht] at e
        cases e
        cases hd
    have e0 : Env0 P w K mg (hidT s₁.heap H) callerA [] s₁ H :=
      ⟨rfl, hM, fun b o q => of_hidT q, Nat.le_of_eq (hidT_size _ _), trivial, fun b hb => absurd (show b ∈ ([] : List Addr) from hb) (by simp), hok, .of_eq ge⟩
    refine codeAny_mono (run _ H kb (nsK gl) hS tabH TB e0) fun r s2 h => ?_
    cases r with
    | error e => exact h.elim
    | ok fl =>
      cases fl with
      | next => exact h.elim
      | brk => exact h.elim
      | cont => exact h.elim
      | ret y =>
        obtain ⟨v, H2, os, bare, un, hok2, ry, q⟩ := h
        obtain rfl : v = .bl true := q
        obtain rfl : y = Value.bool true := ry
        have tabs2 : ∀ p ∈ cs, ∃ more : Array Value, s2.heap.get? p.2 = some { cls := .none, data := .fields more } := fun p hp => by
          obtain ⟨more, z⟩ := un.tbls p.2 #[] (tabH p hp)
          exact ⟨_, hok2 p.2 _ z⟩
        have old : ∀ b o, b ∉ cs.map (·.2) → s₁.heap.get? b = some o → s2.heap.get? b = some o := fun b o nb e => by
          cases z : H b with
          | none => exact un.keep b o e z (fun y => absurd (show b ∈ ([] : List Addr) from y) (by simp)) (by simp)
          | some y =>
            rcases kinds b y z with ⟨m, _⟩ | ⟨rfl, h2⟩
            · exact absurd m nb
            · rw [(hu y h2).1] at z
              have z2 := un.frzs b _ _ z
              have k1 := (hok b _ z).1
              have k2 := (hok2 b _ z2).1
              rw [e] at k1
              cases k1
              exact k2
        refine ⟨rfl, ⟨fun b o e => ?_, fun b o e => ?_⟩, os, bare⟩
        · by_cases m : b ∈ cs.map (·.2)
          · obtain ⟨p, hp, rfl⟩ := List.mem_map.mp m
            obtain ⟨more, h3⟩ := tabs2 p hp
            rw [tb p hp] at e
            cases e
            exact .inr (.inl ⟨((tc p hp).tab (tb p hp)).isCodeTable, rfl, #[], more, rfl, by simpa using h3⟩)
          · exact .inl (old b o m e)
        · by_cases m : b ∈ cs.map (·.2)
          · obtain ⟨p, hp, rfl⟩ := List.mem_map.mp m
            obtain ⟨more, h3⟩ := tabs2 p hp
            exact ⟨_, h3⟩
          · exact ⟨o, old b o m e⟩
  cases hk : K.lookup a with
  | some o =>
    have e := KX a o hk
    rw [ha] at e
    cases e
    exact go none (fun o h => by cases h) (.inr ⟨_, vs.toArray, _, hk, rfl, rfl, rfl, by rw [List.size_toArray, lv]; exact hl, by simpa using rv⟩)
  | none => exact go (some (.frz { cls := .type "list", data := .seq vs.toArray } (.lst (ns.map V.int)))) (fun o h => ⟨(Option.some.inj h).symm, hk⟩) (.inl (.inr ⟨_, by unfold withTabs; rw [if_neg na, if_pos rfl]⟩))
/-- defs of the law whose tables are known -/
def TabsK (q : Program) (K : Params → PySem.W.Frag) : List (Str × Addr × Addr) → Prop
  | [] => True
  | t :: r => ((∃ d, (PyProof.Rows.recsOf q).find? (fun e => e.name == t.1) = some d) ∧ ∀ w : World, PySem.W.tabIn (K w.params) t.1 = some t.2 ∧ (K w.params).lookup t.2.2 = none) ∧ TabsK q K r
theorem TabsK.mem {q : Program} {K : Params → PySem.W.Frag} : ∀ {ts : List (Str × Addr × Addr)}, TabsK q K ts → ∀ t ∈ ts, (∃ d, (PyProof.Rows.recsOf q).find? (fun e => e.name == t.1) = some d) ∧ ∀ w : World, PySem.W.tabIn (K w.params) t.1 = some t.2 ∧ (K w.params).lookup t.2.2 = none
  | _ :: _, h, t, m => by
    rcases List.mem_cons.mp m with e | m
    · rw [e]; exact h.1
    · exact TabsK.mem h.2 t m
theorem walk_at_topT {l : PySem.W.OpenLaw} {n : Nat} {q : Program} {loose : List Str} {XP : (Str → Option Value) → Heap → Prop} {YP : World → Heap → Prop} {d : DefRec} {K : Params → PySem.W.Frag} {ts : List (Str × Addr × Addr)}
    (hn : l.most = some n) (hn2 : n ≤ sizeLine) (hdf : d.params.defaults = []) (hY : ∀ (w : World) (h : Heap), YP w h → (K w.params).In h) (ht : TabsK q K ts)
    (F : ∀ (w : World) (mg : Str → Option Value) (fa : Addr) (h : Heap), (K w.params).In h → h.Ns mainGlobals mg → mg d.name = some (.ref fa) →
      ∀ (s₁ : Shared) (base : Heap) (H : Hp) (a : Addr) (ns : List Int), ns.length ≤ n → (K w.params).In base → base.Ns mainGlobals mg → SqL (K w.params) H a (ns.map V.int) → (∀ t ∈ ts, H t.2.2 = some (.tbl #[])) → (∀ t ∈ ts, LamX.TabB base mg t.2.1 t.2.2) → (∀ t ∈ ts, PySem.W.tabIn (K w.params) t.1 = some t.2) → Env0 l.prog w (K w.params) mg base callerA [] s₁ H →
        codeAny (model l.prog w) callerA (.call (.ref fa) ⟨[.ref a], []⟩) (CR CX0 [] l.prog w H s₁ (fun v _ => v = V.bl true) fun _ _ _ => False) s₁) :
    PySem.W.WalkO q loose XP YP l.row.toRowW d [] (fun f vs => PySem.call f vs) := by
  refine Att.attach_call hn hdf fun w s₀ s₁ mg mb fa o pm cd doc a vs ns G Y ho hd hcd hmg hobj hints hlen hg => ?_
  have KX := hY w _ Y
  have tt : ∀ t ∈ ts, PySem.W.CodeHd s₁.heap t.2.1 t.2.2 ∧ s₁.heap.get? t.2.2 = some (PySem.W.tabObj #[]) := fun t m => by
    obtain ⟨⟨d2, h1⟩, h2⟩ := ht.mem t m
    exact PySem.W.tab_of G.T KX h1 (h2 w).1
  have mm : ∀ {A : (Addr × Addr) → Prop}, (∀ t ∈ ts, A t.2) → ∀ p ∈ ts.map (·.2), A p := fun h p hp => by
    obtain ⟨t, m, rfl⟩ := List.mem_map.mp hp
    exact h t m
  exact end_atT (cs := ts.map (·.2)) KX G.T.g G.T.b G.T.builtins G.T.nolimit hg (mm fun t m => (tt t m).2) (mm fun t m => ((ht.mem t m).2 w).2) (mm fun t m => (tt t m).1) G.T.bmain hobj hints (Nat.le_trans hlen hn2)
    fun base H h1 h2 h3 h4 h5 h6 => F w mg fa _ KX G.T.g hmg s₁ base H a ns hlen h1 h2 h3 (fun t m => h4 t.2 (List.mem_map.mpr ⟨t, m, rfl⟩)) (fun t m => h5 t.2 (List.mem_map.mpr ⟨t, m, rfl⟩)) (fun t m => ((ht.mem t m).2 w).1) h6
theorem tabIn_mk {K : PySem.W.Frag} {x : Str} {f c P : Addr} {v1 v2 : Value} {o1 o2 : Option Addr} {s1 s2 : Array (Option Value)} {fd : FuncData} {vs : Array Value} (h1 : PySem.W.nsIn K mainGlobals x = some (some (.ref f))) (h2 : K.lookup f = some ⟨v1, o1, .func fd, s1⟩) (h3 : fd.code = .ref c) (h4 : K.lookup c = some ⟨v2, o2, .fields vs, s2⟩) (h5 : vs[11]? = some (.ref P)) : PySem.W.tabIn K x = some (c, P) := by
  unfold PySem.W.tabIn
  rw [h1]
  dsimp only
  rw [h2]
  dsimp only
  rw [h3]
  dsimp only
  rw [h4]
  dsimp only
  rw [h5]
/-- the code object of a def whose table is known -/
theorem code_of {K : PySem.W.Frag} {h : Heap} {mg : Str → Option Value} {x qual : Str} {st : Stmt} {f c P : Addr} {fd : FuncData} (X : K.In h) (G : h.Ns mainGlobals mg) (F : Fun K x qual st f fd) (hm : mg x = some (.ref f)) (ht : PySem.W.tabIn K x = some (c, P)) : fd.code = .ref c := by
  obtain ⟨oc, od, kV, doc, pm, an, cdv, ct, osl, rfl, lk, hcd⟩ := F.ex
  exact PySem.W.law_code X G ht hm (X _ _ lk) rfl
section
variable {P : Program} {w : World} {K : PySem.W.Frag} {mg : Str → Option Value} {base : Heap}
theorem tab0 {F : Hp} (q : Str) : TabO F (.tbl #[]) q := ⟨#[], rfl, True.intro, fun z x h => by
  have h2 : codeAmong z [] = some x := h
  simp [codeAmong] at h2⟩
end
end Tl
set_option Elab.async false
set_option linter.all false
set_option maxRecDepth 100000
set_option maxHeartbeats 4000000
/-! A lambda as a value, put away and called later, by a def that is handed it. -/
namespace Tl
open PySem PySem.Spec L2 PyProof.Rows
/-- the code object at b: found in the table, or made and put there -/
def TabAt (H : Hp) (P : Addr) (q : Str) (b : Addr) (H1 : Hp) : Prop := (H1 = H ∧ ∃ (ps : Array Value) (z : Pos), H P = some (.tbl ps) ∧ codeAmong z ps.toList = some (.ref b)) ∨ ∃ (ps more : Array Value), H P = some (.tbl ps) ∧ H b = none ∧ TriplesOk (ps ++ more).toList ∧
  (∀ (z : Pos) (x : Value), codeAmong z (ps ++ more).toList = some x → codeAmong z ps.toList = some x ∨ x = .ref b) ∧ H1 = upd (upd H P (.tbl (ps ++ more))) b (LamX.CodeO b q)
theorem TabAt.step {H H1 : Hp} {P b : Addr} {q : Str} (t : TabAt H P q b H1) : TabStep H P q H1 := by
  rcases t with ⟨h, _⟩ | ⟨ps, more, h1, h2, h3, h4, h5⟩
  · exact .inl h
  · exact .inr ⟨ps, more, b, h1, h2, h3, h4, h5⟩
/-! ### called -/
/-- what a lambda promises -/
structure LmOk (P : Program) (w : World) (K : PySem.W.Frag) (mg : Str → Option Value) (base : Heap) (CX : CXT) (k : Nat) (q : Str) (pa : Arguments) (bo : Expr) (sc : Scope) (n : Nat) (sp : Sp) : Prop where
  len : ∀ vs H Q E, sp vs H Q E → vs.length = n
  run : ∀ (A : Around) (outer : List Env) (s : Shared) (H : Hp) (us : List Value) (vs : List V) (Q : VK) (E : XK) (f b : Addr) (pm ctv : Value), Room k A → Env0 P w K mg base A outer s H → s.heap.get? f = some (PySem.W.kla_obj "<lambda>" q pa bo sc [] pm b ctv) → s.heap.CodeRec (.ref b) q → Vals vs us → sp vs H Q E →
    codeAny (model P w) A (.call (.ref f) ⟨us, []⟩) (CR CX outer P w H s Q E) s
theorem LmOk.mono {P : Program} {w : World} {K : PySem.W.Frag} {mg : Str → Option Value} {base : Heap} {CX : CXT} {j k : Nat} {q : Str} {pa : Arguments} {bo : Expr} {sc : Scope} {n : Nat} {sp : Sp} (F : LmOk P w K mg base CX j q pa bo sc n sp) (h : j ≤ k) : LmOk P w K mg base CX k q pa bo sc n sp :=
  ⟨F.len, fun A outer s H us vs Q E f b pm ctv hr => F.run A outer s H us vs Q E f b pm ctv (hr.mono h)⟩
/-! ### a lambda's body keeps its promise -/
section
variable {P : Program} {w : World} {K : PySem.W.Frag} {mg : Str → Option Value} {base : Heap}
/-- okDC, what nobody looks at any more left out -/
theorem okDCL {f c : Addr} {fd : FuncData} {k n : Nat} {x qual : Str} {st : Stmt} {N ps : List Str} {tf : TF} (F : Fun K x qual st f fd) (S : FnScope N ps (defScope st)) (hp : ps.length = n) (hc : fd.code = .ref c)
    (hb : ∀ (A : Around) (outer : List Env) (s : Shared) (H : Hp) (E : XK), Room k (A.deeper (PyProof.Rows.envOfC qual (defScope st) s.heap.objs.size f (.ref c))) →
      ∃ (t : TS) (T : TDS), PSs (cxOf CX0 P w K mg base N qual (defScope st) f (.ref c) A outer s H E).nox (defBody st) t ∧ SSt K (fun _ _ _ _ => False) (fun _ _ _ => False) t T ∧
        ∀ ws M R RX, ws.length = n → tf ws M R RX → T (endD (lax R)) (start0 N.length ws) M) : FnOk P w K mg base CX0 (k + 1) f fd ps (spD K n tf) := by
  obtain ⟨oc, od, kV, doc, pm, an, cdv, ct, osl, rfl, lk, hcd⟩ := F.ex
  obtain rfl : cdv = .ref c := hc
  refine fn_of lk hcd S (fun vs H Q E h => ?_) fun A outer s H vs Q E hr h => ?_
  · obtain ⟨F0, M, ws, R, RX, r, rs, hl, _⟩ := h
    rw [rs.len, hl, hp]
  · obtain ⟨F0, M, ws, R, RX, r, rs, hl, hf, hk, _⟩ := h
    obtain ⟨t, T, h1, h2, h3⟩ := hb A outer s H E hr
    exact ⟨t, h1.nox, h2 F0 H M _ _ _ _ r (fun F' H' M' σ ρ cls d x _ _ _ _ z => z) (rel_start rs) (h3 ws M R RX hl hf) (ek_def (kt_lax hk))⟩
end
end Tl
set_option Elab.async false
set_option linter.all false
set_option maxRecDepth 100000
set_option maxHeartbeats 8000000
namespace Tl
open PySem L2 RZ
local macro_rules
  | `(tactic| decreasing_trivial) => `(tactic| ((with_reducible (conv => whnf)); (repeat ((first | (with_reducible refine gDs_c ?_) | (with_reducible refine gDs_n ?_) | (with_reducible refine gNs_c ?_) | (with_reducible refine gNs_n ?_) | (with_reducible refine gO_i tyAny_lt ?_) | (with_reducible refine gIs_c ?_) | (with_reducible refine gIs_n ?_) | (with_reducible refine gBs_c ?_) | (with_reducible refine gBs_n ?_) | (with_reducible refine gSs_c ?_) | (with_reducible refine gSs_n ?_) | (with_reducible refine gO_i tyIs_int ?_) | (with_reducible refine gO_i tyIs_bool ?_) | (with_reducible refine gO_i tyIs_str ?_) | (with_reducible refine gO_i tyIs_tuple ?_) | (with_reducible refine gO_i tyIs_list ?_) | (with_reducible refine gDs_i ?_) | (with_reducible refine gO_i (Eq.refl _) ?_) | (with_reducible refine gO_i (by assumption) ?_) | (with_reducible refine gO_i at_0 ?_) | (with_reducible refine gO_i at_m0 ?_) | (with_reducible refine gO_i at_1 ?_) | (with_reducible refine gO_i at_m1 ?_) | (with_reducible refine gO_i at_2 ?_) | (with_reducible refine gO_i at_m2 ?_) | (with_reducible refine gO_i at_3 ?_) | (with_reducible refine gO_i at_m3 ?_) | (with_reducible refine gO_i at_4 ?_) | (with_reducible refine gO_i at_m4 ?_) | (with_reducible refine gO_i at_5 ?_) | (with_reducible refine gO_i at_m5 ?_) | (with_reducible refine gO_i at_6 ?_) | (with_reducible refine gO_i at_m6 ?_) | (with_reducible refine gO_i at_7 ?_) | (with_reducible refine gO_i at_m7 ?_) | (with_reducible refine IfB.ngf ?_) | (with_reducible refine IfB.ngt ?_) | (with_reducible refine IfB.not ?_) | (with_reducible refine IfB.nil ?_) | (with_reducible refine IfB.nilT ?_) | (with_reducible refine IfB.f isE_c ?_) | (with_reducible refine IfB.t isE_n ?_) | (with_reducible refine IfB.t ?gha ?_; (case gha => rfl)) | (with_reducible refine IfB.f ?gha ?_; (case gha => rfl)) | (with_reducible refine IfB.t ?gha ?_; (case gha => assumption)) | (with_reducible refine IfB.f ?gha ?_; (case gha => assumption)) | (with_reducible refine IfB.yes (Eq.refl _) ?_) | (with_reducible refine IfB.yes ?gha ?_; (case gha => (first | omega | (simp only [len_c, len_n, List.length_map]; omega)))) | (with_reducible refine IfB.no ?gha ?_; (case gha => (first | omega | (simp only [len_c, len_n, List.length_map]; omega)))) | (with_reducible refine IfB.t ?gha ?_; (case gha => decide +kernel)) | (with_reducible refine IfB.f ?gha ?_; (case gha => decide +kernel))); (with_reducible (conv => whnf))))))
local macro_rules
  | `(tactic| decreasing_trivial_pre_omega) => `(tactic| (decreasing_trivial; (repeat ((first | ((with_reducible refine And.intro ?gha ?_); (case gha => (first | assumption | omega | exact rfl | (exact mset_same) | (exact ⟨_, mset_same⟩) | (exact Exists.intro _ (by first | exact mset_same | assumption | (rw [mset_ne (by assumption)]; first | exact mset_same | assumption))) | (exact sm_of (by omega) (by omega)) | (exact sz1000 (by first | omega | (simp; done) | (simp; omega))) | (exact Or.inl ⟨by decide, by decide⟩) | decide | (simp; done) | (refine ⟨?_, ?_⟩ <;> (first | assumption | omega | exact rfl | (exact mset_same) | (exact ⟨_, mset_same⟩) | (exact Exists.intro _ (by first | exact mset_same | assumption | (rw [mset_ne (by assumption)]; first | exact mset_same | assumption))) | (exact sm_of (by omega) (by omega)) | (exact sz1000 (by first | omega | (simp; done) | (simp; omega))) | (exact Or.inl ⟨by decide, by decide⟩) | decide | (simp; done))) | (refine ⟨?_, ?_, ?_⟩ <;> (first | assumption | omega | exact rfl | (exact mset_same) | (exact ⟨_, mset_same⟩) | (exact Exists.intro _ (by first | exact mset_same | assumption | (rw [mset_ne (by assumption)]; first | exact mset_same | assumption))) | (exact sm_of (by omega) (by omega)) | (exact sz1000 (by first | omega | (simp; done) | (simp; omega))) | (exact Or.inl ⟨by decide, by decide⟩) | decide | (simp; done))) | (refine ⟨?_, ?_, ?_, ?_⟩ <;> (first | assumption | omega | exact rfl | (exact mset_same) | (exact ⟨_, mset_same⟩) | (exact Exists.intro _ (by first | exact mset_same | assumption | (rw [mset_ne (by assumption)]; first | exact mset_same | assumption))) | (exact sm_of (by omega) (by omega)) | (exact sz1000 (by first | omega | (simp; done) | (simp; omega))) | (exact Or.inl ⟨by decide, by decide⟩) | decide | (simp; done)))))) | (with_reducible refine exW (by first | exact mset_same | assumption | (rw [mset_ne (by assumption)]; first | exact mset_same | assumption)) ?_)); decreasing_trivial))))
def cpD (x : CP) : PyData := .tuple [.int x.1, .list (x.2.map pairD)]
def qLin : Str := "lined_up" ++ ".<locals>." ++ "<lambda>"
@[reducible] def tfWith : TF := fun ws M R _ => ∃ (x : CP) (k : PyData), ws = [.d (cpD x), .d k] ∧ (TrT 12 k ∧ nn k ≤ 60) ∧ R (.d (cpD (withC x k))) M
@[reducible] def tfLined (tp : Addr) (n : Nat) : TF := fun ws M R _ => ∃ (ks ls : List PyData) (p q : List Nat) (m : Nat), ws = [.d (.tuple ks), .d (.tuple ls), .d (pathD p), .d (pathD q)] ∧ ((∀ k ∈ ks, TrT n k) ∧ (∀ l ∈ ls, TrT m l) ∧ n ≤ 12 ∧ m ≤ 12 ∧ nnAll ks ≤ 60 ∧ nnAll ls ≤ 60 ∧ p.length + n < 50 ∧ q.length + m < 50 ∧ M tp = some (.tab qLin)) ∧ R (.d (cpD (cE (prE n) ks ls p q ks.length ls.length))) M
@[reducible] def tfPaired (tp : Addr) (n : Nat) : TF := fun ws M R _ => ∃ (t u : PyData) (p q : List Nat) (m : Nat), ws = [.d t, .d u, .d (pathD p), .d (pathD q)] ∧ (TrT n t ∧ TrT m u ∧ n ≤ 12 ∧ m ≤ 12 ∧ nn t ≤ 60 ∧ nn u ≤ 60 ∧ p.length + n ≤ 50 ∧ q.length + m ≤ 50 ∧ M tp = some (.tab qLin)) ∧ R (.d (cpD (prE n t u p q))) M
theorem tf_mono {ks ls : List PyData} {i j : Nat} {ps : List PPr} (h : TF2 ks ls i j ps) (hi : i ≤ ks.length) (hj : j ≤ ls.length) : TF2 ks ls ks.length ls.length ps :=
  ⟨fun x hx => by obtain ⟨a, b, c, d, e, f⟩ := h.a1 x hx; exact ⟨a, b, c, d, by omega, f⟩, fun x hx => by obtain ⟨a, b, c, d, e, f⟩ := h.a2 x hx; exact ⟨a, b, c, d, by omega, f⟩, h.fit, h.top⟩
theorem cE_len {n m : Nat} {ks ls : List PyData} (hk : ∀ k ∈ ks, TrT n k) (hl : ∀ l ∈ ls, TrT m l) (p q : List Nat) {i j : Nat} (hi : i ≤ ks.length) (hj : j ≤ ls.length) : (cE (prE n) ks ls p q i j).2.length ≤ nnAll ks := by
  obtain ⟨_, ps, h2, _, h4⟩ := cE_ok (f := prE n) (g := tD n) (ks := ks) (ls := ls) (fun k hk1 l hl1 p q => prE_ok n k l m (hk k hk1) (hl l hl1) p q) p q i j hi hj
  have tk : TrT (n + 1) (.tuple [.str "a", .tuple ks]) := ⟨"a", ks, rfl, by decide +kernel, hk⟩
  have tl : TrT (m + 1) (.tuple [.str "a", .tuple ls]) := ⟨"a", ls, rfl, by decide +kernel, hl⟩
  obtain ⟨g1, _⟩ := tr_of_tf tk tl (tf_mono h2 hi hj)
  have hm := (tr_mat g1).1.len
  rw [(srtPP_perm _).length_eq, plc_len tk, List.length_cons, nn] at hm
  rw [h4, List.length_map]
  omega
section
variable {P : Program} {w : World} {K : PySem.W.Frag} {mg : Str → Option Value} {base : Heap}
abbrev sWith : Stmt := top 52
theorem scWith : FnScope ["choice", "part"] ["choice", "part"] (defScope sWith) := ⟨rfl, rfl, rfl, by decide +kernel, rfl, by decide +kernel, by decide +kernel⟩
theorem ok_with {f : Addr} {fd : FuncData} {k j : Nat} (F : Fun K "with_cost" "with_cost" sWith f fd) (Ucount_places : Use P w K mg base "count_places" ["tree"] j (spD K 1 (tfN nn 12))) (hj : j ≤ k) (T : Bl mg) : FnOk P w K mg base CX0 (k + 1) f fd ["choice", "part"] (spD K 2 tfWith) := by
  refine okD F scWith rfl fun cdv A outer s H E hr => ?_
  refine ⟨_, _, (pss_one (ps_ret (pe_tup (pa_cons (pe_op op_add (pe_ix ix_tup (pv 0) pe_int (fun _ _ => rfl)) (pe_call Ucount_places.ok (hr.mono (by omega)) rfl Ucount_places.m Ucount_places.kp Ucount_places.b .nil pass0 (pa_cons (pv 1) pa_nil))) (pa_cons (pe_ix ix_tup (pv 0) pe_int (fun _ _ => rfl)) pa_nil))))),
    (ss_ret (se_tup (sa_cons (se_op so_add (se_op so_ixT se_nm se_int) (se_call (sa_cons se_nm sa_nil))) (sa_cons (se_op so_ixT se_nm se_int) sa_nil)))), fun ws M R RX hl h => ?_⟩
  obtain ⟨x, k, rfl, ⟨hk, hn⟩, h2⟩ := h
  unfold cpD
  have hn2 : nn k ≤ 200 := by omega
  simp only [start0, len_c, len_n, map_c, map_n, app_c, app_n, rep_0, rep_s, Nat.reduceAdd, Nat.reduceSub]
  decreasing_trivial_pre_omega
  exact h2
abbrev sPaired : Stmt := top 50
theorem scPaired : FnScope ["part", "like", "path", "place", "cost", "pairs"] ["part", "like", "path", "place"] (defScope sPaired) := ⟨rfl, rfl, rfl, by decide +kernel, rfl, by decide +kernel, by decide +kernel⟩
theorem ok_paired1 {f tp : Addr} {fd : FuncData} {n j : Nat} (F : Fun K "paired" "paired" sPaired f fd) (Ulined_up : Use P w K mg base "lined_up" ["kids", "likes", "path", "place"] j (spD K 4 (tfLined tp n))) (T : Bl mg) : FnOk P w K mg base CX0 (j + 1) f fd ["part", "like", "path", "place"] (spD K 4 (tfPaired tp (n + 1))) := by
  refine okD F scPaired rfl fun cdv A outer s H E hr => ?_
  refine ⟨_, _, (pss_cons (ps_asg (pe_call Ulined_up.ok (hr.mono (by omega)) rfl Ulined_up.m Ulined_up.kp Ulined_up.b .nil pass0 (pa_cons (pe_ix ix_tup (pv 0) pe_int (fun _ _ => rfl)) (pa_cons (pe_ix ix_tup (pv 1) pe_int (fun _ _ => rfl)) (pa_cons (pv 2) (pa_cons (pv 3) pa_nil))))) (pg_tup rfl (pgs_cons (pg_name (i := 4) scPaired.nd rfl (.inl rfl)) (pgs_cons (pg_name (i := 5) scPaired.nd rfl (.inl rfl)) pgs_nil))))
    (pss_cons (ps_if (pt_cmpR op_ne (pe_ix ix_tup (pv 0) pe_int (fun _ _ => rfl)) (pe_ix ix_tup (pv 1) pe_int (fun _ _ => rfl)) (nomark _)) (pss_one (ps_aug (i := 4) scPaired.nd rfl (.inl rfl) pe_int ip_add)) pss_nil)
    (pss_one (ps_ret (pe_tup (pa_cons (pv 4) (pa_cons (pe_op op_cat (pe_lst (pa_cons (pe_tup (pa_cons (pv 2) (pa_cons (pv 3) pa_nil))) pa_nil)) (pv 5)) pa_nil))))))),
    (ss_cons (ss_unp sg_tup2 (se_call (sa_cons (se_op so_ixT se_nm se_int) (sa_cons (se_op so_ixT se_nm se_int) (sa_cons se_nm (sa_cons se_nm sa_nil))))))
    (ss_cut (ss_if (st_test (se_op so_neS (se_op so_ixT se_nm se_int) (se_op so_ixT se_nm se_int))) (ss_augI se_int) ss_nil)
    (ss_ret (se_tup (sa_cons se_nm (sa_cons (se_op so_catF (se_lsf (sa_cons (se_tup (sa_cons se_nm (sa_cons se_nm sa_nil))) sa_nil)) se_nm) sa_nil)))))), fun ws M R RX hl h => ?_⟩
  obtain ⟨t, u, p, q, m, rfl, ⟨ht, hu, hn, hm, nt, nu, lp, lq, hT⟩, h2⟩ := h
  have ht0 := ht
  obtain ⟨s1, ks, rfl, _, hk⟩ := ht
  cases m with
  | zero => exact hu.elim
  | succ m =>
    obtain ⟨s2, ls, rfl, _, hl⟩ := hu
    rw [nn] at nt nu
    simp only [start0, len_c, len_n, map_c, map_n, app_c, app_n, rep_0, rep_s, Nat.reduceAdd, Nat.reduceSub]
    decreasing_trivial_pre_omega
    refine ⟨ks, ls, p, q, m, rfl, ⟨hk, hl, by omega, by omega, by omega, by omega, by omega, by omega, hT⟩, ?_⟩
    have cl := cE_len hk hl p q (Nat.le_refl ks.length) (Nat.le_refl ls.length)
    have h2 : R (.d (cpD ((cE (prE n) ks ls p q ks.length ls.length).1 + (if s1 = s2 then 0 else 1), (p, q) :: (cE (prE n) ks ls p q ks.length ls.length).2))) M := h2
    generalize cE (prE n) ks ls p q ks.length ls.length = x at cl h2 ⊢
    unfold cpD at h2 ⊢
    decreasing_trivial_pre_omega
    refine seq_cut (fun ρ' M' => M = M' ∧ ρ' = [some (W.d (PyData.tuple [PyData.str s1, PyData.tuple ks])), some (W.d (PyData.tuple [PyData.str s2, PyData.tuple ls])), some (W.d (pathD p)), some (W.d (pathD q)), some (W.d (.int (x.1 + if s1 = s2 then 0 else 1))), some (W.d (.list (x.2.map pairD)))]) (fun N hN => ?_) (fun ρ' M' c => ?_)
    · decreasing_trivial_pre_omega
      refine IfB.n (fun c => ?_) (fun c => ?_)
      · rw [if_neg c] at hN
        decreasing_trivial_pre_omega
        exact hN _ _ ⟨rfl, rfl⟩
      · rw [if_pos c, Int.add_zero] at hN
        decreasing_trivial_pre_omega
        exact hN _ _ ⟨rfl, rfl⟩
    · obtain ⟨rfl, rfl⟩ := c
      have hsz := sizeLine_eq
      decreasing_trivial_pre_omega
      exact h2
end
end Tl
set_option Elab.async false
set_option linter.all false
set_option maxRecDepth 100000
set_option maxHeartbeats 8000000
namespace Tl
open PySem L2 RZ
local macro_rules
  | `(tactic| decreasing_trivial) => `(tactic| ((with_reducible (conv => whnf)); (repeat ((first | (with_reducible refine gDs_c ?_) | (with_reducible refine gDs_n ?_) | (with_reducible refine gNs_c ?_) | (with_reducible refine gNs_n ?_) | (with_reducible refine gO_i tyAny_lt ?_) | (with_reducible refine gIs_c ?_) | (with_reducible refine gIs_n ?_) | (with_reducible refine gBs_c ?_) | (with_reducible refine gBs_n ?_) | (with_reducible refine gSs_c ?_) | (with_reducible refine gSs_n ?_) | (with_reducible refine gO_i tyIs_int ?_) | (with_reducible refine gO_i tyIs_bool ?_) | (with_reducible refine gO_i tyIs_str ?_) | (with_reducible refine gO_i tyIs_tuple ?_) | (with_reducible refine gO_i tyIs_list ?_) | (with_reducible refine gDs_i ?_) | (with_reducible refine gO_i (Eq.refl _) ?_) | (with_reducible refine gO_i (by assumption) ?_) | (with_reducible refine gO_i at_0 ?_) | (with_reducible refine gO_i at_m0 ?_) | (with_reducible refine gO_i at_1 ?_) | (with_reducible refine gO_i at_m1 ?_) | (with_reducible refine gO_i at_2 ?_) | (with_reducible refine gO_i at_m2 ?_) | (with_reducible refine gO_i at_3 ?_) | (with_reducible refine gO_i at_m3 ?_) | (with_reducible refine gO_i at_4 ?_) | (with_reducible refine gO_i at_m4 ?_) | (with_reducible refine gO_i at_5 ?_) | (with_reducible refine gO_i at_m5 ?_) | (with_reducible refine gO_i at_6 ?_) | (with_reducible refine gO_i at_m6 ?_) | (with_reducible refine gO_i at_7 ?_) | (with_reducible refine gO_i at_m7 ?_) | (with_reducible refine IfB.ngf ?_) | (with_reducible refine IfB.ngt ?_) | (with_reducible refine IfB.not ?_) | (with_reducible refine IfB.nil ?_) | (with_reducible refine IfB.nilT ?_) | (with_reducible refine IfB.f isE_c ?_) | (with_reducible refine IfB.t isE_n ?_) | (with_reducible refine IfB.t ?gha ?_; (case gha => rfl)) | (with_reducible refine IfB.f ?gha ?_; (case gha => rfl)) | (with_reducible refine IfB.t ?gha ?_; (case gha => assumption)) | (with_reducible refine IfB.f ?gha ?_; (case gha => assumption)) | (with_reducible refine IfB.yes (Eq.refl _) ?_) | (with_reducible refine IfB.yes ?gha ?_; (case gha => (first | omega | (simp only [len_c, len_n, List.length_map]; omega)))) | (with_reducible refine IfB.no ?gha ?_; (case gha => (first | omega | (simp only [len_c, len_n, List.length_map]; omega)))) | (with_reducible refine IfB.t ?gha ?_; (case gha => decide +kernel)) | (with_reducible refine IfB.f ?gha ?_; (case gha => decide +kernel))); (with_reducible (conv => whnf))))))
local macro_rules
  | `(tactic| decreasing_trivial_pre_omega) => `(tactic| (decreasing_trivial; (repeat ((first | ((with_reducible refine And.intro ?gha ?_); (case gha => (first | assumption | omega | exact rfl | (exact mset_same) | (exact ⟨_, mset_same⟩) | (exact Exists.intro _ (by first | exact mset_same | assumption | (rw [mset_ne (by assumption)]; first | exact mset_same | assumption))) | (exact sm_of (by omega) (by omega)) | (exact sz1000 (by first | omega | (simp; done) | (simp; omega))) | (exact Or.inl ⟨by decide, by decide⟩) | decide | (simp; done) | (refine ⟨?_, ?_⟩ <;> (first | assumption | omega | exact rfl | (exact mset_same) | (exact ⟨_, mset_same⟩) | (exact Exists.intro _ (by first | exact mset_same | assumption | (rw [mset_ne (by assumption)]; first | exact mset_same | assumption))) | (exact sm_of (by omega) (by omega)) | (exact sz1000 (by first | omega | (simp; done) | (simp; omega))) | (exact Or.inl ⟨by decide, by decide⟩) | decide | (simp; done))) | (refine ⟨?_, ?_, ?_⟩ <;> (first | assumption | omega | exact rfl | (exact mset_same) | (exact ⟨_, mset_same⟩) | (exact Exists.intro _ (by first | exact mset_same | assumption | (rw [mset_ne (by assumption)]; first | exact mset_same | assumption))) | (exact sm_of (by omega) (by omega)) | (exact sz1000 (by first | omega | (simp; done) | (simp; omega))) | (exact Or.inl ⟨by decide, by decide⟩) | decide | (simp; done))) | (refine ⟨?_, ?_, ?_, ?_⟩ <;> (first | assumption | omega | exact rfl | (exact mset_same) | (exact ⟨_, mset_same⟩) | (exact Exists.intro _ (by first | exact mset_same | assumption | (rw [mset_ne (by assumption)]; first | exact mset_same | assumption))) | (exact sm_of (by omega) (by omega)) | (exact sz1000 (by first | omega | (simp; done) | (simp; omega))) | (exact Or.inl ⟨by decide, by decide⟩) | decide | (simp; done)))))) | (with_reducible refine exW (by first | exact mset_same | assumption | (rw [mset_ne (by assumption)]; first | exact mset_same | assumption)) ?_)); decreasing_trivial))))
theorem lcR {keep : Mem → Prop} {te : TDE} {ρ : EnvD} {M : Mem} {fin : List W → Mem → Prop} {i n : Nat} (g : Nat → W) (hk : keep M) (hb : ∀ j, j < n → ∀ Rk : W → Mem → Prop, Rk (g j) M → te (put ρ i (some (.d (.int (j : Nat))))) M Rk) (hl : n ≤ sizeLine) (h : fin ((List.range n).map g) M) : lcGo (bName i) keep yesT te ρ fin (rows1 (rng 0 n)) [] M := by
  unfold rng
  refine lc1 g hk (fun j hj Rk q => ?_) (by rw [List.length_range]; exact hl) h
  rw [Int.zero_add]
  exact hb j (List.mem_range.mp hj) Rk q
/-- a row's cells -/
def rowE (f : PyData → PyData → List Nat → List Nat → CP) (ks ls : List PyData) (p q : List Nat) (i m : Nat) : List W := (List.range m).map fun j => W.d (cpD (cE f ks ls p q i j))
theorem rowE_get {f : PyData → PyData → List Nat → List Nat → CP} {ks ls : List PyData} {p q : List Nat} {i m j : Nat} (h : j < m) : (rowE f ks ls p q i m)[j]? = some (.d (cpD (cE f ks ls p q i j))) := by
  unfold rowE
  rw [List.getElem?_map, List.getElem?_range h]
  rfl
theorem prE_len {n m : Nat} {t u : PyData} (ht : TrT n t) (hu : TrT m u) (p q : List Nat) : (prE n t u p q).2.length ≤ nn t := by
  obtain ⟨_, ps, h2, _, h4⟩ := prE_ok n t u m ht hu p q
  have hm := (tr_mat h2).1.len
  rw [(srtPP_perm _).length_eq, plc_len ht] at hm
  rw [h4, List.length_map]
  omega
theorem best3 (a b c : CP) : [cpD a, cpD b, cpD c][bestD [cpD a, cpD b, cpD c]]? = some (cpD (min3 a b c)) := by
  have e : bestD [cpD a, cpD b, cpD c] = if c.1 < (if b.1 < a.1 then b else a).1 then 2 else if b.1 < a.1 then 1 else 0 := by
    unfold bestD cpD
    rw [show ([PyData.tuple [.int a.1, .list (a.2.map pairD)], .tuple [.int b.1, .list (b.2.map pairD)], .tuple [.int c.1, .list (c.2.map pairD)]].length - 1) = 2 from rfl, argBest, argBest, argBest]
    by_cases h : b.1 < a.1
    · simp [kI, h]
    · simp [kI, h]
  rw [e]
  unfold min3
  dsimp only
  by_cases h1 : b.1 < a.1
  · rw [if_pos h1]
    by_cases h2 : c.1 < b.1
    · rw [if_pos h2, if_pos h2]; rfl
    · rw [if_neg h2, if_neg h2, if_pos h1]; rfl
  · rw [if_neg h1]
    by_cases h2 : c.1 < a.1
    · rw [if_pos h2, if_pos h2]; rfl
    · rw [if_neg h2, if_neg h2, if_neg h1]; rfl
theorem noDict_path (q : List Nat) : PyData.hasDict (pathD q) = false := by
  unfold pathD
  rw [PyData.hasDict]
  induction q with
  | nil => rfl
  | cons a r ih => rw [List.map_cons, PyData.hasDictAll, ih]; rfl
theorem noDict_prs (ps : List PPr) : PyData.hasDictAll (ps.map pairD) = false := by
  induction ps with
  | nil => rfl
  | cons a r ih =>
    rw [List.map_cons, PyData.hasDictAll, ih]
    unfold pairD
    rw [PyData.hasDict, PyData.hasDictAll, PyData.hasDictAll, PyData.hasDictAll, noDict_path, noDict_path]
    rfl
theorem noDict_cp (a : CP) : PyData.hasDict (cpD a) = false := by
  unfold cpD
  rw [PyData.hasDict, PyData.hasDictAll, PyData.hasDictAll, PyData.hasDictAll, PyData.hasDict, PyData.hasDict, noDict_prs]
  rfl
theorem noDict3 {a b c : CP} : PyData.hasDictAll [cpD a, cpD b, cpD c] = false := by
  rw [PyData.hasDictAll, PyData.hasDictAll, PyData.hasDictAll, PyData.hasDictAll, noDict_cp, noDict_cp, noDict_cp]
  rfl
theorem srt_P (l : List PPr) : srt (l.map pairD) = (srtPP l).map pairD := by
  unfold srt srtPP
  refine (List.map_mergeSort fun a _ b _ => ?_).symm
  show _ = !PySem.W.dataLt (pairD b) (pairD a)
  rw [dataLt_two]
  rfl
theorem pairs_srtOk (l : List PPr) : SrtOk (l.map pairD) := by
  refine ⟨fun d hd e he => ?_, .inr fun d hd => ?_, fun d hd => ?_⟩
  · obtain ⟨s, _, rfl⟩ := List.mem_map.mp hd
    obtain ⟨t, _, rfl⟩ := List.mem_map.mp he
    exact alike_pair s t
  · obtain ⟨s, _, rfl⟩ := List.mem_map.mp hd
    exact ⟨_, rfl⟩
  · obtain ⟨s, _, rfl⟩ := List.mem_map.mp hd
    have := pair_depth s
    omega
theorem rowE_len (f : PyData → PyData → List Nat → List Nat → CP) (ks ls : List PyData) (p q : List Nat) (i m : Nat) : (rowE f ks ls p q i m).length = m := by
  unfold rowE
  rw [List.length_map, List.length_range]
theorem rowE_at {f : PyData → PyData → List Nat → List Nat → CP} {ks ls : List PyData} {p q : List Nat} {i m j : Nat} {x : Int} (h : j < m) (e : x = (j : Nat)) : atI (rowE f ks ls p q i m) x = some (.d (cpD (cE f ks ls p q i j))) := by
  rw [e]
  exact atI_nat (rowE_get h)
theorem rowE_last {f : PyData → PyData → List Nat → List Nat → CP} {ks ls : List PyData} {p q : List Nat} {i m : Nat} : atI (rowE f ks ls p q i (m + 1)) (-1) = some (.d (cpD (cE f ks ls p q i m))) := by
  have e : ixN (m + 1) (-1) = some m := by
    unfold ixN
    rw [if_neg (by omega), if_pos (by omega)]
    congr 1
    omega
  unfold atI
  rw [rowE_len, e]
  exact rowE_get (Nat.lt_succ_self m)
theorem rowE_next (f : PyData → PyData → List Nat → List Nat → CP) (ks ls : List PyData) (p q : List Nat) (i m : Nat) : rowE f ks ls p q i m ++ [.d (cpD (cE f ks ls p q i m))] = rowE f ks ls p q i (m + 1) := by
  unfold rowE
  rw [List.range_succ, List.map_append]
  rfl
section
variable {P : Program} {w : World} {K : PySem.W.Frag} {mg : Str → Option Value} {base : Heap}
abbrev sLin : Stmt := top 51
theorem scLin : FnScope ["kids", "likes", "path", "place", "row", "at", "kid", "elder", "many", "number", "like", "both", "choices", "cost", "pairs"] ["kids", "likes", "path", "place"] (defScope sLin) := ⟨rfl, rfl, rfl, by decide +kernel, rfl, by decide +kernel, by decide +kernel⟩
theorem ok_lin1 {f c tp : Addr} {fd : FuncData} {n j : Nat} (F : Fun K "lined_up" "lined_up" sLin f fd) (hc : fd.code = .ref c) (TB : LamX.TabB base mg c tp) (Upaired : Use P w K mg base "paired" ["part", "like", "path", "place"] j (spD K 4 (tfPaired tp n))) (Uwith_cost : Use P w K mg base "with_cost" ["choice", "part"] j (spD K 2 tfWith)) (Ucount_places : Use P w K mg base "count_places" ["tree"] j (spD K 1 (tfN nn 12))) (T : Bl mg) (mMin : mg "min" = none) (mS : mg "sum" = none) : FnOk P w K mg base CX0 (j + 1) f fd ["kids", "likes", "path", "place"] (spD K 4 (tfLined tp n)) := by
  refine okDCL F scLin rfl hc fun A outer s H E hr => ?_
  refine ⟨_, _, (pss_cons (ps_setLc (i := 4) (own := [("many", 8)]) (g := gName 8) (tt := tYes) (by rfl) scLin.nd rfl rfl (sw_true rfl rfl rfl (by decide +kernel)) (pi_range1 (by rfl) T.range (pa_cons (pe_op op_add (pe_callB call_len_seq (by rfl) T.len PySem.boot_len (pa_cons (pv 1) pa_nil)) pe_int) pa_nil)) (blkOk_by (N := ["kids", "likes", "path", "place", "row", "at", "kid", "elder", "many", "number", "like", "both", "choices", "cost", "pairs"]) (sc := defScope sLin) (own := [("many", 8)]) (by decide +kernel)) (fun _ _ _ _ _ => pg_name (i := 8) scLin.nd rfl (Or.inl rfl)) (fun _ _ _ _ _ => pts_nil) (fun _ _ _ _ _ => (pe_tup (pa_cons (pe_callB (cr_sum rfl) (by rfl) mS PyProof.Rows.boot_sum (pa_cons (pe_lc (own := [("like", 10)]) (g := gName 10) (tt := tYes) (by rfl) scLin.nd (pi_tup (pe_slice sl_tupA (pv 1) po_none (po_some (pv 8)))) (by exact blkOk_by (by rfl)) (fun _ _ _ _ _ => pg_name (i := 10) scLin.nd rfl (Or.inl rfl)) (fun _ _ _ _ _ => pts_nil) (fun _ _ _ _ _ => (pe_call Ucount_places.ok (hr.mono (by omega)) rfl Ucount_places.m Ucount_places.kp Ucount_places.b .nil pass0 (pa_cons (pv 10) pa_nil)))) pa_nil)) (pa_cons (pe_lst pa_nil) pa_nil)))))
    (pss_cons (ps_for PassesOwn.never rfl (pi_enumT (by rfl) T.enum (pa_cons (pv 0) pa_nil)) (pg_tup rfl (pgs_cons (pg_name (i := 5) scLin.nd rfl (.inl rfl)) (pgs_cons (pg_name (i := 6) scLin.nd rfl (.inl rfl)) pgs_nil))) (pss_cons (ps_set (i := 7) scLin.nd rfl (.inl rfl) (pv 4))
      (pss_cons (ps_set (i := 4) scLin.nd rfl (.inl rfl) (pe_lst (pa_cons (pe_call Uwith_cost.ok (hr.mono (by omega)) rfl Uwith_cost.m Uwith_cost.kp Uwith_cost.b .nil pass0 (pa_cons (pe_ix ix_list (pv 7) pe_int (fun _ _ => rfl)) (pa_cons (pv 6) pa_nil))) pa_nil)))
      (pss_one (ps_for PassesOwn.never rfl (pi_enumT (by rfl) T.enum (pa_cons (pv 1) pa_nil)) (pg_tup rfl (pgs_cons (pg_name (i := 9) scLin.nd rfl (.inl rfl)) (pgs_cons (pg_name (i := 10) scLin.nd rfl (.inl rfl)) pgs_nil))) (pss_cons (ps_asg (pe_call Upaired.ok (hr.mono (by omega)) rfl Upaired.m Upaired.kp Upaired.b .nil pass0 (pa_cons (pv 6) (pa_cons (pv 10) (pa_cons (pe_op op_catA (pv 2) (pe_tup (pa_cons (pv 5) pa_nil))) (pa_cons (pe_op op_catA (pv 3) (pe_tup (pa_cons (pv 9) pa_nil))) pa_nil))))) (pg_tup rfl (pgs_cons (pg_name (i := 13) scLin.nd rfl (.inl rfl)) (pgs_cons (pg_name (i := 14) scLin.nd rfl (.inl rfl)) pgs_nil))))
        (pss_cons (ps_set (i := 11) scLin.nd rfl (.inl rfl) (pe_tup (pa_cons (pe_op op_add (pe_ix ix_tup (pe_ix ix_list (pv 7) (pv 9) (fun _ _ => rfl)) pe_int (fun _ _ => rfl)) (pv 13)) (pa_cons (pe_op op_cat (pe_ix ix_tup (pe_ix ix_list (pv 7) (pv 9) (fun _ _ => rfl)) pe_int (fun _ _ => rfl)) (pv 14)) pa_nil))))
        (pss_cons (ps_set (i := 12) scLin.nd rfl (.inl rfl) (pe_lst (pa_cons (pv 11) (pa_cons (pe_call Uwith_cost.ok (hr.mono (by omega)) rfl Uwith_cost.m Uwith_cost.kp Uwith_cost.b .nil pass0 (pa_cons (pe_ix ix_list (pv 7) (pe_op op_add (pv 9) pe_int) (fun _ _ => rfl)) (pa_cons (pv 6) pa_nil))) (pa_cons (pe_call Uwith_cost.ok (hr.mono (by omega)) rfl Uwith_cost.m Uwith_cost.kp Uwith_cost.b .nil pass0 (pa_cons (pe_ix ix_list (pv 4) (pv 9) (fun _ _ => rfl)) (pa_cons (pv 10) pa_nil))) pa_nil)))))
        (pss_one (ps_expr (pe_bm PySem.F.plainAttrs_list PySem.F.slot_list_append PySem.F.type_list_append mt_append (pv 4) (pa_cons (pe_minK (P := tp) hr.depth hr.hd rfl mMin (pa_cons (pv 12) pa_nil) TB rfl (show _ = qLin from rfl) rfl ⟨rfl, rfl, rfl, rfl, by decide, by decide⟩ (ev_key0 rfl rfl) (fun _ _ _ _ => rfl)) pa_nil))))))))))))
    (pss_one (ps_ret (pe_ix ix_list (pv 4) (pe_un un_neg pe_int) (fun _ _ => rfl)))))),
    (ss_cons (ss_set (se_lcL (si_r1 (sa_cons (se_op so_add (se_cb sc_len (sa_cons se_nm sa_nil)) se_int) sa_nil)) sg_name st_yes (se_tup (sa_cons (se_cb sc_sum (sa_cons (se_lcF (si_tup (se_sl sl_T se_nm sp_no (sp_some se_nm))) sg_name st_yes (se_call (sa_cons se_nm sa_nil))) sa_nil)) (sa_cons (se_lsf sa_nil) sa_nil)))))
    (ss_cons (ss_for (si_enT (sa_cons se_nm sa_nil)) sg_pair (ss_cons (ss_set se_nm)
      (ss_cons (ss_set (se_lst (sa_cons (se_call (sa_cons (se_op so_ixL se_nm se_int) (sa_cons se_nm sa_nil))) sa_nil)))
      (ss_for (si_enT (sa_cons se_nm sa_nil)) sg_pair (ss_cons (ss_unp sg_tup2 (se_call (sa_cons se_nm (sa_cons se_nm (sa_cons (se_op so_catT se_nm (se_tup (sa_cons se_nm sa_nil))) (sa_cons (se_op so_catT se_nm (se_tup (sa_cons se_nm sa_nil))) sa_nil))))))
        (ss_cons (ss_set (se_tup (sa_cons (se_op so_add (se_op so_ixT (se_op so_ixL se_nm se_nm) se_int) se_nm) (sa_cons (se_op so_catF (se_op so_ixT (se_op so_ixL se_nm se_nm) se_int) se_nm) sa_nil))))
        (ss_cons (ss_set (se_lsf (sa_cons se_nm (sa_cons (se_call (sa_cons (se_op so_ixL se_nm (se_op so_add se_nm se_int)) (sa_cons se_nm sa_nil))) (sa_cons (se_call (sa_cons (se_op so_ixL se_nm se_nm) (sa_cons se_nm sa_nil))) sa_nil)))))
        (ss_drop (se_bmL sm_append se_nm (sa_cons (se_minK (sa_cons se_nm sa_nil)) sa_nil))))))))))
    (ss_ret (se_op so_ixL se_nm (se_un su_neg se_int))))), fun ws M R RX hl h => ?_⟩
  obtain ⟨ks, ls, p, q, m, rfl, ⟨hk, hl, hn, hm, nk, nl, lp, lq, hT⟩, h2⟩ := h
  have kl : ks.length ≤ 60 := Nat.le_trans (len_nn ks) nk
  have ll : ls.length ≤ 60 := Nat.le_trans (len_nn ls) nl
  simp only [start0, len_c, len_n, map_c, map_n, app_c, app_n, rep_0, rep_s, Nat.reduceAdd, Nat.reduceSub]
  decreasing_trivial_pre_omega
  rw [show ((ls.length : Int) + 1).toNat = ls.length + 1 by omega]
  refine lcR (fun j => W.d (cpD (cE (prE n) ks ls p q 0 j))) trivial (fun j hj Rk qk => ?_) (Nat.le_trans (show ls.length + 1 ≤ 61 by omega) (by decide)) ?_
  · decreasing_trivial_pre_omega
    rw [cut_to]
    have tl2 : ∀ l ∈ ls.take j, TrT m l := fun l h => hl l (List.mem_of_mem_take h)
    have nt2 : nnAll (ls.take j) ≤ 60 := Nat.le_trans (nnAll_take ls j) nl
    have lt2 : (ls.take j).length ≤ 60 := Nat.le_trans (len_nn _) nt2
    rw [cE] at qk
    unfold cpD at qk
    generalize ls.take j = ts at tl2 nt2 lt2 qk
    refine lc1F (k := fun _ => True) (b := bName 10) (fun k => .int (nn k : Nat)) trivial (fun k hm Rk q => ?_) (sz1000 (by omega)) ?_
    · have := nn_mem hm
      decreasing_trivial_pre_omega
      exact ⟨⟨((tl2 k hm).mono (by omega)), by omega⟩, q⟩
    · show gIs (((ts.map fun k => PyData.int (nn k : Nat))).map W.d) _
      rw [List.map_map]
      show gIs (ts.map fun k => W.d (.int (nn k : Nat))) _
      rw [gIs_map, nnAll_map]
      decreasing_trivial_pre_omega
      exact qk
  · intro a ha
    have e0 : mset M a (MO.lst ((List.range (ls.length + 1)).map fun j => W.d (cpD (cE (prE n) ks ls p q 0 j)))) a = some (.lst (rowE (prE n) ks ls p q 0 (ls.length + 1))) := mset_same
    have k0 : ∀ b u, M b = some u → mset M a (MO.lst ((List.range (ls.length + 1)).map fun j => W.d (cpD (cE (prE n) ks ls p q 0 j)))) b = some u := fun b u e => by rw [mset_ne (fun z => by rw [z, ha] at e; cases e)]; exact e
    generalize mset M a (MO.lst ((List.range (ls.length + 1)).map fun j => W.d (cpD (cE (prE n) ks ls p q 0 j)))) = M1 at e0 k0 ⊢
    decreasing_trivial_pre_omega
    refine forE (fun i ρ M' => (∀ b u, M b = some u → M' b = some u) ∧ ∃ a y5 y6 y7 y9 y10 y11 y12 y13 y14, ρ = [some (W.d (PyData.tuple ks)), some (W.d (PyData.tuple ls)), some (W.d (pathD p)), some (W.d (pathD q)), some (.r a), y5, y6, y7, none, y9, y10, y11, y12, y13, y14] ∧ M' a = some (.lst (rowE (prE n) ks ls p q i (ls.length + 1)))) ⟨k0, a, none, none, none, none, none, none, none, none, none, rfl, e0⟩ (fun _ _ _ _ _ => trivial) (fun i kd ρ M' N hx hq hN => ?_) (fun ρ M' hq => ?_)
    · obtain ⟨kk, a, y5, y6, y7, y9, y10, y11, y12, y13, y14, rfl, ha⟩ := hq
      obtain ⟨kd, hy, rfl⟩ := Option.map_eq_some_iff.mp (by rw [List.getElem?_map] at hx; exact hx)
      have g0 : atI (rowE (prE n) ks ls p q i (ls.length + 1)) 0 = some (.d (cpD (cE (prE n) ks ls p q i 0))) := rowE_at (Nat.zero_lt_succ _) rfl
      have hkd := hk kd (List.mem_of_getElem? hy)
      have nkd : nn kd ≤ nnAll ks := nn_mem (List.mem_of_getElem? hy)
      have tkd : TrT 12 kd := hkd.mono hn
      decreasing_trivial_pre_omega
      refine ⟨cE (prE n) ks ls p q i 0, kd, rfl, ⟨tkd, by omega⟩, ?_⟩
      decreasing_trivial_pre_omega
      intro p1 hp1
      have ap : a ≠ p1 := fun z => by rw [z, hp1] at ha; cases ha
      have tpp : tp ≠ p1 := fun z => by rw [← z, kk _ _ hT] at hp1; cases hp1
      have e1 : W.d (cpD (withC (cE (prE n) ks ls p q i 0) kd)) = W.d (cpD (cE (prE n) ks ls p q (i + 1) 0)) := by
        rw [cE, List.getD_eq_getElem?_getD, hy]
        rfl
      rw [e1, show [W.d (cpD (cE (prE n) ks ls p q (i + 1) 0))] = rowE (prE n) ks ls p q (i + 1) 1 from rfl]
      decreasing_trivial_pre_omega
      refine forE (fun j ρ M2 => M2 = mset M' p1 (.lst (rowE (prE n) ks ls p q (i + 1) (j + 1))) ∧ ∃ y9 y10 y11 y12 y13 y14, ρ = [some (W.d (PyData.tuple ks)), some (W.d (PyData.tuple ls)), some (W.d (pathD p)), some (W.d (pathD q)), some (.r p1), some (W.d (.int (i : Nat))), some (W.d kd), some (.r a), none, y9, y10, y11, y12, y13, y14]) ⟨rfl, _, _, _, _, _, _, rfl⟩ (fun _ _ _ _ _ => trivial) (fun j ld ρ M2 N2 hx2 hq hN2 => ?_) (fun ρ M2 hq => ?_)
      · obtain ⟨rfl, z9, z10, z11, z12, z13, z14, rfl⟩ := hq
        obtain ⟨ld, hy2, rfl⟩ := Option.map_eq_some_iff.mp (by rw [List.getElem?_map] at hx2; exact hx2)
        have hld := hl ld (List.mem_of_getElem? hy2)
        have nld : nn ld ≤ nnAll ls := nn_mem (List.mem_of_getElem? hy2)
        have tld : TrT 12 ld := hld.mono hm
        have hj : j < ls.length := (List.getElem?_eq_some_iff.mp hy2).1
        have g1 : atI (rowE (prE n) ks ls p q i (ls.length + 1)) (j : Nat) = some (.d (cpD (cE (prE n) ks ls p q i j))) := rowE_at (by omega) rfl
        have g2 : atI (rowE (prE n) ks ls p q i (ls.length + 1)) ((j : Nat) + 1) = some (.d (cpD (cE (prE n) ks ls p q i (j + 1)))) := rowE_at (by omega) (by omega)
        have g3 : atI (rowE (prE n) ks ls p q (i + 1) (j + 1)) (j : Nat) = some (.d (cpD (cE (prE n) ks ls p q (i + 1) j))) := rowE_at (by omega) rfl
        have mt : mset M' p1 (.lst (rowE (prE n) ks ls p q (i + 1) (j + 1))) tp = some (.tab qLin) := by rw [mset_ne tpp]; exact kk _ _ hT
        have cj := cE_len hk hl p q (i := i) (j := j) (Nat.le_of_lt (List.getElem?_eq_some_iff.mp hy).1) (Nat.le_of_lt hj)
        have cp := prE_len hkd hld (p ++ [i]) (q ++ [j])
        decreasing_trivial_pre_omega
        have eC : cE (prE n) ks ls p q (i + 1) (j + 1) = min3 ((cE (prE n) ks ls p q i j).1 + (prE n kd ld (p ++ [i]) (q ++ [j])).1, (cE (prE n) ks ls p q i j).2 ++ (prE n kd ld (p ++ [i]) (q ++ [j])).2) (withC (cE (prE n) ks ls p q i (j + 1)) kd) (withC (cE (prE n) ks ls p q (i + 1) j) ld) := by
          rw [cE, List.getD_eq_getElem?_getD, List.getD_eq_getElem?_getD, hy, hy2]
          rfl
        have eN := rowE_next (prE n) ks ls p q (i + 1) (j + 1)
        rw [eC] at eN
        unfold pathD
        decreasing_trivial_pre_omega
        refine ⟨kd, ld, p ++ [i], q ++ [j], m, by unfold pathD; rw [List.map_append, List.map_append]; rfl, ⟨hkd, hld, hn, hm, by omega, by omega, by rw [List.length_append]; simp; omega, by rw [List.length_append]; simp; omega, mt⟩, ?_⟩
        generalize prE n kd ld (p ++ [i]) (q ++ [j]) = x at cp eN ⊢
        generalize cE (prE n) ks ls p q i j = x00 at cj g1 eN ⊢
        generalize cE (prE n) ks ls p q i (j + 1) = x01 at g2 eN ⊢
        generalize cE (prE n) ks ls p q (i + 1) j = x10 at g3 eN ⊢
        unfold cpD at g1
        rw [show W.d (cpD x) = W.d (.tuple [.int x.1, .list (x.2.map pairD)]) from rfl]
        decreasing_trivial_pre_omega
        refine ⟨x01, kd, rfl, ⟨tkd, by omega⟩, ?_⟩
        decreasing_trivial_pre_omega
        refine ⟨x10, ld, rfl, ⟨tld, by omega⟩, ?_⟩
        decreasing_trivial_pre_omega
        rw [show PyData.tuple [(fun a b => PyData.int (a + b)) x00.1 x.1, PyData.list (List.map pairD x00.2 ++ List.map pairD x.2)] = cpD (x00.1 + x.1, x00.2 ++ x.2) by unfold cpD; rw [List.map_append]]
        rw [best3]
        refine ⟨⟨fun d hd => ?_, by simp, noDict3⟩, fun d hd => ?_⟩
        · rcases List.mem_cons.mp hd with rfl | hd
          · exact ⟨_, _, rfl⟩
          rcases List.mem_cons.mp hd with rfl | hd
          · exact ⟨_, _, rfl⟩
          rw [List.mem_singleton.mp hd]
          exact ⟨_, _, rfl⟩
        · obtain rfl := Option.some.inj hd
          decreasing_trivial_pre_omega
          refine ⟨by rw [rowE_len]; exact small1000 (by omega), ?_⟩
          rw [eN, mset_mset]
          exact hN2 _ _ ⟨rfl, _, _, _, _, _, _, rfl⟩
      · obtain ⟨rfl, z9, z10, z11, z12, z13, z14, rfl⟩ := hq
        refine hN _ _ ⟨fun b u e => ?_, p1, _, _, _, _, _, _, _, _, _, rfl, ?_⟩
        · rw [mset_ne (fun z => by rw [z] at e; rw [kk _ _ e] at hp1; cases hp1)]
          exact kk _ _ e
        · rw [List.length_map]
          exact mset_same
    · obtain ⟨kk, a, y5, y6, y7, y9, y10, y11, y12, y13, y14, rfl, ha⟩ := hq
      rw [List.length_map] at ha
      decreasing_trivial_pre_omega
      exact gO_i rowE_last ⟨M, kk, h2⟩
def uPR {f : Addr} {fd : FuncData} {tp : Addr} {n k : Nat} (F : Fun K "paired" "paired" sPaired f fd) (mF : mg "paired" = some (.ref f)) (h : FnOk P w K mg base CX0 k f fd ["part", "like", "path", "place"] (spD K 4 (tfPaired tp n))) : Use P w K mg base "paired" ["part", "like", "path", "place"] k (spD K 4 (tfPaired tp n)) := ⟨f, fd, h, mF, F.kp, F.binds (ps := ["part", "like", "path", "place"]) fun _ _ _ _ _ _ us hl => match us, hl with | [_, _, _, _], _ => rfl⟩
def uLN {f : Addr} {fd : FuncData} {tp : Addr} {n k : Nat} (F : Fun K "lined_up" "lined_up" sLin f fd) (mF : mg "lined_up" = some (.ref f)) (h : FnOk P w K mg base CX0 k f fd ["kids", "likes", "path", "place"] (spD K 4 (tfLined tp n))) : Use P w K mg base "lined_up" ["kids", "likes", "path", "place"] k (spD K 4 (tfLined tp n)) := ⟨f, fd, h, mF, F.kp, F.binds (ps := ["kids", "likes", "path", "place"]) fun _ _ _ _ _ _ us hl => match us, hl with | [_, _, _, _], _ => rfl⟩
theorem ok_paired {f fl c tp : Addr} {fd fdl : FuncData} {j : Nat} (F : Fun K "paired" "paired" sPaired f fd) (mF : mg "paired" = some (.ref f)) (Fl : Fun K "lined_up" "lined_up" sLin fl fdl) (mFl : mg "lined_up" = some (.ref fl)) (hc : fdl.code = .ref c) (TB : LamX.TabB base mg c tp) (Uwith_cost : Use P w K mg base "with_cost" ["choice", "part"] j (spD K 2 tfWith)) (Ucount_places : Use P w K mg base "count_places" ["tree"] j (spD K 1 (tfN nn 12))) (T : Bl mg) (mMin : mg "min" = none) (mS : mg "sum" = none) : ∀ n, FnOk P w K mg base CX0 (j + 2 * n) f fd ["part", "like", "path", "place"] (spD K 4 (tfPaired tp n))
  | 0 => no0 fun ws M R RX h => by
    obtain ⟨t, u, p, q, m, rfl, ⟨ht, _⟩, _⟩ := h
    exact ht.elim
  | n + 1 =>
    let u1 := uPR F mF (ok_paired F mF Fl mFl hc TB Uwith_cost Ucount_places T mMin mS n)
    let u2 := uLN Fl mFl (ok_lin1 (j := j + 2 * n) Fl hc TB u1 (Uwith_cost.up (by omega)) (Ucount_places.up (by omega)) T mMin mS)
    ok_paired1 (j := j + 2 * n + 1) F u2 T
@[reducible] def tfTopM (E : Addr) (tp : Addr) : TF := fun ws M R RX => ∃ t u, ws = [.d t, .d u] ∧ (Tr2 t ∧ Tr2 u ∧ M tp = some (.tab qLin)) ∧ R (.d (.tuple ((toldT t u).map pairD))) M
abbrev sTopm : Stmt := top 49
theorem scTopm : FnScope ["one", "other"] ["one", "other"] (defScope sTopm) := ⟨rfl, rfl, rfl, by decide +kernel, rfl, by decide +kernel, by decide +kernel⟩
theorem ok_topm {f C tp : Addr} {fd : FuncData} {k j : Nat} (F : Fun K "top_matching" "top_matching" sTopm f fd) (Ucheck_tree : UseX P w K mg base "check_tree" ["thing"] j (spD K 1 (tfChk isTreeD C))) (Upaired : Use P w K mg base "paired" ["part", "like", "path", "place"] j (spD K 4 (tfPaired tp 12))) (hj : j ≤ k) (T : Bl mg) (mSrt : mg "sorted" = none) : FnOk P w K mg base CX0 (k + 1) f fd ["one", "other"] (spD K 2 (tfTopM C tp)) := by
  refine okDL F scTopm rfl fun cdv A outer s H E hr => ?_
  refine ⟨_, _, (pss_cons (ps_expr (pe_callS Ucheck_tree.ok (hr.mono (by omega)) rfl Ucheck_tree.m Ucheck_tree.kp Ucheck_tree.b (fun σ => passAt takes0 σ) (pa_cons (pv 0) pa_nil)))
    (pss_cons (ps_expr (pe_callS Ucheck_tree.ok (hr.mono (by omega)) rfl Ucheck_tree.m Ucheck_tree.kp Ucheck_tree.b (fun σ => passAt takes0 σ) (pa_cons (pv 1) pa_nil)))
    (pss_one (ps_ret (pe_callTy call_tuple_of (by rfl) T.tuple PyProof.Rows.boot_tuple (pa_cons (pe_callB (cr_sortedD (room62 hr)) (by rfl) mSrt PyProof.Rows.boot_sorted (pa_cons (pe_ix ix_tup (pe_call Upaired.ok (hr.mono (by omega)) rfl Upaired.m Upaired.kp Upaired.b .nil pass0 (pa_cons (pv 0) (pa_cons (pv 1) (pa_cons (pe_tup pa_nil) (pa_cons (pe_tup pa_nil) pa_nil))))) pe_int (fun _ _ => rfl)) pa_nil)) pa_nil)))))),
    (ss_cons (ss_drop (se_callX (sa_cons se_nm sa_nil)))
    (ss_cons (ss_drop (se_callX (sa_cons se_nm sa_nil)))
    (ss_ret (se_cb sc_tuple (sa_cons (se_cb sc_sortedF (sa_cons (se_op so_ixT (se_call (sa_cons se_nm (sa_cons se_nm (sa_cons (se_tup sa_nil) (sa_cons (se_tup sa_nil) sa_nil))))) se_int) sa_nil)) sa_nil))))), fun ws M R RX hl h => ?_⟩
  obtain ⟨t, u, rfl, ⟨ht, hu, hT⟩, h2⟩ := h
  have yt := ht.is
  have yu := hu.is
  have xt := ht.txt
  have xu := hu.txt
  simp only [start0, len_c, len_n, map_c, map_n, app_c, app_n, rep_0, rep_s, Nat.reduceAdd, Nat.reduceSub]
  decreasing_trivial_pre_omega
  refine ⟨fun _ => ?_, fun c => (by rw [yt] at c; cases c)⟩
  decreasing_trivial_pre_omega
  refine ⟨fun _ => ?_, fun c => (by rw [yu] at c; cases c)⟩
  decreasing_trivial_pre_omega
  have hl := prE_len ht.tr hu.tr [] []
  have hn := ht.n
  refine ⟨t, u, [], [], 12, rfl, ⟨ht.tr, hu.tr, by decide, by decide, ht.n, hu.n, by decide, by decide, hT⟩, ?_⟩
  unfold toldT at h2
  generalize prE 12 t u [] [] = x at hl h2 ⊢
  unfold cpD
  decreasing_trivial_pre_omega
  refine ⟨pairs_srtOk _, ?_⟩
  rw [srt_P]
  have l2 : (srtPP x.2).length = x.2.length := (srtPP_perm _).length_eq
  decreasing_trivial_pre_omega
  exact ⟨M, fun _ _ e => e, h2⟩
end
end Tl
set_option Elab.async false
set_option linter.all false
set_option maxRecDepth 100000
set_option maxHeartbeats 8000000
namespace Tl
open PySem L2 RZ
local macro_rules
  | `(tactic| decreasing_trivial) => `(tactic| ((with_reducible (conv => whnf)); (repeat ((first | (with_reducible refine gDs_c ?_) | (with_reducible refine gDs_n ?_) | (with_reducible refine gNs_c ?_) | (with_reducible refine gNs_n ?_) | (with_reducible refine gO_i tyAny_lt ?_) | (with_reducible refine gIs_c ?_) | (with_reducible refine gIs_n ?_) | (with_reducible refine gBs_c ?_) | (with_reducible refine gBs_n ?_) | (with_reducible refine gSs_c ?_) | (with_reducible refine gSs_n ?_) | (with_reducible refine gO_i tyIs_int ?_) | (with_reducible refine gO_i tyIs_bool ?_) | (with_reducible refine gO_i tyIs_str ?_) | (with_reducible refine gO_i tyIs_tuple ?_) | (with_reducible refine gO_i tyIs_list ?_) | (with_reducible refine gDs_i ?_) | (with_reducible refine gO_i (Eq.refl _) ?_) | (with_reducible refine gO_i (by assumption) ?_) | (with_reducible refine gO_i at_0 ?_) | (with_reducible refine gO_i at_m0 ?_) | (with_reducible refine gO_i at_1 ?_) | (with_reducible refine gO_i at_m1 ?_) | (with_reducible refine gO_i at_2 ?_) | (with_reducible refine gO_i at_m2 ?_) | (with_reducible refine gO_i at_3 ?_) | (with_reducible refine gO_i at_m3 ?_) | (with_reducible refine gO_i at_4 ?_) | (with_reducible refine gO_i at_m4 ?_) | (with_reducible refine gO_i at_5 ?_) | (with_reducible refine gO_i at_m5 ?_) | (with_reducible refine gO_i at_6 ?_) | (with_reducible refine gO_i at_m6 ?_) | (with_reducible refine gO_i at_7 ?_) | (with_reducible refine gO_i at_m7 ?_) | (with_reducible refine IfB.ngf ?_) | (with_reducible refine IfB.ngt ?_) | (with_reducible refine IfB.not ?_) | (with_reducible refine IfB.nil ?_) | (with_reducible refine IfB.nilT ?_) | (with_reducible refine IfB.f isE_c ?_) | (with_reducible refine IfB.t isE_n ?_) | (with_reducible refine IfB.t ?gha ?_; (case gha => rfl)) | (with_reducible refine IfB.f ?gha ?_; (case gha => rfl)) | (with_reducible refine IfB.t ?gha ?_; (case gha => assumption)) | (with_reducible refine IfB.f ?gha ?_; (case gha => assumption)) | (with_reducible refine IfB.yes (Eq.refl _) ?_) | (with_reducible refine IfB.yes ?gha ?_; (case gha => (first | omega | (simp only [len_c, len_n, List.length_map]; omega)))) | (with_reducible refine IfB.no ?gha ?_; (case gha => (first | omega | (simp only [len_c, len_n, List.length_map]; omega)))) | (with_reducible refine IfB.t ?gha ?_; (case gha => decide +kernel)) | (with_reducible refine IfB.f ?gha ?_; (case gha => decide +kernel))); (with_reducible (conv => whnf))))))
local macro_rules
  | `(tactic| decreasing_trivial_pre_omega) => `(tactic| (decreasing_trivial; (repeat ((first | ((with_reducible refine And.intro ?gha ?_); (case gha => (first | assumption | omega | exact rfl | (exact mset_same) | (exact ⟨_, mset_same⟩) | (exact Exists.intro _ (by first | exact mset_same | assumption | (rw [mset_ne (by assumption)]; first | exact mset_same | assumption))) | (exact sm_of (by omega) (by omega)) | (exact sz1000 (by first | omega | (simp; done) | (simp; omega))) | (exact Or.inl ⟨by decide, by decide⟩) | decide | (simp; done) | (refine ⟨?_, ?_⟩ <;> (first | assumption | omega | exact rfl | (exact mset_same) | (exact ⟨_, mset_same⟩) | (exact Exists.intro _ (by first | exact mset_same | assumption | (rw [mset_ne (by assumption)]; first | exact mset_same | assumption))) | (exact sm_of (by omega) (by omega)) | (exact sz1000 (by first | omega | (simp; done) | (simp; omega))) | (exact Or.inl ⟨by decide, by decide⟩) | decide | (simp; done))) | (refine ⟨?_, ?_, ?_⟩ <;> (first | assumption | omega | exact rfl | (exact mset_same) | (exact ⟨_, mset_same⟩) | (exact Exists.intro _ (by first | exact mset_same | assumption | (rw [mset_ne (by assumption)]; first | exact mset_same | assumption))) | (exact sm_of (by omega) (by omega)) | (exact sz1000 (by first | omega | (simp; done) | (simp; omega))) | (exact Or.inl ⟨by decide, by decide⟩) | decide | (simp; done))) | (refine ⟨?_, ?_, ?_, ?_⟩ <;> (first | assumption | omega | exact rfl | (exact mset_same) | (exact ⟨_, mset_same⟩) | (exact Exists.intro _ (by first | exact mset_same | assumption | (rw [mset_ne (by assumption)]; first | exact mset_same | assumption))) | (exact sm_of (by omega) (by omega)) | (exact sz1000 (by first | omega | (simp; done) | (simp; omega))) | (exact Or.inl ⟨by decide, by decide⟩) | decide | (simp; done)))))) | (with_reducible refine exW (by first | exact mset_same | assumption | (rw [mset_ne (by assumption)]; first | exact mset_same | assumption)) ?_)); decreasing_trivial))))
abbrev sI_NoMatching : Stmt := inClsN (top 6) 0
theorem scI_NoMatching : FnScope ["self", "what"] ["self", "what"] (defScope sI_NoMatching) := ⟨rfl, rfl, rfl, by decide +kernel, rfl, by decide +kernel, by decide +kernel⟩
theorem okI_NoMatching {P : Program} {w : World} {K : PySem.W.Frag} {mg : Str → Option Value} {base : Heap} {f C : Addr} {fd : FuncData} {k : Nat} (F : Fun K "__init__" "NoMatching.__init__" sI_NoMatching f fd) (o : OexC K C) (n : PySem.W.findIn K (.ref C) "what" = some none) : FnOk P w K mg base CX0 (k + 1) f fd ["self", "what"] (spInitF K C "what") := by
  refine F.ok scI_NoMatching (fun vs H Q E h => ?_) (fun cdv A outer s H vs Q E hr h => ?_)
  · obtain ⟨_, _, rfl, _⟩ := h
    rfl
  obtain ⟨a, v, rfl, ha, q⟩ := h
  exact ⟨_, pss_one (ps_ost (pv 0) (pv 1)), _, rfl, _, rfl, a, C, rfl, o, n, .inl ⟨ha, fun dx h1 h2 => q dx h1 h2⟩⟩
@[reducible] def tfChkMat (C : Addr) : TF := fun ws M R RX => ∃ t u d, ws = [.d t, .d u, .d d] ∧ (Tr2 t ∧ Tr2 u ∧ txt d = true) ∧ (matB t u d = true → R (.d .none) M) ∧ (matB t u d = false → RX ⟨.ref C, [("what", .str "matching")]⟩ M)
/-- a row of pairs of places -/
@[reducible] def tfUnlike : TF := fun ws M R _ => ∃ (t u : PyData) (ps : List PPr), ws = [.d t, .d u, .d (.tuple (ps.map pairD))] ∧ (Tr2 t ∧ Tr2 u ∧ (∀ x ∈ ps, x.1 ∈ plc t ∧ x.2 ∈ plc u) ∧ ps.length ≤ 900) ∧ ∀ ds : List PyData, ds.length = unlikeN t u ps → R (.d (.list ds)) M
section
variable {P : Program} {w : World} {K : PySem.W.Frag} {mg : Str → Option Value} {base : Heap}
theorem dropLastD (q : List Nat) : PyData.tuple (cut (q.map fun n : Nat => PyData.int (n : Int)) none (some (-1))) = pathD q.dropLast := by
  rw [cut_last, ← List.map_dropLast]
  rfl
theorem any_pair (ps : List PPr) (x : PPr) : ((ps.map pairD).any fun z => PyData.eqv z (pairD x)) = decide (x ∈ ps) := by
  refine bool_eq ?_
  rw [List.any_map, List.any_eq_true, decide_eq_true_iff]
  constructor
  · rintro ⟨y, hy, h⟩
    rw [show ((fun z => PyData.eqv z (pairD x)) ∘ pairD) y = PyData.eqv (pairD y) (pairD x) from rfl, eqv_pair, decide_eq_true_iff] at h
    rw [← h]
    exact hy
  · intro h
    refine ⟨x, h, ?_⟩
    rw [show ((fun z => PyData.eqv z (pairD x)) ∘ pairD) x = PyData.eqv (pairD x) (pairD x) from rfl, eqv_pair, decide_eq_true_iff]
abbrev sIsTop : Stmt := top 45
theorem scIsTop : FnScope ["one", "other", "thing", "path", "place"] ["one", "other", "thing"] (defScope sIsTop) := ⟨rfl, rfl, rfl, by decide +kernel, rfl, by decide +kernel, by decide +kernel⟩
theorem ok_isTop {f : Addr} {fd : FuncData} {k j : Nat} (F : Fun K "is_top" "is_top" sIsTop f fd) (Uis_matching : Use P w K mg base "is_matching" ["one", "other", "thing"] j (spD K 3 (tfMatB matB))) (hj : j ≤ k) (T : Bl mg) : FnOk P w K mg base CX0 (k + 1) f fd ["one", "other", "thing"] (spD K 3 (tfMatB topB)) := by
  refine okD F scIsTop rfl fun cdv A outer s H E hr => ?_
  refine ⟨_, _, (pss_cons (ps_if (pt_not (pt_val (pe_call Uis_matching.ok (hr.mono (by omega)) rfl Uis_matching.m Uis_matching.kp Uis_matching.b .nil pass0 (pa_cons (pv 0) (pa_cons (pv 1) (pa_cons (pv 2) pa_nil)))))) (pss_one (ps_ret pe_bl)) pss_nil)
    (pss_one (ps_ret (pe_callB (cr_all rfl) (by rfl) T.all PyProof.Rows.boot_all (pa_cons (pe_lc (own := [("path", 3), ("place", 4)]) (g := gTup K 2 (gCons (gName 3) (gCons (gName 4) gNil))) (tt := tYes) (by rfl) scIsTop.nd (pi_tup (pe_slice sl_tupA (pv 2) (po_some pe_int) po_none)) (blkOk_by (N := ["one", "other", "thing", "path", "place"]) (sc := defScope sIsTop) (own := [("path", 3), ("place", 4)]) (by decide +kernel)) (fun _ _ _ _ _ => (pg_tup rfl (pgs_cons (pg_name (i := 3) scIsTop.nd rfl (Or.inl rfl)) (pgs_cons (pg_name (i := 4) scIsTop.nd rfl (Or.inl rfl)) pgs_nil)))) (fun _ _ _ _ _ => pts_nil) (fun _ _ _ _ _ => (pe_cmpR (op_inTD (room65 hr)) (pe_tup (pa_cons (pe_slice sl_tupA (pv 3) po_none (po_some (pe_un un_neg pe_int))) (pa_cons (pe_slice sl_tupA (pv 4) po_none (po_some (pe_un un_neg pe_int))) pa_nil))) (pv 2) (by rfl)))) pa_nil))))),
    (ss_cons (ss_if (st_not (st_val (se_call (sa_cons se_nm (sa_cons se_nm (sa_cons se_nm sa_nil)))))) (ss_ret se_bl) ss_nil)
    (ss_ret (se_cb sc_all (sa_cons (se_lcF (si_tup (se_sl sl_T se_nm (sp_some se_int) sp_no)) sg_tup2 st_yes (se_op so_inTD (se_tup (sa_cons (se_sl sl_T se_nm sp_no (sp_some (se_un su_neg se_int))) (sa_cons (se_sl sl_T se_nm sp_no (sp_some (se_un su_neg se_int))) sa_nil))) se_nm)) sa_nil)))), fun ws M R RX hl h => ?_⟩
  obtain ⟨t, u, d, rfl, ⟨ht, hu, hx⟩, h2⟩ := h
  simp only [start0, len_c, len_n, map_c, map_n, app_c, app_n, rep_0, rep_s, Nat.reduceAdd, Nat.reduceSub]
  decreasing_trivial_pre_omega
  refine ⟨t, u, d, rfl, ⟨ht, hu, hx⟩, ?_⟩
  cases c : matB t u d with
  | false =>
    rw [topB_no (fun ⟨ps, e, m, _⟩ => by rw [matB_yes ⟨ps, e, m⟩] at c; cases c)] at h2
    decreasing_trivial_pre_omega
    exact h2
  | true =>
    obtain ⟨ps, rfl, m⟩ := matB_true.mp c
    have hl := m.len
    rw [plc_len ht.tr] at hl
    have := ht.n
    decreasing_trivial_pre_omega
    have hl2 : (ps.drop 1).length ≤ 1000 := by rw [List.length_drop]; omega
    rw [cut_1, ← List.map_drop, mapW, rows1_map]
    refine lc_map (row := fun x => [W.d (pairD x)]) (fun x : PPr => .d (.bool (decide ((x.1.dropLast, x.2.dropLast) ∈ ps)))) trivial (ps.drop 1) [] (fun x hx Rk Rn q => ?_) (by rw [List.length_nil, Nat.zero_add]; exact sz1000 hl2) ?_
    · have e0 := any_pair ps (x.1.dropLast, x.2.dropLast)
      have e1 := eqOk_pairs ps
      generalize ps.map pairD = ds at e0 e1 ⊢
      unfold pairD pathD
      decreasing_trivial_pre_omega
      rw [dropLastD, dropLastD]
      refine ⟨⟨eqOk_pair (x.1.dropLast, x.2.dropLast), e1⟩, ?_⟩
      rw [show PyData.tuple [pathD x.1.dropLast, pathD x.2.dropLast] = pairD (x.1.dropLast, x.2.dropLast) from rfl, e0]
      exact q
    · rw [List.nil_append, show ((ps.drop 1).map fun x => W.d (.bool (decide ((x.1.dropLast, x.2.dropLast) ∈ ps)))) = ((ps.drop 1).map fun x => PyData.bool (decide ((x.1.dropLast, x.2.dropLast) ∈ ps))).map W.d by rw [mapW]]
      refine gDs_i ?_
      decreasing_trivial_pre_omega
      rw [mapW, gBs_map]
      by_cases hst : ∀ x ∈ ps.drop 1, (x.1.dropLast, x.2.dropLast) ∈ ps
      · rw [topB_yes ⟨ps, rfl, m, hst⟩] at h2
        have ea2 : ((ps.drop 1).map fun x => decide ((x.1.dropLast, x.2.dropLast) ∈ ps)).all id = true := by
          rw [List.all_map, List.all_eq_true]
          exact fun d hd => decide_eq_true (hst d hd)
        rw [ea2]
        exact h2
      · rw [topB_no (fun ⟨qs, e, m2, h⟩ => by injection e with e; rw [prs_inj e] at hst; exact hst h)] at h2
        have ea2 : ((ps.drop 1).map fun x => decide ((x.1.dropLast, x.2.dropLast) ∈ ps)).all id = false := by
          cases e : ((ps.drop 1).map fun x => decide ((x.1.dropLast, x.2.dropLast) ∈ ps)).all id with
          | false => rfl
          | true =>
            rw [List.all_map, List.all_eq_true] at e
            exact absurd (fun d hd => of_decide_eq_true (e d hd)) hst
        rw [ea2]
        exact h2
abbrev sChkMat : Stmt := top 46
theorem scChkMat : FnScope ["one", "other", "matching"] ["one", "other", "matching"] (defScope sChkMat) := ⟨rfl, rfl, rfl, by decide +kernel, rfl, by decide +kernel, by decide +kernel⟩
theorem ok_chkMat {f C : Addr} {fd : FuncData} {k j : Nat} (F : Fun K "check_matching" "check_matching" sChkMat f fd) (XNoMatching : ErF K mg "NoMatching" "NoMatching.__init__" "what" sI_NoMatching C) (Uis_matching : Use P w K mg base "is_matching" ["one", "other", "thing"] j (spD K 3 (tfMatB matB))) (hj : j ≤ k) (hk : 2 ≤ k) :
    FnOk P w K mg base (L2.CX P w) (k + 1) f fd ["one", "other", "matching"] (spD K 3 (tfChkMat C)) := by
  obtain ⟨fiNoMatching, fdNoMatching, iNoMatching, tNoMatching, FNoMatching⟩ := XNoMatching.i
  have okNoMatching := okI_NoMatching (P := P) (w := w) (mg := mg) (base := base) (k := 0) FNoMatching XNoMatching.o XNoMatching.n
  have bNoMatching := FNoMatching.binds (ps := ["self", "what"]) fun _ _ _ _ _ _ us hl => match us, hl with | [_, _], _ => rfl
  refine okDX F scChkMat rfl fun cdv A outer s H E hr => ?_
  refine ⟨_, fun RE => _, (pss_one (ps_if (pt_not (pt_val (PE.nox (pe_call Uis_matching.ok (hr.mono (by omega)) rfl Uis_matching.m Uis_matching.kp Uis_matching.b .nil pass0 (pa_cons (pv 0) (pa_cons (pv 1) (pa_cons (pv 2) pa_nil))))))) (pss_one (ps_raise rfl (takes_of (E := E) rfl rfl rfl rfl) (pmk_oex XNoMatching.o iNoMatching tNoMatching okNoMatching (hr.mono (by omega)) bNoMatching .nil pass0 (by exact rfl) XNoMatching.g (pa_cons pe_str pa_nil)))) pss_nil)), fun RE => (ss_if (st_not (st_val (se_call (sa_cons se_nm (sa_cons se_nm (sa_cons se_nm sa_nil)))))) (ss_raiseF (sa_cons se_str sa_nil)) ss_nil), fun ws M R RX hl h => ?_⟩
  obtain ⟨t, u, d, rfl, ⟨ht, hu, hx⟩, h2, h3⟩ := h
  simp only [start0, len_c, len_n, map_c, map_n, app_c, app_n, rep_0, rep_s, Nat.reduceAdd, Nat.reduceSub]
  decreasing_trivial_pre_omega
  refine ⟨t, u, d, rfl, ⟨ht, hu, hx⟩, ?_⟩
  cases c : matB t u d with
  | false =>
    decreasing_trivial_pre_omega
    exact h3 c
  | true =>
    decreasing_trivial_pre_omega
    exact h2 c
abbrev sUnlike : Stmt := top 48
theorem scUnlike : FnScope ["one", "other", "matching", "path", "place"] ["one", "other", "matching"] (defScope sUnlike) := ⟨rfl, rfl, rfl, by decide +kernel, rfl, by decide +kernel, by decide +kernel⟩
theorem ok_unlike {f : Addr} {fd : FuncData} {k j : Nat} (F : Fun K "unlike_pairs" "unlike_pairs" sUnlike f fd) (Upart_at : Use P w K mg base "part_at" ["tree", "path"] j (spD K 2 tfPartAt)) (hj : j ≤ k) (T : Bl mg) : FnOk P w K mg base CX0 (k + 1) f fd ["one", "other", "matching"] (spD K 3 tfUnlike) := by
  refine okD F scUnlike rfl fun cdv A outer s H E hr => ?_
  refine ⟨_, _, (pss_one (ps_ret (pe_lc (own := [("path", 3), ("place", 4)]) (g := gTup K 2 (gCons (gName 3) (gCons (gName 4) gNil))) (by rfl) scUnlike.nd (pi_tup (pv 2)) (blkOk_by (N := ["one", "other", "matching", "path", "place"]) (sc := defScope sUnlike) (own := [("path", 3), ("place", 4)]) (by decide +kernel)) (fun _ _ _ _ _ => (pg_tup rfl (pgs_cons (pg_name (i := 3) scUnlike.nd rfl (Or.inl rfl)) (pgs_cons (pg_name (i := 4) scUnlike.nd rfl (Or.inl rfl)) pgs_nil)))) (fun _ _ _ _ _ => (pts_one (pt_cmpR op_ne (pe_ix ix_tup (pe_call Upart_at.ok (hr.mono (by omega)) rfl Upart_at.m Upart_at.kp Upart_at.b .nil pass0 (pa_cons (pv 0) (pa_cons (pv 3) pa_nil))) pe_int (fun _ _ => rfl)) (pe_ix ix_tup (pe_call Upart_at.ok (hr.mono (by omega)) rfl Upart_at.m Upart_at.kp Upart_at.b .nil pass0 (pa_cons (pv 1) (pa_cons (pv 4) pa_nil))) pe_int (fun _ _ => rfl)) (nomark _)))) (fun _ _ _ _ _ => (pe_tup (pa_cons (pv 3) (pa_cons (pv 4) pa_nil))))))),
    (ss_ret (se_lcF (si_tup se_nm) sg_tup2 (st_test (se_op so_neS (se_op so_ixT (se_call (sa_cons se_nm (sa_cons se_nm sa_nil))) se_int) (se_op so_ixT (se_call (sa_cons se_nm (sa_cons se_nm sa_nil))) se_int))) (se_tup (sa_cons se_nm (sa_cons se_nm sa_nil))))), fun ws M R RX hl h => ?_⟩
  obtain ⟨t, u, ps, rfl, ⟨ht, hu, hps, hl⟩, h2⟩ := h
  simp only [start0, len_c, len_n, map_c, map_n, app_c, app_n, rep_0, rep_s, Nat.reduceAdd, Nat.reduceSub]
  decreasing_trivial_pre_omega
  rw [mapW, rows1_map]
  refine lc_filter (row := fun x => [W.d (pairD x)]) (fun x : PPr => !@decide (tagAt t x.1 = tagAt u x.2) (Classical.propDecidable _)) (fun x => .d (pairD x)) trivial _ [] (fun x hx Rk Rn q1 q2 => ?_) (by simp; exact sz1000 (by omega)) ?_
  · obtain ⟨h1, h3⟩ := hps x hx
    obtain ⟨e, he⟩ := plc_sub ht.tr _ h1
    obtain ⟨e', he'⟩ := plc_sub hu.tr _ h3
    obtain ⟨s0, ks, rfl, _⟩ := node_at ht.tr he
    obtain ⟨s1, ks1, rfl, _⟩ := node_at hu.tr he'
    have t1 : tagAt t x.1 = .str s0 := by unfold tagAt; rw [he]
    have t2 : tagAt u x.2 = .str s1 := by unfold tagAt; rw [he']
    rw [t1, t2] at q1 q2
    obtain ⟨i0, _⟩ := at2 (a := PyData.str s0) (b := .tuple ks)
    obtain ⟨i1, _⟩ := at2 (a := PyData.str s1) (b := .tuple ks1)
    unfold pairD at q1 ⊢
    decreasing_trivial_pre_omega
    refine ⟨t, x.1, 12, rfl, ht.tr, ?_⟩
    rw [he]
    rw [show ∀ e, optP (some e) = e from fun _ => rfl]
    decreasing_trivial_pre_omega
    refine ⟨u, x.2, 12, rfl, hu.tr, ?_⟩
    rw [he', show ∀ e, optP (some e) = e from fun _ => rfl]
    decreasing_trivial_pre_omega
    refine IfB.d (fun c => ?_) (fun c => ?_)
    · exact q2 (by rw [c]; simp)
    · have := q1 (by simpa using c)
      decreasing_trivial_pre_omega
      exact this
  · rw [List.nil_append, show ((ps.filter fun x => !@decide (tagAt t x.1 = tagAt u x.2) (Classical.propDecidable _)).map fun x => W.d (pairD x)) = ((ps.filter fun x => !@decide (tagAt t x.1 = tagAt u x.2) (Classical.propDecidable _)).map pairD).map W.d by rw [mapW]]
    refine gDs_i ?_
    exact h2 _ (by rw [List.length_map]; rfl)
@[reducible] def tfCostOf (C : Addr) : TF := fun ws M R RX => ∃ t u d a b c, ws = [.d t, .d u, .d (.tuple [.int a, .int b, .int c]), .d d] ∧ (Tr2 t ∧ Tr2 u ∧ txt d = true ∧ costsB (.tuple [.int a, .int b, .int c]) = true) ∧ (∀ ps : List PPr, d = .tuple (ps.map pairD) → Mat t u ps → R (.d (.int (a * (unlikeN t u ps : Nat) + b * ((nn t : Nat) - (ps.length : Nat)) + c * ((nn u : Nat) - (ps.length : Nat))))) M) ∧ (matB t u d = false → RX ⟨.ref C, [("what", .str "matching")]⟩ M)
abbrev sCostOf : Stmt := top 47
theorem scCostOf : FnScope ["one", "other", "costs", "matching", "name", "out", "into", "unpaired", "others_unpaired"] ["one", "other", "costs", "matching"] (defScope sCostOf) := ⟨rfl, rfl, rfl, by decide +kernel, rfl, by decide +kernel, by decide +kernel⟩
theorem ok_costOf {f CT CM CN : Addr} {fd : FuncData} {k j : Nat} (F : Fun K "cost_of" "cost_of" sCostOf f fd) (XNoCosts : ErF K mg "NoCosts" "NoCosts.__init__" "what" sI_NoCosts CN) (Ucheck_tree : UseX P w K mg base "check_tree" ["thing"] j (spD K 1 (tfChk isTreeD CT))) (Uis_costs : Use P w K mg base "is_costs" ["thing"] j (spD K 1 (tfB costsB))) (Ucheck_matching : UseX P w K mg base "check_matching" ["one", "other", "matching"] j (spD K 3 (tfChkMat CM))) (Ucount_places : Use P w K mg base "count_places" ["tree"] j (spD K 1 (tfN nn 12))) (Uunlike_pairs : Use P w K mg base "unlike_pairs" ["one", "other", "matching"] j (spD K 3 tfUnlike)) (hj : j ≤ k) (hk : 2 ≤ k) (T : Bl mg) :
    FnOk P w K mg base (L2.CX P w) (k + 1) f fd ["one", "other", "costs", "matching"] (spD K 4 (tfCostOf CM)) := by
  obtain ⟨fiNoCosts, fdNoCosts, iNoCosts, tNoCosts, FNoCosts⟩ := XNoCosts.i
  have okNoCosts := okI_NoCosts (P := P) (w := w) (mg := mg) (base := base) (k := 0) FNoCosts XNoCosts.o XNoCosts.n
  have bNoCosts := FNoCosts.binds (ps := ["self", "what"]) fun _ _ _ _ _ _ us hl => match us, hl with | [_, _], _ => rfl
  refine okDX F scCostOf rfl fun cdv A outer s H E hr => ?_
  refine ⟨_, fun RE => _, (pss_cons (ps_expr (pe_callS Ucheck_tree.ok (hr.mono (by omega)) rfl Ucheck_tree.m Ucheck_tree.kp Ucheck_tree.b (fun σ => passAt (takes_of (E := E) rfl rfl rfl rfl) σ) (pa_cons (pv 0) pa_nil)))
    (pss_cons (ps_expr (pe_callS Ucheck_tree.ok (hr.mono (by omega)) rfl Ucheck_tree.m Ucheck_tree.kp Ucheck_tree.b (fun σ => passAt (takes_of (E := E) rfl rfl rfl rfl) σ) (pa_cons (pv 1) pa_nil)))
    (pss_cons (ps_if (pt_not (pt_val (PE.nox (pe_call Uis_costs.ok (hr.mono (by omega)) rfl Uis_costs.m Uis_costs.kp Uis_costs.b .nil pass0 (pa_cons (pv 2) pa_nil))))) (pss_one (ps_raise rfl (takes_of (E := E) rfl rfl rfl rfl) (pmk_oex XNoCosts.o iNoCosts tNoCosts okNoCosts (hr.mono (by omega)) bNoCosts .nil pass0 (by exact rfl) XNoCosts.g (pa_cons pe_str pa_nil)))) pss_nil)
    (pss_cons (ps_expr (pe_callS Ucheck_matching.ok (hr.mono (by omega)) rfl Ucheck_matching.m Ucheck_matching.kp Ucheck_matching.b (fun σ => passAt (takes_of (E := E) rfl rfl rfl rfl) σ) (pa_cons (pv 0) (pa_cons (pv 1) (pa_cons (pv 3) pa_nil)))))
    (pss_cons (ps_asg (pv 2) (pg_tup rfl (pgs_cons (pg_name (i := 4) scCostOf.nd rfl (.inl rfl)) (pgs_cons (pg_name (i := 5) scCostOf.nd rfl (.inl rfl)) (pgs_cons (pg_name (i := 6) scCostOf.nd rfl (.inl rfl)) pgs_nil)))))
    (pss_cons (ps_par (i := 7) (j := 8) (by rfl) scCostOf.nd rfl rfl (by decide) rfl rfl (pa_cons (pe_op op_sub (PE.nox (pe_call Ucount_places.ok (hr.mono (by omega)) rfl Ucount_places.m Ucount_places.kp Ucount_places.b .nil pass0 (pa_cons (pv 0) pa_nil))) (pe_callB call_len_seq (by rfl) T.len PySem.boot_len (pa_cons (pv 3) pa_nil))) (pa_cons (pe_op op_sub (PE.nox (pe_call Ucount_places.ok (hr.mono (by omega)) rfl Ucount_places.m Ucount_places.kp Ucount_places.b .nil pass0 (pa_cons (pv 1) pa_nil))) (pe_callB call_len_seq (by rfl) T.len PySem.boot_len (pa_cons (pv 3) pa_nil))) pa_nil)) (by rfl))
    (pss_one (ps_ret (pe_op op_add (pe_op op_add (pe_op op_mul (pv 4) (pe_callB call_len_seq (by rfl) T.len PySem.boot_len (pa_cons (PE.nox (pe_call Uunlike_pairs.ok (hr.mono (by omega)) rfl Uunlike_pairs.m Uunlike_pairs.kp Uunlike_pairs.b .nil pass0 (pa_cons (pv 0) (pa_cons (pv 1) (pa_cons (pv 3) pa_nil))))) pa_nil))) (pe_op op_mul (pv 5) (pv 7))) (pe_op op_mul (pv 6) (pv 8))))))))))), fun RE => (ss_cons (ss_drop (se_callX (sa_cons se_nm sa_nil)))
    (ss_cons (ss_drop (se_callX (sa_cons se_nm sa_nil)))
    (ss_cons (ss_if (st_not (st_val (se_call (sa_cons se_nm sa_nil)))) (ss_raiseF (sa_cons se_str sa_nil)) ss_nil)
    (ss_cons (ss_drop (se_callX (sa_cons se_nm (sa_cons se_nm (sa_cons se_nm sa_nil)))))
    (ss_cons (ss_unp sg_tup3 se_nm)
    (ss_cons (ss_par (sa_cons (se_op so_sub (se_call (sa_cons se_nm sa_nil)) (se_cb sc_len (sa_cons se_nm sa_nil))) (sa_cons (se_op so_sub (se_call (sa_cons se_nm sa_nil)) (se_cb sc_len (sa_cons se_nm sa_nil))) sa_nil)))
    (ss_ret (se_op so_add (se_op so_add (se_op so_mul se_nm (se_cb sc_len (sa_cons (se_call (sa_cons se_nm (sa_cons se_nm (sa_cons se_nm sa_nil)))) sa_nil))) (se_op so_mul se_nm se_nm)) (se_op so_mul se_nm se_nm))))))))), fun ws M R RX hl h => ?_⟩
  obtain ⟨t, u, d, a, b, c, rfl, ⟨ht, hu, hx, hc⟩, h2, h3⟩ := h
  have yt := ht.is
  have yu := hu.is
  have xt := ht.txt
  have xu := hu.txt
  have nt := ht.n
  have nu := hu.n
  have rt := ht.tr
  have ru := hu.tr
  simp only [start0, len_c, len_n, map_c, map_n, app_c, app_n, rep_0, rep_s, Nat.reduceAdd, Nat.reduceSub]
  decreasing_trivial_pre_omega
  refine ⟨fun _ => ?_, fun c => (by rw [yt] at c; cases c)⟩
  decreasing_trivial_pre_omega
  refine ⟨fun _ => ?_, fun c => (by rw [yu] at c; cases c)⟩
  decreasing_trivial_pre_omega
  refine ⟨t, u, d, rfl, ⟨ht, hu, hx⟩, fun hm => ?_, h3⟩
  obtain ⟨ps, rfl, m⟩ := matB_true.mp hm
  have h2 := h2 ps rfl m
  have hl := m.len
  rw [plc_len ht.tr] at hl
  have hat := m.at_
  decreasing_trivial_pre_omega
  refine ⟨t, u, ps, rfl, ⟨ht, hu, hat, by omega⟩, fun ds hds => ?_⟩
  unfold costsB isCost at hc
  simp at hc
  have cm : ∀ {x y : Int}, 1 ≤ x → x ≤ 100 → CMul x y := fun h1 h2 => .inl ⟨by omega, by omega⟩
  decreasing_trivial_pre_omega
  refine ⟨cm hc.1.1 hc.1.2, ?_⟩
  decreasing_trivial_pre_omega
  refine ⟨cm hc.2.1.1 hc.2.1.2, ?_⟩
  decreasing_trivial_pre_omega
  refine ⟨cm hc.2.2.1 hc.2.2.2, ?_⟩
  decreasing_trivial_pre_omega
  rw [List.length_map, List.length_map, hds]
  exact h2
end
end Tl
set_option Elab.async false
set_option linter.all false
set_option maxRecDepth 100000
set_option maxHeartbeats 8000000
namespace Tl
open PySem L2 RZ
local macro_rules
  | `(tactic| decreasing_trivial) => `(tactic| ((with_reducible (conv => whnf)); (repeat ((first | (with_reducible refine gDs_c ?_) | (with_reducible refine gDs_n ?_) | (with_reducible refine gNs_c ?_) | (with_reducible refine gNs_n ?_) | (with_reducible refine gO_i tyAny_lt ?_) | (with_reducible refine gIs_c ?_) | (with_reducible refine gIs_n ?_) | (with_reducible refine gBs_c ?_) | (with_reducible refine gBs_n ?_) | (with_reducible refine gSs_c ?_) | (with_reducible refine gSs_n ?_) | (with_reducible refine gO_i tyIs_int ?_) | (with_reducible refine gO_i tyIs_bool ?_) | (with_reducible refine gO_i tyIs_str ?_) | (with_reducible refine gO_i tyIs_tuple ?_) | (with_reducible refine gO_i tyIs_list ?_) | (with_reducible refine gDs_i ?_) | (with_reducible refine gO_i (Eq.refl _) ?_) | (with_reducible refine gO_i (by assumption) ?_) | (with_reducible refine gO_i at_0 ?_) | (with_reducible refine gO_i at_m0 ?_) | (with_reducible refine gO_i at_1 ?_) | (with_reducible refine gO_i at_m1 ?_) | (with_reducible refine gO_i at_2 ?_) | (with_reducible refine gO_i at_m2 ?_) | (with_reducible refine gO_i at_3 ?_) | (with_reducible refine gO_i at_m3 ?_) | (with_reducible refine gO_i at_4 ?_) | (with_reducible refine gO_i at_m4 ?_) | (with_reducible refine gO_i at_5 ?_) | (with_reducible refine gO_i at_m5 ?_) | (with_reducible refine gO_i at_6 ?_) | (with_reducible refine gO_i at_m6 ?_) | (with_reducible refine gO_i at_7 ?_) | (with_reducible refine gO_i at_m7 ?_) | (with_reducible refine IfB.ngf ?_) | (with_reducible refine IfB.ngt ?_) | (with_reducible refine IfB.not ?_) | (with_reducible refine IfB.nil ?_) | (with_reducible refine IfB.nilT ?_) | (with_reducible refine IfB.f isE_c ?_) | (with_reducible refine IfB.t isE_n ?_) | (with_reducible refine IfB.t ?gha ?_; (case gha => rfl)) | (with_reducible refine IfB.f ?gha ?_; (case gha => rfl)) | (with_reducible refine IfB.t ?gha ?_; (case gha => assumption)) | (with_reducible refine IfB.f ?gha ?_; (case gha => assumption)) | (with_reducible refine IfB.yes (Eq.refl _) ?_) | (with_reducible refine IfB.yes ?gha ?_; (case gha => (first | omega | (simp only [len_c, len_n, List.length_map]; omega)))) | (with_reducible refine IfB.no ?gha ?_; (case gha => (first | omega | (simp only [len_c, len_n, List.length_map]; omega)))) | (with_reducible refine IfB.t ?gha ?_; (case gha => decide +kernel)) | (with_reducible refine IfB.f ?gha ?_; (case gha => decide +kernel))); (with_reducible (conv => whnf))))))
local macro_rules
  | `(tactic| decreasing_trivial_pre_omega) => `(tactic| (decreasing_trivial; (repeat ((first | ((with_reducible refine And.intro ?gha ?_); (case gha => (first | assumption | omega | exact rfl | (exact mset_same) | (exact ⟨_, mset_same⟩) | (exact Exists.intro _ (by first | exact mset_same | assumption | (rw [mset_ne (by assumption)]; first | exact mset_same | assumption))) | (exact sm_of (by omega) (by omega)) | (exact sz1000 (by first | omega | (simp; done) | (simp; omega))) | (exact Or.inl ⟨by decide, by decide⟩) | decide | (simp; done) | (refine ⟨?_, ?_⟩ <;> (first | assumption | omega | exact rfl | (exact mset_same) | (exact ⟨_, mset_same⟩) | (exact Exists.intro _ (by first | exact mset_same | assumption | (rw [mset_ne (by assumption)]; first | exact mset_same | assumption))) | (exact sm_of (by omega) (by omega)) | (exact sz1000 (by first | omega | (simp; done) | (simp; omega))) | (exact Or.inl ⟨by decide, by decide⟩) | decide | (simp; done))) | (refine ⟨?_, ?_, ?_⟩ <;> (first | assumption | omega | exact rfl | (exact mset_same) | (exact ⟨_, mset_same⟩) | (exact Exists.intro _ (by first | exact mset_same | assumption | (rw [mset_ne (by assumption)]; first | exact mset_same | assumption))) | (exact sm_of (by omega) (by omega)) | (exact sz1000 (by first | omega | (simp; done) | (simp; omega))) | (exact Or.inl ⟨by decide, by decide⟩) | decide | (simp; done))) | (refine ⟨?_, ?_, ?_, ?_⟩ <;> (first | assumption | omega | exact rfl | (exact mset_same) | (exact ⟨_, mset_same⟩) | (exact Exists.intro _ (by first | exact mset_same | assumption | (rw [mset_ne (by assumption)]; first | exact mset_same | assumption))) | (exact sm_of (by omega) (by omega)) | (exact sz1000 (by first | omega | (simp; done) | (simp; omega))) | (exact Or.inl ⟨by decide, by decide⟩) | decide | (simp; done)))))) | (with_reducible refine exW (by first | exact mset_same | assumption | (rw [mset_ne (by assumption)]; first | exact mset_same | assumption)) ?_)); decreasing_trivial))))
/-- a row of numbers -/
def rowK (f : PyData → PyData → Int) (ks ls : List PyData) (i m : Nat) : List W := (List.range m).map fun j => W.d (.int (lD f ks ls i j))
theorem rowK_len (f : PyData → PyData → Int) (ks ls : List PyData) (i m : Nat) : (rowK f ks ls i m).length = m := by
  unfold rowK
  rw [List.length_map, List.length_range]
theorem rowK_get {f : PyData → PyData → Int} {ks ls : List PyData} {i m j : Nat} (h : j < m) : (rowK f ks ls i m)[j]? = some (.d (.int (lD f ks ls i j))) := by
  unfold rowK
  rw [List.getElem?_map, List.getElem?_range h]
  rfl
theorem rowK_at {f : PyData → PyData → Int} {ks ls : List PyData} {i m j : Nat} {x : Int} (h : j < m) (e : x = (j : Nat)) : atI (rowK f ks ls i m) x = some (.d (.int (lD f ks ls i j))) := by
  rw [e]
  exact atI_nat (rowK_get h)
theorem rowK_last {f : PyData → PyData → Int} {ks ls : List PyData} {i m : Nat} : atI (rowK f ks ls i (m + 1)) (-1) = some (.d (.int (lD f ks ls i m))) := by
  have e : ixN (m + 1) (-1) = some m := by
    unfold ixN
    rw [if_neg (by omega), if_pos (by omega)]
    congr 1
    omega
  unfold atI
  rw [rowK_len, e]
  exact rowK_get (Nat.lt_succ_self m)
theorem rowK_next (f : PyData → PyData → Int) (ks ls : List PyData) (i m : Nat) : rowK f ks ls i m ++ [.d (.int (lD f ks ls i m))] = rowK f ks ls i (m + 1) := by
  unfold rowK
  rw [List.range_succ, List.map_append]
  rfl
theorem lD_0 (f : PyData → PyData → Int) (ks ls : List PyData) (i : Nat) : lD f ks ls i 0 = (nnAll (ks.take i) : Nat) := by
  cases i with
  | zero => rw [lD, List.take_zero, List.take_zero]
  | succ i => rw [lD]
@[reducible] def tfTopL (n : Nat) : TF := fun ws M R _ => ∃ (t u : PyData) (m : Nat), ws = [.d t, .d u] ∧ (TrT n t ∧ TrT m u ∧ n ≤ 12 ∧ m ≤ 12 ∧ nn t ≤ 60 ∧ nn u ≤ 60) ∧ R (.d (.int (tD n t u))) M
section
variable {P : Program} {w : World} {K : PySem.W.Frag} {mg : Str → Option Value} {base : Heap}
abbrev sSizeL : Stmt := top 59
theorem scSizeL : FnScope ["_law_tree_here", "_law_kid"] ["_law_tree_here"] (defScope sSizeL) := ⟨rfl, rfl, rfl, by decide +kernel, rfl, by decide +kernel, by decide +kernel⟩
theorem ok_sizeL1 {f : Addr} {fd : FuncData} {n : Nat} (F : Fun K "_law_size" "_law_size" sSizeL f fd) (U_law_size : Use P w K mg base "_law_size" ["_law_tree_here"] n (spD K 1 (tfN nn n))) (T : Bl mg) (mS : mg "sum" = none) :
    FnOk P w K mg base CX0 (n + 1) f fd ["_law_tree_here"] (spD K 1 (tfN nn (n + 1))) := by
  refine okD F scSizeL rfl fun cdv A outer s H E hr => ?_
  refine ⟨_, _, (pss_one (ps_ret (pe_op op_add pe_int (pe_callB (cr_sum rfl) (by rfl) mS PyProof.Rows.boot_sum (pa_cons (pe_lc (own := [("_law_kid", 1)]) (g := gName 1) (tt := tYes) (by rfl) scSizeL.nd (pi_tup (pe_ix ix_tup (pv 0) pe_int (fun _ _ => rfl))) (blkOk_by (N := ["_law_tree_here", "_law_kid"]) (sc := defScope sSizeL) (own := [("_law_kid", 1)]) (by decide +kernel)) (fun _ _ _ _ _ => pg_name (i := 1) scSizeL.nd rfl (Or.inl rfl)) (fun _ _ _ _ _ => pts_nil) (fun _ _ _ _ _ => (pe_call U_law_size.ok (hr.mono (by omega)) rfl U_law_size.m U_law_size.kp U_law_size.b .nil pass0 (pa_cons (pv 1) pa_nil)))) pa_nil))))),
    (ss_ret (se_op so_add se_int (se_cb sc_sum (sa_cons (se_lcF (si_tup (se_op so_ixT se_nm se_int)) sg_name st_yes (se_call (sa_cons se_nm sa_nil))) sa_nil)))), fun ws M R RX hl h => ?_⟩
  obtain ⟨x, rfl, h1⟩ := g1_of h
  obtain ⟨d, rfl, ⟨ht, hn⟩, h2⟩ := gD_of h1
  obtain ⟨s0, ks, rfl, hs, hk⟩ := ht
  rw [nn] at hn h2
  have hl := len_nn ks
  simp only [start0, len_c, len_n, map_c, map_n, app_c, app_n, rep_0, rep_s, Nat.reduceAdd, Nat.reduceSub]
  decreasing_trivial
  refine lc1F (k := fun _ => True) (b := bName 1) (fun k => .int (nn k : Nat)) trivial (fun k hm Rk q => ?_) (sz1000 (by omega)) ?_
  · have := nn_mem hm
    decreasing_trivial
    exact ⟨⟨hk k hm, by omega⟩, q⟩
  · show gIs (((ks.map fun k => PyData.int (nn k : Nat))).map W.d) _
    rw [List.map_map]
    show gIs (ks.map fun k => W.d (.int (nn k : Nat))) _
    rw [gIs_map, nnAll_map]
    have e : (1 : Int) + ((nnAll ks : Nat) : Int) = ((1 + nnAll ks : Nat) : Int) := by omega
    show R (.d (.int (1 + ((nnAll ks : Nat) : Int)))) M
    rw [e]
    exact h2
theorem ok_sizeL {f : Addr} {fd : FuncData} (F : Fun K "_law_size" "_law_size" sSizeL f fd) (mF : mg "_law_size" = some (.ref f)) (T : Bl mg) (mS : mg "sum" = none) : ∀ n, FnOk P w K mg base CX0 n f fd ["_law_tree_here"] (spD K 1 (tfN nn n))
  | 0 => no0 no_tfN
  | n + 1 => ok_sizeL1 F ⟨f, fd, ok_sizeL F mF T mS n, mF, F.kp, F.binds (ps := ["_law_tree_here"]) fun _ _ _ _ _ _ us hl => match us, hl with | [_], _ => rfl⟩ T mS
abbrev sTopL : Stmt := top 60
theorem scTopL : FnScope ["_law_one", "_law_other", "_law_ahead", "_law_beside", "_law_kid", "_law_kids", "_law_others", "_law_size_here", "_law_row", "_law_k", "_law_both"] ["_law_one", "_law_other"] (defScope sTopL) := ⟨rfl, rfl, rfl, by decide +kernel, rfl, by decide +kernel, by decide +kernel⟩
theorem ok_topL1 {f : Addr} {fd : FuncData} {n j : Nat} (F : Fun K "_law_top" "_law_top" sTopL f fd) (U_law_top : Use P w K mg base "_law_top" ["_law_one", "_law_other"] (j + n) (spD K 2 (tfTopL n))) (U_law_size : Use P w K mg base "_law_size" ["_law_tree_here"] j (spD K 1 (tfN nn 12))) (T : Bl mg) (mMin : mg "min" = none) :
    FnOk P w K mg base CX0 (j + n + 1) f fd ["_law_one", "_law_other"] (spD K 2 (tfTopL (n + 1))) := by
  refine okDL F scTopL rfl fun cdv A outer s H E hr => ?_
  refine ⟨_, _, (pss_cons (ps_par (i := 5) (j := 6) (by rfl) scTopL.nd rfl rfl (by decide) rfl rfl (pa_cons (pe_ix ix_tup (pv 0) pe_int (fun _ _ => rfl)) (pa_cons (pe_ix ix_tup (pv 1) pe_int (fun _ _ => rfl)) pa_nil)) (by rfl))
    (pss_cons (ps_set (i := 2) scTopL.nd rfl (.inl rfl) (pe_lst (pa_cons pe_int pa_nil)))
    (pss_cons (ps_for PassesOwn.never rfl (pi_tup (pv 6)) (pg_name (i := 3) scTopL.nd rfl (.inl rfl)) (pss_one (ps_expr (pe_bm PySem.F.plainAttrs_list PySem.F.slot_list_append PySem.F.type_list_append mt_append (pv 2) (pa_cons (pe_op op_add (pe_ix ix_list (pv 2) (pe_un un_neg pe_int) (fun _ _ => rfl)) (pe_call U_law_size.ok (hr.mono (by omega)) rfl U_law_size.m U_law_size.kp U_law_size.b .nil pass0 (pa_cons (pv 3) pa_nil))) pa_nil)))))
    (pss_cons (ps_for PassesOwn.never rfl (pi_tup (pv 5)) (pg_name (i := 4) scTopL.nd rfl (.inl rfl)) (pss_cons (ps_set (i := 7) scTopL.nd rfl (.inl rfl) (pe_call U_law_size.ok (hr.mono (by omega)) rfl U_law_size.m U_law_size.kp U_law_size.b .nil pass0 (pa_cons (pv 4) pa_nil)))
      (pss_cons (ps_set (i := 8) scTopL.nd rfl (.inl rfl) (pe_lst (pa_cons (pe_op op_add (pe_ix ix_list (pv 2) pe_int (fun _ _ => rfl)) (pv 7)) pa_nil)))
      (pss_cons (ps_for PassesOwn.never rfl (pi_range1 (by rfl) T.range (pa_cons (pe_callB call_len_seq (by rfl) T.len PySem.boot_len (pa_cons (pv 6) pa_nil)) pa_nil)) (pg_name (i := 9) scTopL.nd rfl (.inl rfl)) (pss_cons (ps_set (i := 10) scTopL.nd rfl (.inl rfl) (pe_op op_add (pe_ix ix_list (pv 2) (pv 9) (fun _ _ => rfl)) (pe_call U_law_top.ok (hr.mono (by omega)) rfl U_law_top.m U_law_top.kp U_law_top.b .nil pass0 (pa_cons (pv 4) (pa_cons (pe_ix ix_tup (pv 6) (pv 9) (fun _ _ => rfl)) pa_nil)))))
        (pss_one (ps_expr (pe_bm PySem.F.plainAttrs_list PySem.F.slot_list_append PySem.F.type_list_append mt_append (pv 8) (pa_cons (pe_callB (call_min3Nu rfl) (by rfl) mMin PyProof.Rows.boot_min (pa_cons (pe_op op_add (pe_ix ix_list (pv 2) (pe_op op_add (pv 9) pe_int) (fun _ _ => rfl)) (pv 7)) (pa_cons (pe_op op_add (pe_ix ix_list (pv 8) (pv 9) (fun _ _ => rfl)) (pe_call U_law_size.ok (hr.mono (by omega)) rfl U_law_size.m U_law_size.kp U_law_size.b .nil pass0 (pa_cons (pe_ix ix_tup (pv 6) (pv 9) (fun _ _ => rfl)) pa_nil))) (pa_cons (pv 10) pa_nil)))) pa_nil))))))
      (pss_one (ps_set (i := 2) scTopL.nd rfl (.inl rfl) (pv 8)))))))
    (pss_one (ps_ret (pe_op op_add (pe_ix ix_list (pv 2) (pe_un un_neg pe_int) (fun _ _ => rfl)) (pe_callTy call_int1 (by rfl) T.int PyProof.Rows.boot_int (pa_cons (pe_cmpR op_ne (pe_ix ix_tup (pv 0) pe_int (fun _ _ => rfl)) (pe_ix ix_tup (pv 1) pe_int (fun _ _ => rfl)) (nomark _)) pa_nil))))))))),
    (ss_cons (ss_par (sa_cons (se_op so_ixT se_nm se_int) (sa_cons (se_op so_ixT se_nm se_int) sa_nil)))
    (ss_cons (ss_set (se_lst (sa_cons se_int sa_nil)))
    (ss_cons (ss_for (si_tup se_nm) sg_name (ss_drop (se_bmL sm_append se_nm (sa_cons (se_op so_add (se_op so_ixL se_nm (se_un su_neg se_int)) (se_call (sa_cons se_nm sa_nil))) sa_nil))))
    (ss_cons (ss_for (si_tup se_nm) sg_name (ss_cons (ss_set (se_call (sa_cons se_nm sa_nil)))
      (ss_cons (ss_set (se_lst (sa_cons (se_op so_add (se_op so_ixL se_nm se_int) se_nm) sa_nil)))
      (ss_cons (ss_for (si_r1 (sa_cons (se_cb sc_len (sa_cons se_nm sa_nil)) sa_nil)) sg_name (ss_cons (ss_set (se_op so_add (se_op so_ixL se_nm se_nm) (se_call (sa_cons se_nm (sa_cons (se_op so_ixT se_nm se_nm) sa_nil)))))
        (ss_drop (se_bmL sm_append se_nm (sa_cons (se_cb sc_min3 (sa_cons (se_op so_add (se_op so_ixL se_nm (se_op so_add se_nm se_int)) se_nm) (sa_cons (se_op so_add (se_op so_ixL se_nm se_nm) (se_call (sa_cons (se_op so_ixT se_nm se_nm) sa_nil))) (sa_cons se_nm sa_nil)))) sa_nil)))))
      (ss_set se_nm)))))
    (ss_ret (se_op so_add (se_op so_ixL se_nm (se_un su_neg se_int)) (se_cb sc_int (sa_cons (se_op so_neS (se_op so_ixT se_nm se_int) (se_op so_ixT se_nm se_int)) sa_nil)))))))), fun ws M R RX hl h => ?_⟩
  obtain ⟨t, u, m, rfl, ⟨ht, hu, hn, hm, nt, nu⟩, h2⟩ := h
  obtain ⟨s1, ks, rfl, _, hk⟩ := ht
  cases m with
  | zero => exact hu.elim
  | succ m =>
    obtain ⟨s2, ls, rfl, _, hl⟩ := hu
    rw [nn] at nt nu
    have kl : ks.length ≤ 60 := Nat.le_trans (len_nn ks) (by omega)
    have ll : ls.length ≤ 60 := Nat.le_trans (len_nn ls) (by omega)
    simp only [start0, len_c, len_n, map_c, map_n, app_c, app_n, rep_0, rep_s, Nat.reduceAdd, Nat.reduceSub]
    decreasing_trivial_pre_omega
    intro p hp
    have e0 : [W.d (PyData.int 0)] = rowK (tD n) ks ls 0 1 := by
      unfold rowK
      rw [List.range_one, List.map_singleton, lD, List.take_zero, nnAll]
      rfl
    rw [e0]
    decreasing_trivial_pre_omega
    refine for1 (fun i ρ M' => M' = mset M p (.lst (rowK (tD n) ks ls 0 (i + 1))) ∧ ∃ y3, ρ = [some (W.d (PyData.tuple [PyData.str s1, PyData.tuple ks])), some (W.d (PyData.tuple [PyData.str s2, PyData.tuple ls])), some (.r p), y3, none, some (W.d (PyData.tuple ks)), some (W.d (PyData.tuple ls)), none, none, none, none]) ⟨rfl, _, rfl⟩ (fun _ _ _ _ _ => trivial) (fun i b ρ M' N hb q hN => ?_) (fun ρ M' q => ?_)
    · obtain ⟨rfl, y3, rfl⟩ := q
      have hi := (List.getElem?_eq_some_iff.mp hb).1
      have tb : TrT 12 b := (hl b (List.mem_of_getElem? hb)).mono (by omega)
      have nb : nn b ≤ nnAll ls := nn_mem (List.mem_of_getElem? hb)
      have g1 : atI (rowK (tD n) ks ls 0 (i + 1)) (-1) = some (.d (.int (lD (tD n) ks ls 0 i))) := rowK_last
      have lr := rowK_len (tD n) ks ls 0 (i + 1)
      have eN := rowK_next (tD n) ks ls 0 (i + 1)
      have eC : lD (tD n) ks ls 0 (i + 1) = lD (tD n) ks ls 0 i + (nn b : Nat) := by
        rw [lD, lD, take_nn hb]
        omega
      rw [eC] at eN
      decreasing_trivial_pre_omega
      dsimp only
      rw [eN, mset_mset]
      exact hN _ _ ⟨rfl, _, rfl⟩
    · obtain ⟨rfl, y3, rfl⟩ := q
      decreasing_trivial_pre_omega
      have e1 : mset M p (MO.lst (rowK (tD n) ks ls 0 (ls.length + 1))) p = some (.lst (rowK (tD n) ks ls 0 (ls.length + 1))) := mset_same
      have k0 : ∀ b u, M b = some u → mset M p (MO.lst (rowK (tD n) ks ls 0 (ls.length + 1))) b = some u := fun b u e => by rw [mset_ne (fun z => by rw [z, hp] at e; cases e)]; exact e
      generalize mset M p (MO.lst (rowK (tD n) ks ls 0 (ls.length + 1))) = M1 at e1 k0 ⊢
      refine for1 (fun i ρ M' => (∀ b u, M b = some u → M' b = some u) ∧ ∃ a y3 y4 y7 y8 y9 y10, ρ = [some (W.d (PyData.tuple [PyData.str s1, PyData.tuple ks])), some (W.d (PyData.tuple [PyData.str s2, PyData.tuple ls])), some (.r a), y3, y4, some (W.d (PyData.tuple ks)), some (W.d (PyData.tuple ls)), y7, y8, y9, y10] ∧ M' a = some (.lst (rowK (tD n) ks ls i (ls.length + 1)))) ⟨k0, p, _, _, _, _, _, _, rfl, e1⟩ (fun _ _ _ _ _ => trivial) (fun i kd ρ M' N hy q hN => ?_) (fun ρ M' q => ?_)
      · obtain ⟨kk, a, z3, z4, z7, z8, z9, z10, rfl, ha⟩ := q
        have hkd := hk kd (List.mem_of_getElem? hy)
        have nkd : nn kd ≤ nnAll ks := nn_mem (List.mem_of_getElem? hy)
        have tkd : TrT 12 kd := hkd.mono (by omega)
        have g0 : atI (rowK (tD n) ks ls i (ls.length + 1)) 0 = some (.d (.int (lD (tD n) ks ls i 0))) := rowK_at (Nat.zero_lt_succ _) rfl
        decreasing_trivial_pre_omega
        intro p1 hp1
        have ap : a ≠ p1 := fun z => by rw [z, hp1] at ha; cases ha
        have e2 : [W.d ((fun a b => PyData.int (a + b)) (lD (tD n) ks ls i 0) (nn kd : Nat))] = rowK (tD n) ks ls (i + 1) 1 := by
          have ex : lD (tD n) ks ls i 0 + (nn kd : Nat) = lD (tD n) ks ls (i + 1) 0 := by
            rw [lD_0, lD_0, take_nn hy]
            omega
          dsimp only
          rw [ex]
          rfl
        rw [e2]
        decreasing_trivial_pre_omega
        rw [show ((ls.length : Nat) : Int).toNat = ls.length from rfl]
        refine forR (n := ls.length) (fun j ρ M2 => M2 = mset M' p1 (.lst (rowK (tD n) ks ls (i + 1) (j + 1))) ∧ ∃ y9 y10, ρ = [some (W.d (PyData.tuple [PyData.str s1, PyData.tuple ks])), some (W.d (PyData.tuple [PyData.str s2, PyData.tuple ls])), some (.r a), z3, some (W.d kd), some (W.d (PyData.tuple ks)), some (W.d (PyData.tuple ls)), some (W.d (.int (nn kd : Nat))), some (.r p1), y9, y10]) ⟨rfl, _, _, rfl⟩ (fun _ _ _ _ _ => trivial) (fun j ρ M2 N2 hj q hN2 => ?_) (fun ρ M2 q => ?_)
        · obtain ⟨rfl, y9, y10, rfl⟩ := q
          rw [Int.zero_add]
          obtain ⟨ld, hy2⟩ : ∃ l, ls[j]? = some l := ⟨_, List.getElem?_eq_getElem hj⟩
          have hld := hl ld (List.mem_of_getElem? hy2)
          have nld : nn ld ≤ nnAll ls := nn_mem (List.mem_of_getElem? hy2)
          have tld : TrT 12 ld := hld.mono (by omega)
          have g1 : atI (rowK (tD n) ks ls i (ls.length + 1)) (j : Nat) = some (.d (.int (lD (tD n) ks ls i j))) := rowK_at (by omega) rfl
          have g2 : atI (rowK (tD n) ks ls i (ls.length + 1)) ((j : Nat) + 1) = some (.d (.int (lD (tD n) ks ls i (j + 1)))) := rowK_at (by omega) (by omega)
          have g3 : atI (rowK (tD n) ks ls (i + 1) (j + 1)) (j : Nat) = some (.d (.int (lD (tD n) ks ls (i + 1) j))) := rowK_at (by omega) rfl
          have g4 : atI ls (j : Nat) = some ld := atI_nat hy2
          have lr := rowK_len (tD n) ks ls (i + 1) (j + 1)
          have eN := rowK_next (tD n) ks ls (i + 1) (j + 1)
          have ma : mset M' p1 (.lst (rowK (tD n) ks ls (i + 1) (j + 1))) a = some (.lst (rowK (tD n) ks ls i (ls.length + 1))) := by rw [mset_ne ap]; exact ha
          have mp1 : mset M' p1 (.lst (rowK (tD n) ks ls (i + 1) (j + 1))) p1 = some (.lst (rowK (tD n) ks ls (i + 1) (j + 1))) := mset_same
          have eC : lD (tD n) ks ls (i + 1) (j + 1) = min (lD (tD n) ks ls i (j + 1) + (nn kd : Nat)) (min (lD (tD n) ks ls (i + 1) j + (nn ld : Nat)) (lD (tD n) ks ls i j + tD n kd ld)) := by
            rw [lD, List.getD_eq_getElem?_getD, List.getD_eq_getElem?_getD, hy, hy2]
            dsimp only [Option.getD]
            omega
          rw [eC] at eN
          decreasing_trivial_pre_omega
          refine ⟨kd, ld, m, rfl, ⟨hkd, hld, by omega, by omega, by omega, by omega⟩, ?_⟩
          decreasing_trivial_pre_omega
          refine ⟨_, _, _, rfl, ?_⟩
          decreasing_trivial_pre_omega
          rw [eN, mset_mset]
          exact hN2 _ _ ⟨rfl, _, _, rfl⟩
        · obtain ⟨rfl, y9, y10, rfl⟩ := q
          decreasing_trivial_pre_omega
          refine hN _ _ ⟨fun b u e => ?_, p1, _, _, _, _, _, _, rfl, mset_same⟩
          rw [mset_ne (fun z => by rw [z] at e; rw [kk _ _ e] at hp1; cases hp1)]
          exact kk _ _ e
      · obtain ⟨kk, a, z3, z4, z7, z8, z9, z10, rfl, ha⟩ := q
        have g0 : atI (rowK (tD n) ks ls ks.length (ls.length + 1)) (-1) = some (.d (.int (lD (tD n) ks ls ks.length ls.length))) := rowK_last
        decreasing_trivial_pre_omega
        refine ⟨M, kk, ?_⟩
        have e : lD (tD n) ks ls ks.length ls.length + (if ng true (decide (s1 = s2)) = true then 1 else 0) = tD (n + 1) (.tuple [.str s1, .tuple ks]) (.tuple [.str s2, .tuple ls]) := by
          show _ = lD (tD n) ks ls ks.length ls.length + if s1 = s2 then 0 else 1
          by_cases c : s1 = s2
          · simp [c, ng]
          · simp [c, ng]
        rw [← e] at h2
        exact h2
def uTL {f : Addr} {fd : FuncData} {n k : Nat} (F : Fun K "_law_top" "_law_top" sTopL f fd) (mF : mg "_law_top" = some (.ref f)) (h : FnOk P w K mg base CX0 k f fd ["_law_one", "_law_other"] (spD K 2 (tfTopL n))) : Use P w K mg base "_law_top" ["_law_one", "_law_other"] k (spD K 2 (tfTopL n)) := ⟨f, fd, h, mF, F.kp, F.binds (ps := ["_law_one", "_law_other"]) fun _ _ _ _ _ _ us hl => match us, hl with | [_, _], _ => rfl⟩
theorem ok_topL {f : Addr} {fd : FuncData} {j : Nat} (F : Fun K "_law_top" "_law_top" sTopL f fd) (mF : mg "_law_top" = some (.ref f)) (U_law_size : Use P w K mg base "_law_size" ["_law_tree_here"] j (spD K 1 (tfN nn 12))) (T : Bl mg) (mMin : mg "min" = none) : ∀ n, FnOk P w K mg base CX0 (j + n) f fd ["_law_one", "_law_other"] (spD K 2 (tfTopL n))
  | 0 => no0 fun ws M R RX h => by
    obtain ⟨t, u, m, rfl, ⟨ht, _⟩, _⟩ := h
    exact ht.elim
  | n + 1 => ok_topL1 F (uTL F mF (ok_topL F mF U_law_size T mMin n)) U_law_size T mMin
end
end Tl
set_option Elab.async false
set_option linter.all false
set_option maxRecDepth 100000
set_option maxHeartbeats 8000000
namespace Tl
open PySem L2 RZ
local macro_rules
  | `(tactic| decreasing_trivial) => `(tactic| ((with_reducible (conv => whnf)); (repeat ((first | (with_reducible refine gDs_c ?_) | (with_reducible refine gDs_n ?_) | (with_reducible refine gNs_c ?_) | (with_reducible refine gNs_n ?_) | (with_reducible refine gO_i tyAny_lt ?_) | (with_reducible refine gIs_c ?_) | (with_reducible refine gIs_n ?_) | (with_reducible refine gBs_c ?_) | (with_reducible refine gBs_n ?_) | (with_reducible refine gSs_c ?_) | (with_reducible refine gSs_n ?_) | (with_reducible refine gO_i tyIs_int ?_) | (with_reducible refine gO_i tyIs_bool ?_) | (with_reducible refine gO_i tyIs_str ?_) | (with_reducible refine gO_i tyIs_tuple ?_) | (with_reducible refine gO_i tyIs_list ?_) | (with_reducible refine gDs_i ?_) | (with_reducible refine gO_i (Eq.refl _) ?_) | (with_reducible refine gO_i (by assumption) ?_) | (with_reducible refine gO_i at_0 ?_) | (with_reducible refine gO_i at_m0 ?_) | (with_reducible refine gO_i at_1 ?_) | (with_reducible refine gO_i at_m1 ?_) | (with_reducible refine gO_i at_2 ?_) | (with_reducible refine gO_i at_m2 ?_) | (with_reducible refine gO_i at_3 ?_) | (with_reducible refine gO_i at_m3 ?_) | (with_reducible refine gO_i at_4 ?_) | (with_reducible refine gO_i at_m4 ?_) | (with_reducible refine gO_i at_5 ?_) | (with_reducible refine gO_i at_m5 ?_) | (with_reducible refine gO_i at_6 ?_) | (with_reducible refine gO_i at_m6 ?_) | (with_reducible refine gO_i at_7 ?_) | (with_reducible refine gO_i at_m7 ?_) | (with_reducible refine IfB.ngf ?_) | (with_reducible refine IfB.ngt ?_) | (with_reducible refine IfB.not ?_) | (with_reducible refine IfB.nil ?_) | (with_reducible refine IfB.nilT ?_) | (with_reducible refine IfB.f isE_c ?_) | (with_reducible refine IfB.t isE_n ?_) | (with_reducible refine IfB.t ?gha ?_; (case gha => rfl)) | (with_reducible refine IfB.f ?gha ?_; (case gha => rfl)) | (with_reducible refine IfB.t ?gha ?_; (case gha => assumption)) | (with_reducible refine IfB.f ?gha ?_; (case gha => assumption)) | (with_reducible refine IfB.yes (Eq.refl _) ?_) | (with_reducible refine IfB.yes ?gha ?_; (case gha => (first | omega | (simp only [len_c, len_n, List.length_map]; omega)))) | (with_reducible refine IfB.no ?gha ?_; (case gha => (first | omega | (simp only [len_c, len_n, List.length_map]; omega)))) | (with_reducible refine IfB.t ?gha ?_; (case gha => decide +kernel)) | (with_reducible refine IfB.f ?gha ?_; (case gha => decide +kernel))); (with_reducible (conv => whnf))))))
local macro_rules
  | `(tactic| decreasing_trivial_pre_omega) => `(tactic| (decreasing_trivial; (repeat ((first | ((with_reducible refine And.intro ?gha ?_); (case gha => (first | assumption | omega | exact rfl | (exact mset_same) | (exact ⟨_, mset_same⟩) | (exact Exists.intro _ (by first | exact mset_same | assumption | (rw [mset_ne (by assumption)]; first | exact mset_same | assumption))) | (exact sm_of (by omega) (by omega)) | (exact sz1000 (by first | omega | (simp; done) | (simp; omega))) | (exact Or.inl ⟨by decide, by decide⟩) | decide | (simp; done) | (refine ⟨?_, ?_⟩ <;> (first | assumption | omega | exact rfl | (exact mset_same) | (exact ⟨_, mset_same⟩) | (exact Exists.intro _ (by first | exact mset_same | assumption | (rw [mset_ne (by assumption)]; first | exact mset_same | assumption))) | (exact sm_of (by omega) (by omega)) | (exact sz1000 (by first | omega | (simp; done) | (simp; omega))) | (exact Or.inl ⟨by decide, by decide⟩) | decide | (simp; done))) | (refine ⟨?_, ?_, ?_⟩ <;> (first | assumption | omega | exact rfl | (exact mset_same) | (exact ⟨_, mset_same⟩) | (exact Exists.intro _ (by first | exact mset_same | assumption | (rw [mset_ne (by assumption)]; first | exact mset_same | assumption))) | (exact sm_of (by omega) (by omega)) | (exact sz1000 (by first | omega | (simp; done) | (simp; omega))) | (exact Or.inl ⟨by decide, by decide⟩) | decide | (simp; done))) | (refine ⟨?_, ?_, ?_, ?_⟩ <;> (first | assumption | omega | exact rfl | (exact mset_same) | (exact ⟨_, mset_same⟩) | (exact Exists.intro _ (by first | exact mset_same | assumption | (rw [mset_ne (by assumption)]; first | exact mset_same | assumption))) | (exact sm_of (by omega) (by omega)) | (exact sz1000 (by first | omega | (simp; done) | (simp; omega))) | (exact Or.inl ⟨by decide, by decide⟩) | decide | (simp; done)))))) | (with_reducible refine exW (by first | exact mset_same | assumption | (rw [mset_ne (by assumption)]; first | exact mset_same | assumption)) ?_)); decreasing_trivial))))
@[reducible] def tfChgL (n : Nat) : TF := fun ws M R _ => ∃ (st : Addr) (t : PyData), ws = [.r st, .d t] ∧ (M st = some (.src false) ∧ TrT n t ∧ nn t ≤ 60) ∧ ∀ d, TrT n d → nn d + 1 ≤ 2 * nn t → R (.d d) M
section
variable {P : Program} {w : World} {K : PySem.W.Frag} {mg : Str → Option Value} {base : Heap}
abbrev sChgL : Stmt := top 58
theorem scChgL : FnScope ["_law_state", "_law_tree_here", "_law_found", "_law_kid", "_law_tag", "_law_kids", "_law_road"] ["_law_state", "_law_tree_here"] (defScope sChgL) := ⟨rfl, rfl, rfl, by decide +kernel, rfl, by decide +kernel, by decide +kernel⟩
theorem ok_chgL1 {f : Addr} {fd : FuncData} {n j : Nat} (F : Fun K "_law_changed" "_law_changed" sChgL f fd) (U_law_changed : Use P w K mg base "_law_changed" ["_law_state", "_law_tree_here"] (j + n) (spD K 2 (tfChgL n))) (U_law_take : Use P w K mg base "_law_take" ["_law_state", "_law_below"] j (spD K 2 (tfNext false))) (T : Bl mg) :
    FnOk P w K mg base CX0 (j + n + 1) f fd ["_law_state", "_law_tree_here"] (spD K 2 (tfChgL (n + 1))) := by
  refine okDL F scChgL rfl fun cdv A outer s H E hr => ?_
  refine ⟨_, _, (pss_cons (ps_asg (pv 1) (pg_tup rfl (pgs_cons (pg_name (i := 4) scChgL.nd rfl (.inl rfl)) (pgs_cons (pg_name (i := 5) scChgL.nd rfl (.inl rfl)) pgs_nil))))
    (pss_cons (ps_set (i := 2) scChgL.nd rfl (.inl rfl) (pe_lst pa_nil))
    (pss_cons (ps_for PassesOwn.never rfl (pi_tup (pv 5)) (pg_name (i := 3) scChgL.nd rfl (.inl rfl)) (pss_cons (ps_set (i := 6) scChgL.nd rfl (.inl rfl) (pe_call U_law_take.ok (hr.mono (by omega)) rfl U_law_take.m U_law_take.kp U_law_take.b .nil pass0 (pa_cons (pv 0) (pa_cons pe_int pa_nil))))
      (pss_cons (ps_if (pt_cmpR op_gt (pv 6) pe_int (nomark _)) (pss_one (ps_expr (pe_bm PySem.F.plainAttrs_list PySem.F.slot_list_append PySem.F.type_list_append mt_append (pv 2) (pa_cons (pe_call U_law_changed.ok (hr.mono (by omega)) rfl U_law_changed.m U_law_changed.kp U_law_changed.b .nil pass0 (pa_cons (pv 0) (pa_cons (pv 3) pa_nil))) pa_nil)))) pss_nil)
      (pss_one (ps_if (pt_cmpR op_eq (pv 6) pe_int (nomark _)) (pss_one (ps_expr (pe_bm PySem.F.plainAttrs_list PySem.F.slot_list_append PySem.F.type_list_append mt_append (pv 2) (pa_cons (pe_tup (pa_cons (pe_ix ix_list (pe_lst (pa_cons pe_str (pa_cons pe_str pa_nil))) (pe_call U_law_take.ok (hr.mono (by omega)) rfl U_law_take.m U_law_take.kp U_law_take.b .nil pass0 (pa_cons (pv 0) (pa_cons pe_int pa_nil))) (fun _ _ => rfl)) (pa_cons (pe_tup pa_nil) pa_nil))) pa_nil)))) pss_nil)))))
    (pss_one (ps_ret (pe_tup (pa_cons (pe_ix ix_list (pe_lst (pa_cons (pv 4) (pa_cons (pv 4) (pa_cons (pv 4) (pa_cons pe_str pa_nil))))) (pe_call U_law_take.ok (hr.mono (by omega)) rfl U_law_take.m U_law_take.kp U_law_take.b .nil pass0 (pa_cons (pv 0) (pa_cons pe_int pa_nil))) (fun _ _ => rfl)) (pa_cons (pe_callTy call_tuple_of (by rfl) T.tuple PyProof.Rows.boot_tuple (pa_cons (pv 2) pa_nil)) pa_nil)))))))),
    (ss_cons (ss_unp sg_tup2 se_nm)
    (ss_cons (ss_set (se_lst sa_nil))
    (ss_cons (ss_for (si_tup se_nm) sg_name (ss_cons (ss_set (se_call (sa_cons se_nm (sa_cons se_int sa_nil))))
      (ss_cons (ss_if (st_test (se_op so_gt se_nm se_int)) (ss_drop (se_bmL sm_append se_nm (sa_cons (se_call (sa_cons se_nm (sa_cons se_nm sa_nil))) sa_nil))) ss_nil)
      (ss_if (st_test (se_op so_eqS se_nm se_int)) (ss_drop (se_bmL sm_append se_nm (sa_cons (se_tup (sa_cons (se_op so_ixL (se_lsf (sa_cons se_str (sa_cons se_str sa_nil))) (se_call (sa_cons se_nm (sa_cons se_int sa_nil)))) (sa_cons (se_tup sa_nil) sa_nil))) sa_nil))) ss_nil))))
    (ss_ret (se_tup (sa_cons (se_op so_ixL (se_lsf (sa_cons se_nm (sa_cons se_nm (sa_cons se_nm (sa_cons se_str sa_nil))))) (se_call (sa_cons se_nm (sa_cons se_int sa_nil)))) (sa_cons (se_cb sc_tuple (sa_cons se_nm sa_nil)) sa_nil))))))), fun ws M R RX hl h => ?_⟩
  obtain ⟨st, t, rfl, ⟨hM, ht, hn⟩, h2⟩ := h
  obtain ⟨s0, ks, rfl, hs, hk⟩ := ht
  rw [nn] at hn h2
  have kl : ks.length ≤ 60 := Nat.le_trans (len_nn ks) (by omega)
  simp only [start0, len_c, len_n, map_c, map_n, app_c, app_n, rep_0, rep_s, Nat.reduceAdd, Nat.reduceSub]
  decreasing_trivial_pre_omega
  intro p hp
  have sp : st ≠ p := fun z => by rw [z, hp] at hM; cases hM
  have e1 : mset M p (MO.lst []) = mset M p (.lst (([] : List PyData).map W.d)) := rfl
  rw [e1]
  decreasing_trivial_pre_omega
  refine for1 (fun i ρ M' => ∃ (ds : List PyData) (y4 y5 : Option W), M' = mset M p (.lst (ds.map W.d)) ∧ ρ = [some (.r st), some (W.d (PyData.tuple [PyData.str s0, PyData.tuple ks])), some (.r p), y4, some (W.d (.str s0)), some (W.d (.tuple ks)), y5] ∧ (∀ d ∈ ds, TrT n d) ∧ nnAll ds ≤ 2 * nnAll (ks.take i)) ⟨[], _, _, rfl, rfl, (fun _ h => by cases h), Nat.zero_le _⟩ (fun _ _ _ _ _ => trivial) (fun i kd ρ M' N hy q hN => ?_) (fun ρ M' q => ?_)
  · obtain ⟨ds, y4, y5, rfl, rfl, hds, hnd⟩ := q
    have hkd := hk kd (List.mem_of_getElem? hy)
    have nkd : nn kd ≤ nnAll ks := nn_mem (List.mem_of_getElem? hy)
    have nt := nnAll_take ks (i + 1)
    rw [take_nn hy] at nt
    have hld := len_nn ds
    have ms : ∀ o, mset M p o st = some (.src false) := fun o => by rw [mset_ne sp]; exact hM
    have hN2 : ∀ (xs : List PyData) (y : Option W) (rd : Int), (∀ d ∈ xs, TrT n d) → nnAll xs ≤ 2 * nn kd → N [some (.r st), some (W.d (PyData.tuple [PyData.str s0, PyData.tuple ks])), some (.r p), some (W.d kd), some (W.d (.str s0)), some (W.d (.tuple ks)), some (W.d (.int rd))] (mset M p (.lst ((ds ++ xs).map W.d))) := fun xs y rd h1 h2 => hN _ _ ⟨ds ++ xs, _, _, rfl, rfl, fun d hd => (List.mem_append.mp hd).elim (hds d) (h1 d), by rw [nnAll_app, take_nn hy]; omega⟩
    clear hN
    decreasing_trivial_pre_omega
    refine ⟨⟨ms _, by decide, by decide⟩, fun rd r0 r1 => ?_⟩
    decreasing_trivial_pre_omega
    refine IfB.d (fun c0 => ?_) (fun c0 => ?_)
    · decreasing_trivial_pre_omega
      refine ⟨st, kd, rfl, ⟨ms _, hkd, by omega⟩, fun d hd hnd2 => ?_⟩
      have hz : (ds.map W.d).length < sizeLine := by rw [List.length_map]; exact small1000 (by omega)
      decreasing_trivial_pre_omega
      refine IfB.d (fun c1 => ?_) (fun c1 => ?_)
      · decreasing_trivial_pre_omega
        refine ⟨⟨by rw [mset_mset]; exact ms _, by decide, by decide⟩, fun r2 r20 r21 => ?_⟩
        refine gO_atD (fun d => ∃ s1 : Str, d = .str s1 ∧ isTag (.str s1) = true) r20 r21 (fun d hm => ?_) fun tg htg => ?_
        · rcases List.mem_cons.mp hm with e | hm
          · exact ⟨_, e, by decide +kernel⟩
          · exact ⟨_, List.mem_singleton.mp hm, by decide +kernel⟩
        obtain ⟨s1, rfl, hs1⟩ := htg
        have hz2 : (ds.map W.d ++ [W.d d]).length < sizeLine := by rw [List.length_append, List.length_map]; exact small1000 (by simp; omega)
        have hlf : TrT n (.tuple [.str s1, .tuple []]) := by
          cases n with
          | zero => exact hkd.elim
          | succ n => exact ⟨s1, [], rfl, hs1, fun _ h => by cases h⟩
        decreasing_trivial_pre_omega
        rw [mset_mset, mset_mset, show ds.map W.d ++ [W.d d] ++ [W.d (.tuple [.str s1, .tuple []])] = (ds ++ [d, .tuple [.str s1, .tuple []]]).map W.d by simp]
        refine hN2 _ none rd (fun x hx => ?_) ?_
        · rcases List.mem_cons.mp hx with rfl | hx
          · exact hd
          · rw [List.mem_singleton.mp hx]; exact hlf
        · have e1 : nnAll [d, .tuple [.str s1, .tuple []]] = nn d + 1 := rfl
          omega
      · decreasing_trivial_pre_omega
        rw [mset_mset, show ds.map W.d ++ [W.d d] = (ds ++ [d]).map W.d by simp]
        refine hN2 _ none rd (fun x hx => by rw [List.mem_singleton.mp hx]; exact hd) ?_
        rw [nnAll_one]
        omega
    · decreasing_trivial_pre_omega
      have := hN2 [] none rd (fun _ h => by cases h) (Nat.zero_le _)
      rw [List.append_nil] at this
      exact this
  · obtain ⟨ds, y4, y5, rfl, rfl, hds, hnd⟩ := q
    rw [List.take_length] at hnd
    have hld := len_nn ds
    have ms : ∀ o, mset M p o st = some (.src false) := fun o => by rw [mset_ne sp]; exact hM
    decreasing_trivial_pre_omega
    refine ⟨⟨ms _, by decide, by decide⟩, fun rd r0 r1 => ?_⟩
    refine gO_atD (fun d => ∃ s1 : Str, d = .str s1 ∧ isTag (.str s1) = true) r0 r1 (fun d hm => ?_) fun tg htg => ?_
    · rcases List.mem_cons.mp hm with e | hm
      · exact ⟨_, e, hs⟩
      rcases List.mem_cons.mp hm with e | hm
      · exact ⟨_, e, hs⟩
      rcases List.mem_cons.mp hm with e | hm
      · exact ⟨_, e, hs⟩
      · exact ⟨_, List.mem_singleton.mp hm, by decide +kernel⟩
    obtain ⟨s1, rfl, hs1⟩ := htg
    decreasing_trivial_pre_omega
    exact ⟨M, fun b u e => by rw [mset_ne (fun z => by rw [z, hp] at e; cases e)]; exact e, h2 _ ⟨s1, ds, rfl, hs1, hds⟩ (by rw [nn]; omega)⟩
def uCG {f : Addr} {fd : FuncData} {n k : Nat} (F : Fun K "_law_changed" "_law_changed" sChgL f fd) (mF : mg "_law_changed" = some (.ref f)) (h : FnOk P w K mg base CX0 k f fd ["_law_state", "_law_tree_here"] (spD K 2 (tfChgL n))) : Use P w K mg base "_law_changed" ["_law_state", "_law_tree_here"] k (spD K 2 (tfChgL n)) := ⟨f, fd, h, mF, F.kp, F.binds (ps := ["_law_state", "_law_tree_here"]) fun _ _ _ _ _ _ us hl => match us, hl with | [_, _], _ => rfl⟩
theorem ok_chgL {f : Addr} {fd : FuncData} {j : Nat} (F : Fun K "_law_changed" "_law_changed" sChgL f fd) (mF : mg "_law_changed" = some (.ref f)) (U_law_take : Use P w K mg base "_law_take" ["_law_state", "_law_below"] j (spD K 2 (tfNext false))) (T : Bl mg) : ∀ n, FnOk P w K mg base CX0 (j + n) f fd ["_law_state", "_law_tree_here"] (spD K 2 (tfChgL n))
  | 0 => no0 fun ws M R RX h => by
    obtain ⟨st, t, rfl, ⟨_, ht, _⟩, _⟩ := h
    exact ht.elim
  | n + 1 => ok_chgL1 F (uCG F mF (ok_chgL F mF U_law_take T n)) U_law_take T
end
end Tl
set_option Elab.async false
set_option linter.all false
set_option maxRecDepth 100000
set_option maxHeartbeats 8000000
namespace Tl
open PySem L2 RZ
/-! A top matching grown from above. -/
theorem off_pre : ∀ {p y : List Nat} (r : List Nat), pre p y = false → ltN y (p ++ r) = ltN y p ∧ ltN (p ++ r) y = ltN p y ∧ pre y (p ++ r) = pre y p ∧ pre (p ++ r) y = false
  | [], y, r, h => by rw [pre_nil] at h; cases h
  | a :: p, [], r, h => ⟨rfl, rfl, by rw [pre_nil, pre_nil], by rw [List.cons_append]; exact pre_no.mpr fun ⟨s, e⟩ => by cases e⟩
  | a :: p, b :: y, r, h => by
    rw [pre_cons] at h
    rw [List.cons_append, pre_cons, pre_cons, pre_cons, ltN, ltN, ltN, ltN]
    by_cases e : a = b
    · subst e
      rw [decide_eq_true rfl, Bool.true_and] at h
      obtain ⟨h1, h2, h3, h4⟩ := off_pre r h
      simp only [if_true, decide_true, Bool.true_and]
      exact ⟨h1, h2, h3, h4⟩
    · have e2 : b ≠ a := fun z => e z.symm
      simp [e, e2]
theorem fit_parts {x y : PPr} (h : fitP x y = true) : x.1 ≠ y.1 ∧ x.2 ≠ y.2 ∧ ltN x.1 y.1 = ltN x.2 y.2 ∧ pre x.1 y.1 = pre x.2 y.2 ∧ pre y.1 x.1 = pre y.2 x.2 := by
  unfold fitP at h
  simp only [Bool.and_eq_true, Bool.not_eq_true', decide_eq_false_iff_not, decide_eq_true_eq] at h
  obtain ⟨⟨⟨⟨h1, h2⟩, h3⟩, h4⟩, h5⟩ := h
  exact ⟨h1, h2, h3, h4, h5⟩
theorem fit_mk {x y : PPr} (h : x.1 ≠ y.1 ∧ x.2 ≠ y.2 ∧ ltN x.1 y.1 = ltN x.2 y.2 ∧ pre x.1 y.1 = pre x.2 y.2 ∧ pre y.1 x.1 = pre y.2 x.2) : fitP x y = true := by
  obtain ⟨h1, h2, h3, h4, h5⟩ := h
  unfold fitP
  simp only [Bool.and_eq_true, Bool.not_eq_true', decide_eq_false_iff_not, decide_eq_true_eq]
  exact ⟨⟨⟨⟨h1, h2⟩, h3⟩, h4⟩, h5⟩
theorem fit_far {y : PPr} {p q : List Nat} {i j : Nat} (h : fitP y (p, q) = true) (h1 : pre p y.1 = false) (h2 : pre q y.2 = false) : fitP y (p ++ [i], q ++ [j]) = true := by
  obtain ⟨a, b, c, d, e⟩ := fit_parts h
  obtain ⟨l1, l2, l3, l4⟩ := off_pre [i] h1
  obtain ⟨m1, m2, m3, m4⟩ := off_pre [j] h2
  refine fit_mk ⟨fun z => ?_, fun z => ?_, ?_, ?_, ?_⟩
  · rw [z, pre_app] at h1; cases h1
  · rw [z, pre_app] at h2; cases h2
  · show ltN y.1 (p ++ [i]) = ltN y.2 (q ++ [j])
    rw [l1, m1]; exact c
  · show pre y.1 (p ++ [i]) = pre y.2 (q ++ [j])
    rw [l3, m3]; exact d
  · show pre (p ++ [i]) y.1 = pre (q ++ [j]) y.2
    rw [l4, m4]
theorem fit_kid (p q : List Nat) (i j : Nat) : fitP (p, q) (p ++ [i], q ++ [j]) = true := by
  refine fit_mk ⟨fun z => ?_, fun z => ?_, ?_, ?_, ?_⟩
  · have := congrArg List.length z
    simp at this
  · have := congrArg List.length z
    simp at this
  · show ltN p (p ++ [i]) = ltN q (q ++ [j])
    rw [ltN_ext p (by simp), ltN_ext q (by simp)]
  · show pre p (p ++ [i]) = pre q (q ++ [j])
    rw [pre_app, pre_app]
  · show pre (p ++ [i]) p = pre (q ++ [j]) q
    rw [pre_up, pre_up]
theorem fit_sib (p q : List Nat) {a b i j : Nat} (h1 : a < i) (h2 : b < j) : fitP (p ++ [a], q ++ [b]) (p ++ [i], q ++ [j]) = true := by
  have e1 : a ≠ i := by omega
  have e2 : b ≠ j := by omega
  refine fit_mk ⟨fun z => ?_, fun z => ?_, ?_, ?_, ?_⟩
  · have := List.append_cancel_left z
    injection this with this
    exact e1 this
  · have := List.append_cancel_left z
    injection this with this
    exact e2 this
  · show ltN (p ++ [a]) (p ++ [i]) = ltN (q ++ [b]) (q ++ [j])
    rw [ltN_app, ltN_app, show ltN [a] [i] = true by rw [ltN, if_neg e1, decide_eq_true h1], show ltN [b] [j] = true by rw [ltN, if_neg e2, decide_eq_true h2]]
  · show pre (p ++ [a]) (p ++ i :: []) = pre (q ++ [b]) (q ++ j :: [])
    rw [pre_snoc, pre_snoc, decide_eq_false e1, decide_eq_false e2]
  · show pre (p ++ [i]) (p ++ a :: []) = pre (q ++ [j]) (q ++ b :: [])
    rw [pre_snoc, pre_snoc, decide_eq_false (Ne.symm e1), decide_eq_false (Ne.symm e2)]
theorem pre_snoc_no {z p : List Nat} {i : Nat} (h1 : pre z p = false) (h2 : z ≠ p ++ [i]) : pre z (p ++ [i]) = false := by
  rw [pre_no] at h1 ⊢
  rintro ⟨r, e⟩
  rcases List.eq_nil_or_concat r with rfl | ⟨r', c, rfl⟩
  · rw [List.append_nil] at e
    exact h2 e
  · rw [List.concat_eq_append, ← List.append_assoc] at e
    have := List.append_inj' e rfl
    exact h1 ⟨r', this.1⟩
structure GrT (t u : PyData) (fs ws : List PPr) : Prop where
  tr : TR2 t u fs
  sub : ∀ x ∈ ws, x ∈ fs
  nod : ws.Nodup
  len : ws.length ≤ fs.length
  free : ∀ x ∈ ws, ∀ y ∈ fs, y ≠ x → pre x.1 y.1 = false ∧ pre x.2 y.2 = false
structure GrM (t u : PyData) (fs ws : List PPr) (x : PPr) (i m : Nat) : Prop where
  g : GrT t u fs ws
  mem : x ∈ fs
  out : x ∉ ws
  kid : ∀ y ∈ fs, y ≠ x → (pre x.1 y.1 = false ∧ pre x.2 y.2 = false) ∨ ∃ a b, a < i ∧ b < m ∧ y = (x.1 ++ [a], x.2 ++ [b])
theorem gr_first {n m : Nat} {t u : PyData} (ht : TrT n t) (hu : TrT m u) : GrT t u [([], [])] [([], [])] := by
  refine ⟨⟨.head _, fun x hx => ?_, List.pairwise_singleton _ _, fun x hx => .inl (List.mem_singleton.mp hx)⟩, fun _ h => h, List.pairwise_singleton _ _, Nat.le_refl _, fun x hx y hy ne => ?_⟩
  · rw [List.mem_singleton.mp hx]
    exact ⟨sub_plc ht (sub_nil _), sub_plc hu (sub_nil _)⟩
  · rw [List.mem_singleton.mp hx, List.mem_singleton.mp hy] at ne
    exact absurd rfl ne
theorem gr_pop {t u : PyData} {fs ws : List PPr} {x : PPr} (h : GrT t u fs (ws ++ [x])) : GrM t u fs ws x 0 0 := by
  obtain ⟨n1, n2, n3⟩ := List.nodup_append.mp h.nod
  exact ⟨⟨h.tr, fun y hy => h.sub y (List.mem_append_left _ hy), n1, by have := h.len; rw [List.length_append] at this; omega, fun y hy => h.free y (List.mem_append_left _ hy)⟩, h.sub x (List.mem_append_right _ (.head _)), fun z => n3 x z x (.head _) rfl, fun y hy ne => .inl (h.free x (List.mem_append_right _ (.head _)) y hy ne)⟩
theorem mid_up {t u : PyData} {fs ws : List PPr} {x : PPr} {i m i' m' : Nat} (h : GrM t u fs ws x i m) (h1 : i ≤ i') (h2 : m ≤ m') : GrM t u fs ws x i' m' :=
  ⟨h.g, h.mem, h.out, fun y hy ne => (h.kid y hy ne).imp_right fun ⟨a, b, c, d, e⟩ => ⟨a, b, by omega, by omega, e⟩⟩
theorem mid_push {t u : PyData} {fs ws : List PPr} {x : PPr} {i m : Nat} (h : GrM t u fs ws x i m) (h1 : x.1 ++ [i] ∈ plc t) (h2 : x.2 ++ [m] ∈ plc u) : GrM t u (fs ++ [(x.1 ++ [i], x.2 ++ [m])]) (ws ++ [(x.1 ++ [i], x.2 ++ [m])]) x (i + 1) (m + 1) := by
  obtain ⟨p, q⟩ := x
  dsimp only at h1 h2 ⊢
  have hf : ∀ y ∈ fs, fitP y (p ++ [i], q ++ [m]) = true := fun y hy => by
    by_cases e : y = (p, q)
    · rw [e]
      exact fit_kid p q i m
    · rcases h.kid y hy e with ⟨k1, k2⟩ | ⟨a, b, ha, hb, rfl⟩
      · exact fit_far (pw_two (fun h => fits_two h) h.g.tr.fit hy h.mem e) k1 k2
      · exact fit_sib p q ha hb
  have hne : ∀ y ∈ fs, y.1 ≠ p ++ [i] ∧ y.2 ≠ q ++ [m] := fun y hy => ⟨(fit_parts (hf y hy)).1, (fit_parts (hf y hy)).2.1⟩
  have hnew : (p ++ [i], q ++ [m]) ∉ fs := fun z => (hne _ z).1 rfl
  refine ⟨⟨⟨List.mem_append_left _ h.g.tr.rt, fun y hy => ?_, ?_, fun y hy => ?_⟩, fun y hy => ?_, ?_, by rw [List.length_append, List.length_append]; exact Nat.add_le_add_right h.g.len 1, fun z hz y hy ne => ?_⟩, List.mem_append_left _ h.mem, fun z => ?_, fun y hy ne => ?_⟩
  · rcases List.mem_append.mp hy with hy | hy
    · exact h.g.tr.at_ y hy
    · rw [List.mem_singleton.mp hy]
      exact ⟨h1, h2⟩
  · rw [List.pairwise_append]
    exact ⟨h.g.tr.fit, List.pairwise_singleton _ _, fun a ha b hb => by rw [List.mem_singleton.mp hb]; exact hf a ha⟩
  · rcases List.mem_append.mp hy with hy | hy
    · exact (h.g.tr.top y hy).imp_right (List.mem_append_left _)
    · rw [List.mem_singleton.mp hy]
      refine .inr (List.mem_append_left _ ?_)
      rw [List.dropLast_concat, List.dropLast_concat]
      exact h.mem
  · rcases List.mem_append.mp hy with hy | hy
    · exact List.mem_append_left _ (h.g.sub y hy)
    · exact List.mem_append_right _ hy
  · rw [List.nodup_append]
    exact ⟨h.g.nod, List.pairwise_singleton _ _, fun a ha b hb e => by rw [List.mem_singleton.mp hb] at e; rw [e] at ha; exact hnew (h.g.sub _ ha)⟩
  · rcases List.mem_append.mp hz with hz | hz
    · have zf := h.g.sub z hz
      have zx : z ≠ (p, q) := fun e => h.out (by rw [← e]; exact hz)
      rcases List.mem_append.mp hy with hy | hy
      · exact h.g.free z hz y hy ne
      · rw [List.mem_singleton.mp hy]
        obtain ⟨f1, f2⟩ := h.g.free z hz (p, q) h.mem (Ne.symm zx)
        exact ⟨pre_snoc_no f1 (hne z zf).1, pre_snoc_no f2 (hne z zf).2⟩
    · obtain rfl := List.mem_singleton.mp hz
      rcases List.mem_append.mp hy with hy | hy
      · by_cases e : y = (p, q)
        · rw [e]
          exact ⟨pre_up p i, pre_up q m⟩
        · rcases h.kid y hy e with ⟨k1, k2⟩ | ⟨a, b, ha, hb, rfl⟩
          · exact ⟨(off_pre [i] k1).2.2.2, (off_pre [m] k2).2.2.2⟩
          · refine ⟨?_, ?_⟩
            · show pre (p ++ [i]) (p ++ a :: []) = false
              rw [pre_snoc]
              exact decide_eq_false (by omega)
            · show pre (q ++ [m]) (q ++ b :: []) = false
              rw [pre_snoc]
              exact decide_eq_false (by omega)
      · exact absurd (List.mem_singleton.mp hy) ne
  · rcases List.mem_append.mp z with z | z
    · exact h.out z
    · have := List.mem_singleton.mp z
      injection this with e1 e2
      have := congrArg List.length e1
      simp at this
  · rcases List.mem_append.mp hy with hy | hy
    · rcases h.kid y hy ne with k | ⟨a, b, c, d, e⟩
      · exact .inl k
      · exact .inr ⟨a, b, by omega, by omega, e⟩
    · rw [List.mem_singleton.mp hy]
      exact .inr ⟨i, m, Nat.lt_succ_self i, Nat.lt_succ_self m, rfl⟩
theorem gr_len {n : Nat} {t u : PyData} {fs ws : List PPr} (ht : TrT n t) (h : GrT t u fs ws) : fs.length ≤ nn t ∧ ws.length ≤ fs.length := by
  have hm := (tr_mat h.tr).1.len
  rw [(srtPP_perm _).length_eq, plc_len ht] at hm
  exact ⟨hm, h.len⟩
end Tl
set_option Elab.async false
set_option linter.all false
set_option maxRecDepth 100000
set_option maxHeartbeats 8000000
namespace Tl
open PySem L2 RZ
local macro_rules
  | `(tactic| decreasing_trivial) => `(tactic| ((with_reducible (conv => whnf)); (repeat ((first | (with_reducible refine gDs_c ?_) | (with_reducible refine gDs_n ?_) | (with_reducible refine gNs_c ?_) | (with_reducible refine gNs_n ?_) | (with_reducible refine gO_i tyAny_lt ?_) | (with_reducible refine gIs_c ?_) | (with_reducible refine gIs_n ?_) | (with_reducible refine gBs_c ?_) | (with_reducible refine gBs_n ?_) | (with_reducible refine gSs_c ?_) | (with_reducible refine gSs_n ?_) | (with_reducible refine gO_i tyIs_int ?_) | (with_reducible refine gO_i tyIs_bool ?_) | (with_reducible refine gO_i tyIs_str ?_) | (with_reducible refine gO_i tyIs_tuple ?_) | (with_reducible refine gO_i tyIs_list ?_) | (with_reducible refine gDs_i ?_) | (with_reducible refine gO_i (Eq.refl _) ?_) | (with_reducible refine gO_i (by assumption) ?_) | (with_reducible refine gO_i at_0 ?_) | (with_reducible refine gO_i at_m0 ?_) | (with_reducible refine gO_i at_1 ?_) | (with_reducible refine gO_i at_m1 ?_) | (with_reducible refine gO_i at_2 ?_) | (with_reducible refine gO_i at_m2 ?_) | (with_reducible refine gO_i at_3 ?_) | (with_reducible refine gO_i at_m3 ?_) | (with_reducible refine gO_i at_4 ?_) | (with_reducible refine gO_i at_m4 ?_) | (with_reducible refine gO_i at_5 ?_) | (with_reducible refine gO_i at_m5 ?_) | (with_reducible refine gO_i at_6 ?_) | (with_reducible refine gO_i at_m6 ?_) | (with_reducible refine gO_i at_7 ?_) | (with_reducible refine gO_i at_m7 ?_) | (with_reducible refine IfB.ngf ?_) | (with_reducible refine IfB.ngt ?_) | (with_reducible refine IfB.not ?_) | (with_reducible refine IfB.nil ?_) | (with_reducible refine IfB.nilT ?_) | (with_reducible refine IfB.f isE_c ?_) | (with_reducible refine IfB.t isE_n ?_) | (with_reducible refine IfB.t ?gha ?_; (case gha => rfl)) | (with_reducible refine IfB.f ?gha ?_; (case gha => rfl)) | (with_reducible refine IfB.t ?gha ?_; (case gha => assumption)) | (with_reducible refine IfB.f ?gha ?_; (case gha => assumption)) | (with_reducible refine IfB.yes (Eq.refl _) ?_) | (with_reducible refine IfB.yes ?gha ?_; (case gha => (first | omega | (simp only [len_c, len_n, List.length_map]; omega)))) | (with_reducible refine IfB.no ?gha ?_; (case gha => (first | omega | (simp only [len_c, len_n, List.length_map]; omega)))) | (with_reducible refine IfB.t ?gha ?_; (case gha => decide +kernel)) | (with_reducible refine IfB.f ?gha ?_; (case gha => decide +kernel))); (with_reducible (conv => whnf))))))
local macro_rules
  | `(tactic| decreasing_trivial_pre_omega) => `(tactic| (decreasing_trivial; (repeat ((first | ((with_reducible refine And.intro ?gha ?_); (case gha => (first | assumption | omega | exact rfl | (exact mset_same) | (exact ⟨_, mset_same⟩) | (exact Exists.intro _ (by first | exact mset_same | assumption | (rw [mset_ne (by assumption)]; first | exact mset_same | assumption))) | (exact sm_of (by omega) (by omega)) | (exact sz1000 (by first | omega | (simp; done) | (simp; omega))) | (exact Or.inl ⟨by decide, by decide⟩) | decide | (simp; done) | (refine ⟨?_, ?_⟩ <;> (first | assumption | omega | exact rfl | (exact mset_same) | (exact ⟨_, mset_same⟩) | (exact Exists.intro _ (by first | exact mset_same | assumption | (rw [mset_ne (by assumption)]; first | exact mset_same | assumption))) | (exact sm_of (by omega) (by omega)) | (exact sz1000 (by first | omega | (simp; done) | (simp; omega))) | (exact Or.inl ⟨by decide, by decide⟩) | decide | (simp; done))) | (refine ⟨?_, ?_, ?_⟩ <;> (first | assumption | omega | exact rfl | (exact mset_same) | (exact ⟨_, mset_same⟩) | (exact Exists.intro _ (by first | exact mset_same | assumption | (rw [mset_ne (by assumption)]; first | exact mset_same | assumption))) | (exact sm_of (by omega) (by omega)) | (exact sz1000 (by first | omega | (simp; done) | (simp; omega))) | (exact Or.inl ⟨by decide, by decide⟩) | decide | (simp; done))) | (refine ⟨?_, ?_, ?_, ?_⟩ <;> (first | assumption | omega | exact rfl | (exact mset_same) | (exact ⟨_, mset_same⟩) | (exact Exists.intro _ (by first | exact mset_same | assumption | (rw [mset_ne (by assumption)]; first | exact mset_same | assumption))) | (exact sm_of (by omega) (by omega)) | (exact sz1000 (by first | omega | (simp; done) | (simp; omega))) | (exact Or.inl ⟨by decide, by decide⟩) | decide | (simp; done)))))) | (with_reducible refine exW (by first | exact mset_same | assumption | (rw [mset_ne (by assumption)]; first | exact mset_same | assumption)) ?_)); decreasing_trivial))))
@[reducible] def tfGrown : TF := fun ws M R _ => ∃ (st : Addr) (t u : PyData), ws = [.r st, .d t, .d u] ∧ (M st = some (.src false) ∧ Tr2 t ∧ Tr2 u) ∧ ∀ ps, TR2 t u ps → R (.d (.tuple ((srtPP ps).map pairD))) M
/-- a list of pairs of places -/
def wP (ps : List PPr) : List W := (ps.map pairD).map W.d
theorem wP_len (ps : List PPr) : (wP ps).length = ps.length := by unfold wP; rw [List.length_map, List.length_map]
theorem wP_snoc (ps : List PPr) (x : PPr) : wP ps ++ [.d (pairD x)] = wP (ps ++ [x]) := by unfold wP; rw [List.map_append, List.map_append]; rfl
theorem wP_last (ps : List PPr) (x : PPr) : atI (wP (ps ++ [x])) (-1) = some (.d (pairD x)) := by
  have e : ixN (ps.length + 1) (-1) = some ps.length := by
    unfold ixN
    rw [if_neg (by omega), if_pos (by omega)]
    congr 1
    omega
  unfold atI
  rw [wP_len, List.length_append, List.length_singleton, e, ← wP_snoc]
  show (wP ps ++ [.d (pairD x)])[ps.length]? = _
  rw [List.getElem?_append_right (by rw [wP_len]; exact Nat.le_refl _), wP_len, Nat.sub_self]
  rfl
theorem mset_swap2 {M : Mem} {a b : Addr} {x y z : MO} (h1 : a ≠ b) : mset (mset (mset M a x) b y) a z = mset (mset M a z) b y := by
  funext c
  by_cases h2 : c = b
  · subst h2
    rw [mset_ne h1.symm, mset_same, mset_same]
  · by_cases h3 : c = a
    · subst h3
      rw [mset_same, mset_ne h1, mset_same]
    · rw [mset_ne h3, mset_ne h2, mset_ne h3, mset_ne h2, mset_ne h3]
section
variable {P : Program} {w : World} {K : PySem.W.Frag} {mg : Str → Option Value} {base : Heap}
abbrev sGrown : Stmt := top 61
theorem scGrown : FnScope ["_law_state", "_law_one", "_law_other", "_law_found", "_law_waiting", "_law_many", "_law_least", "_law_at", "_law_path", "_law_beside"] ["_law_state", "_law_one", "_law_other"] (defScope sGrown) := ⟨rfl, rfl, rfl, by decide +kernel, rfl, by decide +kernel, by decide +kernel⟩
theorem ok_grown {f : Addr} {fd : FuncData} {k j : Nat} (F : Fun K "_law_grown" "_law_grown" sGrown f fd) (U_law_take : Use P w K mg base "_law_take" ["_law_state", "_law_below"] j (spD K 2 (tfNext false))) (U_law_reach : Use P w K mg base "_law_reach" ["_law_tree_here", "_law_path"] j (spD K 2 tfReach2)) (hj : j ≤ k) (T : Bl mg) (mSrt : mg "sorted" = none) : FnOk P w K mg base CX0 (k + 1) f fd ["_law_state", "_law_one", "_law_other"] (spD K 3 tfGrown) := by
  refine okDL F scGrown rfl fun cdv A outer s H E hr => ?_
  refine ⟨_, _, (pss_cons (ps_set (i := 3) scGrown.nd rfl (.inl rfl) (pe_lst (pa_cons (pe_tup (pa_cons (pe_tup pa_nil) (pa_cons (pe_tup pa_nil) pa_nil))) pa_nil)))
    (pss_cons (ps_set (i := 4) scGrown.nd rfl (.inl rfl) (pe_lst (pa_cons (pe_tup (pa_cons (pe_tup pa_nil) (pa_cons (pe_tup pa_nil) pa_nil))) pa_nil)))
    (pss_cons (ps_while PassesOwn.never (pt_cmpR (op_neN hr.units) (pv 4) (pe_lst pa_nil) (nomark _)) (pss_cons (ps_asg (pe_bm0 PySem.F.plainAttrs_list PySem.F.slot_list_pop PySem.F.type_list_pop mt_pop (pv 4)) (pg_tup rfl (pgs_cons (pg_name (i := 8) scGrown.nd rfl (.inl rfl)) (pgs_cons (pg_name (i := 9) scGrown.nd rfl (.inl rfl)) pgs_nil))))
      (pss_cons (ps_set (i := 5) scGrown.nd rfl (.inl rfl) (pe_callB call_len_seq (by rfl) T.len PySem.boot_len (pa_cons (pe_ix ix_tup (pe_call U_law_reach.ok (hr.mono (by omega)) rfl U_law_reach.m U_law_reach.kp U_law_reach.b .nil pass0 (pa_cons (pv 2) (pa_cons (pv 9) pa_nil))) pe_int (fun _ _ => rfl)) pa_nil)))
      (pss_cons (ps_set (i := 6) scGrown.nd rfl (.inl rfl) pe_int)
      (pss_one (ps_for PassesOwn.never rfl (pi_range1 (by rfl) T.range (pa_cons (pe_callB call_len_seq (by rfl) T.len PySem.boot_len (pa_cons (pe_ix ix_tup (pe_call U_law_reach.ok (hr.mono (by omega)) rfl U_law_reach.m U_law_reach.kp U_law_reach.b .nil pass0 (pa_cons (pv 1) (pa_cons (pv 8) pa_nil))) pe_int (fun _ _ => rfl)) pa_nil)) pa_nil)) (pg_name (i := 7) scGrown.nd rfl (.inl rfl)) (pss_one (ps_if (PW.pt (pw_and (pt_cmpR op_lt (pv 6) (pv 5) (nomark _)) (pw_and1 (pt_cmpR op_gt (pe_call U_law_take.ok (hr.mono (by omega)) rfl U_law_take.m U_law_take.kp U_law_take.b .nil pass0 (pa_cons (pv 0) (pa_cons pe_int pa_nil))) pe_int (nomark _))))) (pss_cons (ps_set (i := 6) scGrown.nd rfl (.inl rfl) (pe_op op_add (pv 6) (pe_call U_law_take.ok (hr.mono (by omega)) rfl U_law_take.m U_law_take.kp U_law_take.b .nil pass0 (pa_cons (pv 0) (pa_cons pe_int pa_nil)))))
          (pss_one (ps_if (pt_cmpR op_lt (pv 6) (pv 5) (nomark _)) (pss_cons (ps_expr (pe_bm PySem.F.plainAttrs_list PySem.F.slot_list_append PySem.F.type_list_append mt_append (pv 4) (pa_cons (pe_tup (pa_cons (pe_op op_catA (pv 8) (pe_tup (pa_cons (pv 7) pa_nil))) (pa_cons (pe_op op_catA (pv 9) (pe_tup (pa_cons (pv 6) pa_nil))) pa_nil))) pa_nil)))
            (pss_cons (ps_expr (pe_bm PySem.F.plainAttrs_list PySem.F.slot_list_append PySem.F.type_list_append mt_append (pv 3) (pa_cons (pe_ix ix_list (pv 4) (pe_un un_neg pe_int) (fun _ _ => rfl)) pa_nil)))
            (pss_one (ps_set (i := 6) scGrown.nd rfl (.inl rfl) (pe_op op_add (pv 6) pe_int))))) pss_nil))) pss_nil))))))))
    (pss_one (ps_ret (pe_callTy call_tuple_of (by rfl) T.tuple PyProof.Rows.boot_tuple (pa_cons (pe_callB (cr_sortedD (room62 hr)) (by rfl) mSrt PyProof.Rows.boot_sorted (pa_cons (pv 3) pa_nil)) pa_nil))))))),
    (ss_cons (ss_set (se_lst (sa_cons (se_tup (sa_cons (se_tup sa_nil) (sa_cons (se_tup sa_nil) sa_nil))) sa_nil)))
    (ss_cons (ss_set (se_lst (sa_cons (se_tup (sa_cons (se_tup sa_nil) (sa_cons (se_tup sa_nil) sa_nil))) sa_nil)))
    (ss_cons (ss_while (st_test (se_op so_neN se_nm (se_lsf sa_nil))) (ss_cons (ss_unp sg_tup2 (se_pop se_nm))
      (ss_cons (ss_set (se_cb sc_len (sa_cons (se_op so_ixT (se_call (sa_cons se_nm (sa_cons se_nm sa_nil))) se_int) sa_nil)))
      (ss_cons (ss_set se_int)
      (ss_for (si_r1 (sa_cons (se_cb sc_len (sa_cons (se_op so_ixT (se_call (sa_cons se_nm (sa_cons se_nm sa_nil))) se_int) sa_nil)) sa_nil)) sg_name (ss_if (st_and (st_test (se_op so_lt se_nm se_nm)) (st_test (se_op so_gt (se_call (sa_cons se_nm (sa_cons se_int sa_nil))) se_int))) (ss_cons (ss_set (se_op so_add se_nm (se_call (sa_cons se_nm (sa_cons se_int sa_nil)))))
          (ss_if (st_test (se_op so_lt se_nm se_nm)) (ss_cons (ss_drop (se_bmL sm_append se_nm (sa_cons (se_tup (sa_cons (se_op so_catT se_nm (se_tup (sa_cons se_nm sa_nil))) (sa_cons (se_op so_catT se_nm (se_tup (sa_cons se_nm sa_nil))) sa_nil))) sa_nil)))
            (ss_cons (ss_drop (se_bmL sm_append se_nm (sa_cons (se_op so_ixL se_nm (se_un su_neg se_int)) sa_nil)))
            (ss_set (se_op so_add se_nm se_int)))) ss_nil)) ss_nil))))))
    (ss_ret (se_cb sc_tuple (sa_cons (se_cb sc_sortedF (sa_cons se_nm sa_nil)) sa_nil)))))), fun ws M R RX hl h => ?_⟩
  obtain ⟨st, t, u, rfl, ⟨hM, ht, hu⟩, h2⟩ := h
  simp only [start0, len_c, len_n, map_c, map_n, app_c, app_n, rep_0, rep_s, Nat.reduceAdd, Nat.reduceSub]
  decreasing_trivial_pre_omega
  intro p hp
  decreasing_trivial_pre_omega
  intro wa hwa
  have np : p ≠ wa := fun z => by rw [← z, mset_same] at hwa; cases hwa
  rw [mset_ne np.symm] at hwa
  have m1 : ∀ {x y : MO}, mset (mset M p x) wa y p = some x := fun {x y} => by rw [mset_ne np]; exact mset_same
  have m2 : ∀ {x y z : MO}, mset (mset (mset M p x) wa y) p z = mset (mset M p z) wa y := fun {x y z} => mset_swap2 np
  have m3 : ∀ {x y : MO}, mset (mset M p x) wa y wa = some y := fun {x y} => mset_same
  have kp : ∀ (X Y : MO) b o, M b = some o → mset (mset M p X) wa Y b = some o := fun X Y b o h => by
    rw [mset_ne (fun z => by rw [z, hwa] at h; cases h), mset_ne (fun z => by rw [z, hp] at h; cases h)]
    exact h
  have e0 : [W.d (PyData.tuple [PyData.tuple [], PyData.tuple []])] = wP [([], [])] := rfl
  rw [e0]
  decreasing_trivial_pre_omega
  refine ⟨fun m ρ M' => ∃ (fs ws : List PPr) (y5 y6 y7 y8 y9 : Option W), ρ = [some (.r st), some (W.d t), some (W.d u), some (.r p), some (.r wa), y5, y6, y7, y8, y9] ∧ M' = mset (mset M p (.lst (wP fs))) wa (.lst (wP ws)) ∧ GrT t u fs ws ∧ 2 * (60 - fs.length) + ws.length = m, ⟨_, [([], [])], [([], [])], none, none, none, none, none, rfl, rfl, gr_first ht.tr hu.tr, rfl⟩, fun m ρ M' pv => ?_⟩
  obtain ⟨fs, ws, y5, y6, y7, y8, y9, rfl, rfl, hG, hm⟩ := pv
  have hgl := gr_len ht.tr hG
  have nt := ht.n
  have eM := m3 (x := .lst (wP fs)) (y := .lst (wP ws))
  decreasing_trivial_pre_omega
  rcases List.eq_nil_or_concat ws with rfl | ⟨ws, x, rfl⟩
  · refine IfB.t rfl ?_
    decreasing_trivial_pre_omega
    unfold wP
    refine gDs_i ⟨pairs_srtOk fs, ?_⟩
    rw [srt_P]
    have l2 : (srtPP fs).length = fs.length := (srtPP_perm _).length_eq
    decreasing_trivial_pre_omega
    exact ⟨M, kp _ _, h2 fs hG.tr⟩
  · rw [List.concat_eq_append] at hG hm hgl eM ⊢
    have hMd := gr_pop hG
    refine IfB.f (by unfold wP; simp) ?_
    decreasing_trivial_pre_omega
    obtain ⟨a, b⟩ := x
    obtain ⟨ha, hb⟩ := hMd.g.tr.at_ _ hMd.mem
    dsimp only at ha hb
    obtain ⟨e, he⟩ := plc_sub ht.tr _ ha
    obtain ⟨e', he'⟩ := plc_sub hu.tr _ hb
    obtain ⟨s0, ks, rfl, qa, nk, _⟩ := node_at ht.tr he
    obtain ⟨s1, ls, rfl, qb, nl, _⟩ := node_at hu.tr he'
    have kl := len_nn ks
    have ll := len_nn ls
    have nu := hu.n
    refine ⟨wP ws, .d (pairD (a, b)), by rw [← wP_snoc] at eM ⊢; exact eM, ?_⟩
    rw [mset_mset]
    unfold pairD
    dsimp only
    decreasing_trivial_pre_omega
    refine ⟨u, _, b, 12, rfl, ⟨hu.tr, he'⟩, ?_⟩
    decreasing_trivial_pre_omega
    refine ⟨t, _, a, 12, rfl, ⟨ht.tr, he⟩, ?_⟩
    decreasing_trivial_pre_omega
    rw [show ((ks.length : Nat) : Int).toNat = ks.length from rfl]
    refine forR (n := ks.length) (fun i ρ M' => ∃ (fs' ws' : List PPr) (mm : Nat) (y7 : Option W), ρ = [some (.r st), some (W.d t), some (W.d u), some (.r p), some (.r wa), some (W.d (.int (ls.length : Nat))), some (W.d (.int (mm : Nat))), y7, some (W.d (pathD a)), some (W.d (pathD b))] ∧ M' = mset (mset M p (.lst (wP fs'))) wa (.lst (wP ws')) ∧ GrM t u fs' ws' (a, b) i mm ∧ fs'.length + ws.length = ws'.length + fs.length ∧ fs.length ≤ fs'.length) ⟨fs, ws, 0, _, rfl, rfl, hMd, by omega, Nat.le_refl _⟩ (fun _ _ _ _ _ => trivial) (fun i ρ M' N hi q hN => ?_) (fun ρ M' q => ?_)
    · obtain ⟨fs', ws', mm, y7, rfl, rfl, hm2, hl1, hl2⟩ := q
      rw [Int.zero_add]
      have gl2 := gr_len ht.tr hm2.g
      have ms : ∀ {X Y : MO}, mset (mset M p X) wa Y st = some (.src false) := fun {X Y} => kp X Y st _ hM
      have stay : ∀ mm' : Nat, mm ≤ mm' → N [some (.r st), some (W.d t), some (W.d u), some (.r p), some (.r wa), some (W.d (.int (ls.length : Nat))), some (W.d (.int (mm' : Nat))), some (W.d (.int (i : Nat))), some (W.d (pathD a)), some (W.d (pathD b))] (mset (mset M p (.lst (wP fs'))) wa (.lst (wP ws'))) := fun mm' h => hN _ _ ⟨fs', ws', mm', _, rfl, rfl, mid_up hm2 (by omega) h, hl1, hl2⟩
      decreasing_trivial_pre_omega
      refine IfB.d (fun c0 => ?_) (fun c0 => ?_)
      · decreasing_trivial_pre_omega
        refine ⟨⟨ms, by decide, by decide⟩, fun r r0 r1 => ?_⟩
        decreasing_trivial_pre_omega
        refine IfB.d (fun c1 => ?_) (fun c1 => ?_)
        · decreasing_trivial_pre_omega
          refine ⟨⟨ms, by decide, by decide⟩, fun r2 r20 r21 => ?_⟩
          obtain ⟨x, rfl⟩ : ∃ x : Nat, r2 = (x : Int) := ⟨r2.toNat, by omega⟩
          have ex : (fun a b : Int => PyData.int (a + b)) (mm : Nat) (x : Nat) = .int ((mm + x : Nat) : Int) := by
            dsimp only
            congr 1
          decreasing_trivial_pre_omega
          rw [ex]
          decreasing_trivial_pre_omega
          refine IfB.d (fun c2 => ?_) (fun c2 => ?_)
          · have hpa : a ++ [i] ∈ plc t := sub_plc ht.tr (e := ks[i]) (by rw [sub_app [i] ht.tr, he]; dsimp only; rw [sub_node, List.getElem?_eq_getElem hi]; exact sub_nil _)
            have hpb : b ++ [mm + x] ∈ plc u := sub_plc hu.tr (e := ls[mm + x]'(by omega)) (by rw [sub_app [mm + x] hu.tr, he']; dsimp only; rw [sub_node, List.getElem?_eq_getElem (by omega)]; exact sub_nil _)
            have hnx := mid_push (mid_up hm2 (Nat.le_refl i) (show mm ≤ mm + x by omega)) hpa hpb
            dsimp only at hnx
            have eP : PyData.tuple [PyData.tuple (a.map (fun n : Nat => PyData.int (n : Int)) ++ [PyData.int (i : Nat)]), PyData.tuple (b.map (fun n : Nat => PyData.int (n : Int)) ++ [PyData.int ((mm + x : Nat) : Int)])] = pairD (a ++ [i], b ++ [mm + x]) := by
              unfold pairD pathD
              dsimp only
              rw [List.map_append, List.map_append]
              rfl
            have lw := wP_len ws'
            have lf := wP_len fs'
            have lla : (a.map (fun n : Nat => PyData.int (n : Int))).length ≤ 100 := by rw [List.length_map]; omega
            have llb : (b.map (fun n : Nat => PyData.int (n : Int))).length ≤ 100 := by rw [List.length_map]; omega
            decreasing_trivial_pre_omega
            unfold pathD
            decreasing_trivial_pre_omega
            rw [eP, wP_snoc, mset_mset]
            have gl := wP_last ws' (a ++ [i], b ++ [mm + x])
            have m3' := m3 (x := .lst (wP fs')) (y := .lst (wP (ws' ++ [(a ++ [i], b ++ [mm + x])])))
            refine ⟨⟨_, m1⟩, ?_⟩
            decreasing_trivial_pre_omega
            rw [m2, wP_snoc]
            refine hN _ _ ⟨fs' ++ [(a ++ [i], b ++ [mm + x])], ws' ++ [(a ++ [i], b ++ [mm + x])], mm + x + 1, _, rfl, rfl, hnx, ?_, ?_⟩
            · rw [List.length_append, List.length_append]
              show fs'.length + 1 + ws.length = ws'.length + 1 + fs.length
              omega
            · rw [List.length_append]
              omega
          · decreasing_trivial_pre_omega
            exact stay _ (by omega)
        · decreasing_trivial_pre_omega
          exact stay _ (Nat.le_refl _)
      · decreasing_trivial_pre_omega
        exact stay _ (Nat.le_refl _)
    · obtain ⟨fs', ws', mm, y7, rfl, rfl, hm2, hl1, hl2⟩ := q
      have gl2 := gr_len ht.tr hm2.g
      refine ⟨2 * (60 - fs'.length) + ws'.length, ?_, fs', ws', _, _, _, _, _, rfl, rfl, hm2.g, rfl⟩
      rw [List.length_append, List.length_singleton] at hm
      omega
end
end Tl
set_option Elab.async false
set_option linter.all false
set_option maxRecDepth 100000
set_option maxHeartbeats 4000000
/-! A lambda without parameters handed to a def that calls it: x(lambda: e). -/
set_option Elab.async false
set_option linter.all false
set_option maxRecDepth 100000
set_option maxHeartbeats 4000000
/-! x(lambda: e) at the second layer: the def that is handed the lambda, what it makes of its reading. -/
namespace Tl
open PySem PySem.Spec L2 PyProof.Rows
open LamX (LamS lamCx lamEnv CodeO TabS TabB)
/-- the reading of what is handed over: where it raises, where it is done -/
abbrev CLR := (Ex → Mem → Prop) → Mem → (W → Mem → Prop) → Prop
def ClOk (K : PySem.W.Frag) (F H : Hp) (M : Mem) (tl : XK → Hp → VK → Prop) (CB : CLR) : Prop := ∀ (F' H' : Hp) (M' : Mem) (R' : W → Mem → Prop) (Q' : VK) (E : XK) (RE : Ex → Mem → Prop), Gr F H M F' H' M' → Rl K F' H' M' → CB RE M' R' →
  (∀ F2 H2 M2 cls d x, Gr F' H' M' F2 H2 M2 → Rl K F2 H2 M2 → XRel K F2 cls d x → RE x M2 → E cls d H2) → Kt K F' H' M' R' Q' → tl E H' Q'
/-- the same, where more is wished for than is told -/
def upC (CB : CLR) : CLR := fun RE M R => ∃ (RE0 : Ex → Mem → Prop) (R0 : W → Mem → Prop), CB RE0 M R0 ∧ (∀ x M', RE0 x M' → RE x M') ∧ ∀ v M', R0 v M' → R v M'
theorem ClOk.up {K : PySem.W.Frag} {F H : Hp} {M : Mem} {tl : XK → Hp → VK → Prop} {CB : CLR} (h : ClOk K F H M tl CB) : ClOk K F H M tl (upC CB) := fun F' H' M' R' Q' E RE g r ⟨RE0, R0, cb, h1, h2⟩ hE k =>
  h F' H' M' R0 Q' E RE0 g r cb (fun F2 H2 M2 cls d x g2 r2 xr q => hE F2 H2 M2 cls d x g2 r2 xr (h1 _ _ q)) fun v H2 F2 M2 x r2 g2 rx q => k v H2 F2 M2 x r2 g2 rx (h2 _ _ q)
/-! ### the def, at its start -/
end Tl
set_option Elab.async false
set_option linter.all false
set_option maxRecDepth 100000
set_option maxHeartbeats 4000000
/-! A law that makes lambdas itself, and calls defs that make some: tables of code known by name. -/
namespace Tl
open PySem PySem.Spec PyProof.Rows L2
section
variable {P : Program} {w : World} {K : PySem.W.Frag} {mg : Str → Option Value} {base : Heap}
theorem mem_lk {b : Addr} {q : Str} : ∀ {l : List (Addr × Str)}, l.lookup b = some q → (b, q) ∈ l
  | [], h => by cases h
  | (p, x) :: r, h => by
    by_cases e : b = p
    · subst e
      have h' : (match b == b with | true => some x | false => r.lookup b) = some q := h
      rw [beq_self_eq_true] at h'
      cases h'
      exact .head _
    · have h' : (match b == p with | true => some x | false => r.lookup b) = some q := h
      rw [beq_eq_false_iff_ne.mpr e] at h'
      exact .tail _ (mem_lk h')
open Classical in
theorem src_newTs {H : Hp} {sa c : Addr} {cs : List Int} {z : Int} {ts : List (Addr × Str)} (hS : SqL K H c (cs.map V.int)) (h1 : H sa = none) (l1 : cs.length ≤ 63) (z0 : 0 ≤ z) (z1 : z < 2305843009213693951) (hT : ∀ t ∈ ts, H t.1 = some (.tbl #[])) (nd : (ts.map (·.1)).Nodup) :
    ∃ F M, Rl K F (upd H sa (.lst [.ref c, .int 0, .int 0, .int z])) M ∧ M sa = some (.src false) ∧ ∀ t ∈ ts, M t.1 = some (.tab t.2) := by
  have nts : ∀ t ∈ ts, t.1 ≠ sa := fun t ht e => by
    have := hT t ht
    rw [e, h1] at this
    cases this
  have hF : SqL K (fun b => if b = c ∧ ∀ t ∈ ts, t.1 ≠ b then H b else none) c (cs.map V.int) := by
    rcases hS with (h | ⟨o, h⟩) | h
    · refine .inl (.inl ?_)
      show (if c = c ∧ ∀ t ∈ ts, t.1 ≠ c then H c else none) = _
      rw [if_pos ⟨rfl, fun t ht e => by have := hT t ht; rw [e, h] at this; cases this⟩]
      exact h
    · refine .inl (.inr ⟨o, ?_⟩)
      show (if c = c ∧ ∀ t ∈ ts, t.1 ≠ c then H c else none) = _
      rw [if_pos ⟨rfl, fun t ht e => by have := hT t ht; rw [e, h] at this; cases this⟩]
      exact h
    · exact .inr h
  have look : ∀ {l : List (Addr × Str)}, (l.map (·.1)).Nodup → ∀ t ∈ l, l.lookup t.1 = some t.2 := by
    intro l
    induction l with
    | nil => intro _ t ht; cases ht
    | cons x r ih =>
      intro nd t ht
      rw [List.map_cons, List.nodup_cons] at nd
      rcases List.mem_cons.mp ht with rfl | ht2
      · obtain ⟨p, q⟩ := t
        show (match p == p with | true => some q | false => _) = _
        rw [beq_self_eq_true]
      · obtain ⟨p, q⟩ := x
        have ne : (t.1 == p) = false := by
          rw [beq_eq_false_iff_ne]
          intro e
          exact nd.1 (List.mem_map.mpr ⟨t, ht2, e⟩)
        show (match t.1 == p with | true => some q | false => _) = _
        rw [ne]
        exact ih nd.2 t ht2
  have mem : ∀ {b : Addr} {q : Str}, ts.lookup b = some q → ∃ t ∈ ts, t.1 = b ∧ t.2 = q := fun {b q} e => ⟨(b, q), mem_lk e, rfl, rfl⟩
  refine ⟨fun b => if b = c ∧ ∀ t ∈ ts, t.1 ≠ b then H b else none, fun b => if b = sa then some (.src false) else (ts.lookup b).map MO.tab, ⟨fun b u q => ?_, fun b o q => ?_, fun b o q => ?_⟩, if_pos rfl, fun t ht => ?_⟩
  · have q' : (if b = c ∧ ∀ t ∈ ts, t.1 ≠ b then H b else none) = some u := q
    split at q'
    · have n : b ≠ sa := fun z => by rw [z, h1] at q'; cases q'
      rw [upd_ne n]
      exact q'
    · cases q'
  · have q' : (if b = sa then some (MO.src false) else (ts.lookup b).map MO.tab) = some o := q
    show (if b = c ∧ ∀ t ∈ ts, t.1 ≠ b then H b else none) = none
    split at q'
    · rename_i e
      rw [e, h1]
      split <;> rfl
    · obtain ⟨q2, e2, _⟩ := Option.map_eq_some_iff.mp q'
      obtain ⟨t, ht, e3, _⟩ := mem e2
      rw [if_neg (fun z => z.2 t ht e3)]
  · have q' : (if b = sa then some (MO.src false) else (ts.lookup b).map MO.tab) = some o := q
    split at q'
    · rename_i e
      cases q'
      exact ⟨_, by rw [e]; exact upd_same, _, rfl, c, cs, 0, 0, z, rfl, hF, l1, (fun h => by cases h), by decide, by decide, z0, by rw [if_neg (by decide)]; exact z1⟩
    · rename_i e
      obtain ⟨q2, e2, rfl⟩ := Option.map_eq_some_iff.mp q'
      obtain ⟨t, ht, e3, _⟩ := mem e2
      exact ⟨_, by rw [upd_ne e, ← e3]; exact hT t ht, tab0 q2⟩
  · show (if t.1 = sa then some (MO.src false) else (ts.lookup t.1).map MO.tab) = _
    rw [if_neg (nts t ht), look nd t ht]
    rfl
end
end Tl
set_option Elab.async false
set_option linter.all false
set_option maxRecDepth 100000
set_option maxHeartbeats 4000000
namespace Tl
open PySem PySem.Spec PyProof.Rows L2
section
variable {P : Program} {w : World} {K : PySem.W.Frag} {mg : Str → Option Value} {base : Heap}
/-- law_at2, some tables known -/
theorem law_atT3 {f : Addr} {fd : FuncData} {k : Nat} {st : Stmt} {N : List Str} {s : Shared} {H : Hp} {a : Addr} {ns : List Int} {z : Int} {ts : List (Addr × Str)} (F : Fun K "law" "law" st f fd) (S : FnScope N ["_law_script"] (defScope st)) (hlen : ns.length ≤ 63) (hS : SqL K H a (ns.map V.int)) (e0 : Env0 P w K mg base callerA [] s H) (hk : Room (k + 1) callerA) (hbi : Binds K fd ["_law_script"] []) (z0 : 0 ≤ z) (z1 : z < 2305843009213693951)
    (hT : ∀ t ∈ ts, H t.1 = some (.tbl #[])) (nd : (ts.map (·.1)).Nodup)
    (hb : ∀ cdv : Value, (callerA.deeper (envOfC "law" (defScope st) s.heap.objs.size f cdv)).guards = some [] → Room k (callerA.deeper (envOfC "law" (defScope st) s.heap.objs.size f cdv)) →
      ∃ (t : TS) (T : TDS), PSs (cxOf CX0 P w K mg base N "law" (defScope st) f cdv callerA [] s H (fun _ _ _ => False)).nox (defBody st) (tSeq (tAsg (tLst (tCons (tVar 0) (tCons (tC (.int 0)) (tCons (tC (.int 0)) (tCons (tC (.int z)) tNil))))) (gName 1)) t) ∧ SSt K (fun _ _ _ _ => False) (fun _ _ _ => False) t T ∧
        ∀ (sa : Addr) (M : Mem), M sa = some (.src false) ∧ (∀ t ∈ ts, M t.1 = some (.tab t.2)) → T (endD fun x _ => x = .d (.bool true)) (put (start0 N.length [.o (.ref a)]) 1 (some (.r sa))) M) :
    codeAny (model P w) callerA (.call (.ref f) ⟨[.ref a], []⟩) (CR CX0 [] P w H s (fun v _ => v = V.bl true) fun _ _ _ => False) s := by
  have KX : K.In s.heap := e0.mod.kin.keeps fun b o q => (e0.bs b o q).1
  obtain ⟨oc, od, kV, doc, pm, an, cdv, ct, osl, rfl, lk, hcd⟩ := F.ex
  refine LamX.run_ofS (k := k) (vs := [V.ref a]) (us := [Value.ref a]) lk hcd S hk e0 (hbi s [.ref a] KX rfl) (.cons rfl .nil) rfl (fun hr => ?_)
  obtain ⟨t, T, h1, h2, h3⟩ := hb cdv rfl hr
  refine ⟨_, h1.nox, ?_⟩
  have hst : L2.start N [V.ref a] = some (V.ref a) :: List.replicate (N.length - 1) none := rfl
  refine ⟨V.ref a, by rw [hst]; rfl, by show 4 ≤ sizeLine; decide, fun sa hsa => ?_⟩
  obtain ⟨F1, M1, r1, hM, hM2⟩ := src_newTs (K := K) hS hsa hlen z0 z1 hT nd
  refine h2 F1 _ M1 _ _ _ _ r1 (fun F' H' M' σ ρ cls d x _ _ _ _ z => z) ?_ (h3 sa M1 ⟨hM, hM2⟩) ?_
  · exact (rel_start (N := N) (K := K) (F := F1) (.cons (.o (V.ref a)) .nil)).set (.r sa) 1
  · exact ek_def (Q := fun v _ => v = V.bl true) fun v H2 F2 M2 x r g rx q => by
      subst q
      exact rx.bl
end
end Tl
set_option Elab.async false
set_option linter.all false
set_option maxRecDepth 100000
set_option maxHeartbeats 4000000
/-! repr of data that hold empty dicts within. -/
namespace Tl
open PySem PySem.Spec PyProof.Rows L2
mutual
/-- v reads as d; no dict within is sys.modules -/
inductive RdS (h : Heap) : Value → PyData → List Addr → Prop
  | none : RdS h .none .none []
  | bool (b) : RdS h (.bool b) (.bool b) []
  | int (i t) : RdS h (.int i t) (.int i) []
  | str (x t) : RdS h (.str x t) (.str x) []
  | list {a o vs n xs as} : h.get? a = some o → o.cls = .type "list" → o.data = .seq vs n → RdSs h vs.toList xs as → RdS h (.ref a) (.list xs) (a :: as)
  | tuple {a o vs n xs as} : h.get? a = some o → o.cls = .type "tuple" → o.data = .seq vs n → RdSs h vs.toList xs as → RdS h (.ref a) (.tuple xs) as
  | dict {a o es n} : h.get? a = some o → o.cls = .type "dict" → o.data = .dict es n → es.toList = [] → (a == sysModules) = false → RdS h (.ref a) (.dict []) [a]
inductive RdSs (h : Heap) : List Value → List PyData → List Addr → Prop
  | nil : RdSs h [] [] []
  | cons {v vs d ds as bs} : RdS h v d as → RdSs h vs ds bs → RdSs h (v :: vs) (d :: ds) (as ++ bs)
end
section
variable {h : Heap}
mutual
theorem RdS.reads : ∀ {d : PyData} {v : Value} {as : List Addr}, RdS h v d as → Reads h v d as
  | .none, _, _, x => by cases x; exact .none
  | .bool _, _, _, x => by cases x; exact .bool _
  | .int _, _, _, x => by cases x; exact .int _ _
  | .str _, _, _, x => by cases x; exact .str _ _
  | .list ds, _, _, x => by
    cases x with
    | list h1 h2 h3 h4 => exact .list h1 h2 h3 (RdSs.reads h4)
  | .tuple ds, _, _, x => by
    cases x with
    | tuple h1 h2 h3 h4 => exact .tuple h1 h2 h3 (RdSs.reads h4)
  | .dict kvs, _, _, x => by
    cases x with
    | @dict a o es n h1 h2 h3 h4 h5 => exact Reads.dict (as := []) (bs := []) h1 h2 h3 (by rw [h4]; exact .nil) (by rw [h4]; exact .nil)
theorem RdSs.reads : ∀ {ds : List PyData} {vs : List Value} {as : List Addr}, RdSs h vs ds as → ReadsAll h vs ds as
  | [], _, _, x => by cases x; exact .nil
  | d :: ds, _, _, x => by
    cases x with
    | cons a b => exact .cons (RdS.reads a) (RdSs.reads b)
end
end
end Tl
set_option Elab.async false
set_option linter.all false
set_option maxRecDepth 100000
set_option maxHeartbeats 8000000
namespace Tl
open PySem L2 RZ
local macro_rules
  | `(tactic| decreasing_trivial) => `(tactic| ((with_reducible (conv => whnf)); (repeat ((first | (with_reducible refine exI (by first | exact mset_same | assumption | (rw [mset_ne (by assumption)]; first | exact mset_same | assumption)) ?_) | (with_reducible refine exI2 (by first | exact mset_same | assumption | (rw [mset_ne (by assumption)]; first | exact mset_same | assumption)) ?_) | (with_reducible refine gDs_c ?_) | (with_reducible refine gDs_n ?_) | (with_reducible refine gNs_c ?_) | (with_reducible refine gNs_n ?_) | (with_reducible refine gO_i tyAny_lt ?_) | (with_reducible refine gIs_c ?_) | (with_reducible refine gIs_n ?_) | (with_reducible refine gBs_c ?_) | (with_reducible refine gBs_n ?_) | (with_reducible refine gSs_c ?_) | (with_reducible refine gSs_n ?_) | (with_reducible refine gO_i tyIs_int ?_) | (with_reducible refine gO_i tyIs_bool ?_) | (with_reducible refine gO_i tyIs_str ?_) | (with_reducible refine gO_i tyIs_tuple ?_) | (with_reducible refine gO_i tyIs_list ?_) | (with_reducible refine gDs_i ?_) | (with_reducible refine gO_i (Eq.refl _) ?_) | (with_reducible refine gO_i (by assumption) ?_) | (with_reducible refine gO_i at_0 ?_) | (with_reducible refine gO_i at_m0 ?_) | (with_reducible refine gO_i at_1 ?_) | (with_reducible refine gO_i at_m1 ?_) | (with_reducible refine gO_i at_2 ?_) | (with_reducible refine gO_i at_m2 ?_) | (with_reducible refine gO_i at_3 ?_) | (with_reducible refine gO_i at_m3 ?_) | (with_reducible refine gO_i at_4 ?_) | (with_reducible refine gO_i at_m4 ?_) | (with_reducible refine gO_i at_5 ?_) | (with_reducible refine gO_i at_m5 ?_) | (with_reducible refine gO_i at_6 ?_) | (with_reducible refine gO_i at_m6 ?_) | (with_reducible refine gO_i at_7 ?_) | (with_reducible refine gO_i at_m7 ?_) | (with_reducible refine IfB.ngf ?_) | (with_reducible refine IfB.ngt ?_) | (with_reducible refine IfB.not ?_) | (with_reducible refine IfB.nil ?_) | (with_reducible refine IfB.nilT ?_) | (with_reducible refine IfB.f isE_c ?_) | (with_reducible refine IfB.t isE_n ?_) | (with_reducible refine IfB.t ?gha ?_; (case gha => rfl)) | (with_reducible refine IfB.f ?gha ?_; (case gha => rfl)) | (with_reducible refine IfB.t ?gha ?_; (case gha => assumption)) | (with_reducible refine IfB.f ?gha ?_; (case gha => assumption)) | (with_reducible refine IfB.yes (Eq.refl _) ?_) | (with_reducible refine IfB.yes ?gha ?_; (case gha => (first | omega | (simp only [len_c, len_n, List.length_map]; omega)))) | (with_reducible refine IfB.no ?gha ?_; (case gha => (first | omega | (simp only [len_c, len_n, List.length_map]; omega)))) | (with_reducible refine IfB.t ?gha ?_; (case gha => decide +kernel)) | (with_reducible refine IfB.f ?gha ?_; (case gha => decide +kernel))); (with_reducible (conv => whnf))))))
local macro_rules
  | `(tactic| decreasing_trivial_pre_omega) => `(tactic| (decreasing_trivial; (repeat ((first | ((with_reducible refine And.intro ?gha ?_); (case gha => (first | assumption | omega | exact rfl | (exact mset_same) | (exact ⟨_, mset_same⟩) | (exact Exists.intro _ (by first | exact mset_same | assumption | (rw [mset_ne (by assumption)]; first | exact mset_same | assumption))) | (exact sm_of (by omega) (by omega)) | (exact sz1000 (by first | omega | (simp; done) | (simp; omega))) | (exact Or.inl ⟨by decide, by decide⟩) | decide | (simp; done) | (refine ⟨?_, ?_⟩ <;> (first | assumption | omega | exact rfl | (exact mset_same) | (exact ⟨_, mset_same⟩) | (exact Exists.intro _ (by first | exact mset_same | assumption | (rw [mset_ne (by assumption)]; first | exact mset_same | assumption))) | (exact sm_of (by omega) (by omega)) | (exact sz1000 (by first | omega | (simp; done) | (simp; omega))) | (exact Or.inl ⟨by decide, by decide⟩) | decide | (simp; done))) | (refine ⟨?_, ?_, ?_⟩ <;> (first | assumption | omega | exact rfl | (exact mset_same) | (exact ⟨_, mset_same⟩) | (exact Exists.intro _ (by first | exact mset_same | assumption | (rw [mset_ne (by assumption)]; first | exact mset_same | assumption))) | (exact sm_of (by omega) (by omega)) | (exact sz1000 (by first | omega | (simp; done) | (simp; omega))) | (exact Or.inl ⟨by decide, by decide⟩) | decide | (simp; done))) | (refine ⟨?_, ?_, ?_, ?_⟩ <;> (first | assumption | omega | exact rfl | (exact mset_same) | (exact ⟨_, mset_same⟩) | (exact Exists.intro _ (by first | exact mset_same | assumption | (rw [mset_ne (by assumption)]; first | exact mset_same | assumption))) | (exact sm_of (by omega) (by omega)) | (exact sz1000 (by first | omega | (simp; done) | (simp; omega))) | (exact Or.inl ⟨by decide, by decide⟩) | decide | (simp; done)))))) | (with_reducible refine exW (by first | exact mset_same | assumption | (rw [mset_ne (by assumption)]; first | exact mset_same | assumption)) ?_)); decreasing_trivial))))
structure Cls (K : PySem.W.Frag) (mg : Str → Option Value) where
  c_TreeError : Addr
  c_NoThing : Addr
  c_NoFit : Addr
  c_NoTree : Addr
  c_NoCosts : Addr
  c_NoMatching : Addr
  c_TooMany : Addr
  c_Weighing : Addr
  m_TreeError : mg "TreeError" = some (.ref c_TreeError)
  m_NoThing : mg "NoThing" = some (.ref c_NoThing)
  m_NoFit : mg "NoFit" = some (.ref c_NoFit)
  m_NoTree : mg "NoTree" = some (.ref c_NoTree)
  m_NoCosts : mg "NoCosts" = some (.ref c_NoCosts)
  m_NoMatching : mg "NoMatching" = some (.ref c_NoMatching)
  m_TooMany : mg "TooMany" = some (.ref c_TooMany)
  m_Weighing : mg "Weighing" = some (.ref c_Weighing)
  e_NoTree : Er K mg "NoTree" c_NoTree
  x_NoTree : ExcC K c_NoTree
  v_NoTree : PySem.W.kitOne K (.ref c_NoTree) (.type "ValueError") = some true
  k_NoTree_TreeError : PySem.W.kitOne K (.ref c_NoTree) (.ref c_TreeError) = some true
  k_NoTree_NoThing : PySem.W.kitOne K (.ref c_NoTree) (.ref c_NoThing) = some true
  k_NoTree_NoFit : PySem.W.kitOne K (.ref c_NoTree) (.ref c_NoFit) = some false
  k_NoTree_NoTree : PySem.W.kitOne K (.ref c_NoTree) (.ref c_NoTree) = some true
  k_NoTree_NoCosts : PySem.W.kitOne K (.ref c_NoTree) (.ref c_NoCosts) = some false
  k_NoTree_NoMatching : PySem.W.kitOne K (.ref c_NoTree) (.ref c_NoMatching) = some false
  k_NoTree_TooMany : PySem.W.kitOne K (.ref c_NoTree) (.ref c_TooMany) = some false
  k_NoTree_Weighing : PySem.W.kitOne K (.ref c_NoTree) (.ref c_Weighing) = some false
  e_NoCosts : ErF K mg "NoCosts" "NoCosts.__init__" "what" sI_NoCosts c_NoCosts
  x_NoCosts : ExcC K c_NoCosts
  v_NoCosts : PySem.W.kitOne K (.ref c_NoCosts) (.type "ValueError") = some true
  k_NoCosts_TreeError : PySem.W.kitOne K (.ref c_NoCosts) (.ref c_TreeError) = some true
  k_NoCosts_NoThing : PySem.W.kitOne K (.ref c_NoCosts) (.ref c_NoThing) = some true
  k_NoCosts_NoFit : PySem.W.kitOne K (.ref c_NoCosts) (.ref c_NoFit) = some false
  k_NoCosts_NoTree : PySem.W.kitOne K (.ref c_NoCosts) (.ref c_NoTree) = some false
  k_NoCosts_NoCosts : PySem.W.kitOne K (.ref c_NoCosts) (.ref c_NoCosts) = some true
  k_NoCosts_NoMatching : PySem.W.kitOne K (.ref c_NoCosts) (.ref c_NoMatching) = some false
  k_NoCosts_TooMany : PySem.W.kitOne K (.ref c_NoCosts) (.ref c_TooMany) = some false
  k_NoCosts_Weighing : PySem.W.kitOne K (.ref c_NoCosts) (.ref c_Weighing) = some false
  e_TooMany : ErF K mg "TooMany" "TooMany.__init__" "count" sI_TooMany c_TooMany
  x_TooMany : ExcC K c_TooMany
  v_TooMany : PySem.W.kitOne K (.ref c_TooMany) (.type "ValueError") = some true
  k_TooMany_TreeError : PySem.W.kitOne K (.ref c_TooMany) (.ref c_TreeError) = some true
  k_TooMany_NoThing : PySem.W.kitOne K (.ref c_TooMany) (.ref c_NoThing) = some false
  k_TooMany_NoFit : PySem.W.kitOne K (.ref c_TooMany) (.ref c_NoFit) = some true
  k_TooMany_NoTree : PySem.W.kitOne K (.ref c_TooMany) (.ref c_NoTree) = some false
  k_TooMany_NoCosts : PySem.W.kitOne K (.ref c_TooMany) (.ref c_NoCosts) = some false
  k_TooMany_NoMatching : PySem.W.kitOne K (.ref c_TooMany) (.ref c_NoMatching) = some false
  k_TooMany_TooMany : PySem.W.kitOne K (.ref c_TooMany) (.ref c_TooMany) = some true
  k_TooMany_Weighing : PySem.W.kitOne K (.ref c_TooMany) (.ref c_Weighing) = some false
  e_NoMatching : ErF K mg "NoMatching" "NoMatching.__init__" "what" sI_NoMatching c_NoMatching
  x_NoMatching : ExcC K c_NoMatching
  v_NoMatching : PySem.W.kitOne K (.ref c_NoMatching) (.type "ValueError") = some true
  k_NoMatching_TreeError : PySem.W.kitOne K (.ref c_NoMatching) (.ref c_TreeError) = some true
  k_NoMatching_NoThing : PySem.W.kitOne K (.ref c_NoMatching) (.ref c_NoThing) = some true
  k_NoMatching_NoFit : PySem.W.kitOne K (.ref c_NoMatching) (.ref c_NoFit) = some false
  k_NoMatching_NoTree : PySem.W.kitOne K (.ref c_NoMatching) (.ref c_NoTree) = some false
  k_NoMatching_NoCosts : PySem.W.kitOne K (.ref c_NoMatching) (.ref c_NoCosts) = some false
  k_NoMatching_NoMatching : PySem.W.kitOne K (.ref c_NoMatching) (.ref c_NoMatching) = some true
  k_NoMatching_TooMany : PySem.W.kitOne K (.ref c_NoMatching) (.ref c_TooMany) = some false
  k_NoMatching_Weighing : PySem.W.kitOne K (.ref c_NoMatching) (.ref c_Weighing) = some false
structure WgR (K : PySem.W.Frag) (C : Addr) where
  M : WgC K C
  f0 : Addr
  d0 : FuncData
  F0 : Fun K "__init__" "Weighing.__init__" sWgIn f0 d0
  mkr : L2.Mk K C f0
  f1 : Addr
  d1 : FuncData
  F1 : Fun K "below_tops" "Weighing.below_tops" sTops f1 d1
  h1 : L2.Meth K C "below_tops" f1
  f2 : Addr
  d2 : FuncData
  F2 : Fun K "naming" "Weighing.naming" sNaming f2 d2
  h2 : L2.Meth K C "naming" f2
structure Calls (P : Program) (w : World) (K : PySem.W.Frag) (mg : Str → Option Value) (base : Heap) (A : Cls K mg) (C tp : Addr) where
  j : Nat
  hj : j ≤ 130
  tree : Use P w K mg base "_law_tree" ["_law_state", "_law_most"] j (spD K 2 (tfTreeL false))
  take : Use P w K mg base "_law_take" ["_law_state", "_law_below"] j (spD K 2 (tfNext false))
  changed : Use P w K mg base "_law_changed" ["_law_state", "_law_tree_here"] j (spD K 2 (tfChgL 12))
  size : Use P w K mg base "_law_size" ["_law_tree_here"] j (spD K 1 (tfN nn 12))
  top : Use P w K mg base "_law_top" ["_law_one", "_law_other"] j (spD K 2 (tfTopL 12))
  grown : Use P w K mg base "_law_grown" ["_law_state", "_law_one", "_law_other"] j (spD K 3 tfGrown)
  places : Use P w K mg base "_law_places" ["_law_tree_here", "_law_path"] j (spD K 2 (tfPls 12))
  isTop : Use P w K mg base "is_top" ["one", "other", "thing"] j (spD K 3 (tfMatB topB))
  topM : Use P w K mg base "top_matching" ["one", "other"] j (spD K 2 (tfTopM A.c_NoTree tp))
  cost : UseX P w K mg base "cost_between" ["one", "other", "costs"] j (spD K 3 (tfCost C A.c_NoTree A.c_NoCosts A.c_TooMany))
  costOf : UseX P w K mg base "cost_of" ["one", "other", "costs", "matching"] j (spD K 4 (tfCostOf A.c_NoMatching))
theorem cost_one {t u : PyData} {ps : List PPr} : (1 : Int) * (unlikeN t u ps : Nat) + 1 * ((nn t : Nat) - (ps.length : Nat)) + 1 * ((nn u : Nat) - (ps.length : Nat)) = tCm t u ps := by
  unfold tCm
  omega
theorem mat_B {t u : PyData} {ps : List PPr} (h : Mat t u ps) {p : Prop} (z : matB t u (.tuple (ps.map pairD)) = false) : p := by
  rw [matB_yes ⟨_, rfl, h⟩] at z
  cases z
theorem tup_inj {ps qs : List PPr} (e : PyData.tuple (ps.map pairD) = .tuple (qs.map pairD)) : ps = qs := by
  injection e with e
  exact prs_inj e
theorem pls_id (l : List (List Nat)) : pls [] l = l.map pathD := rfl
theorem path_gk12 {t : PyData} {q : List Nat} (h : Tr2 t) (hq : q ∈ plc t) : Gk 21260 24 (pathD q) := by
  obtain ⟨e, he⟩ := plc_sub h.tr _ hq
  obtain ⟨_, _, _, hl, _⟩ := node_at h.tr he
  obtain ⟨_, h2⟩ := plc_ok h.tr h.n hq
  unfold pathD
  refine ((Gks.ofL (m := 1930) (k := 0) (n := 11) (m' := 21252) (fun d hd => ?_) (by rw [List.length_map]; omega) (by decide)).tup (m' := 21260) (by decide)).mono (Nat.le_refl _) (by decide)
  obtain ⟨i, hi, rfl⟩ := List.mem_map.mp hd
  have := h2 i hi
  exact gk_i (by omega) (by omega)
theorem told_gk {t u : PyData} (ht : Tr2 t) (hu : Tr2 u) {ps : List PPr} (h : Mat t u ps) {n : Nat} (hl : ps.length ≤ n) : Gk (42535 * n + 10) 30 (.tuple (ps.map pairD)) := by
  have hp : ∀ d ∈ ps.map pairD, Gk 42530 25 d := fun d hd => by
    obtain ⟨x, hx, rfl⟩ := List.mem_map.mp hd
    obtain ⟨h1, h2⟩ := h.at_ x hx
    exact ((Gks.cons (path_gk12 ht h1) (Gks.cons (path_gk12 hu h2) (Gks.nil (m := 0)) (m'' := 21262) (by decide)) (m'' := 42524) (by decide)).tup (m' := 42530) (by decide)).mono (Nat.le_refl _) (by decide)
  have hq := Gks.ofL (m := 42530) (k := 25) (n := n) (m' := 42535 * n) hp (by rw [List.length_map]; exact hl) (by omega)
  exact ((hq.tup (m' := 42535 * n + 10) (by omega)).mono (Nat.le_refl _) (by decide))
section
variable {P : Program} {w : World} {K : PySem.W.Frag} {mg : Str → Option Value} {base : Heap}
abbrev sLaw : Stmt := top 62
theorem scLaw : FnScope ["_law_script", "_law_state", "_law_one", "_law_other", "_law_told", "_law_least", "_law_turn", "_law_made", "_law_path"] ["_law_script"] (defScope sLaw) := ⟨rfl, rfl, rfl, by decide +kernel, rfl, by decide +kernel, by decide +kernel⟩
theorem ok_law {f C tp : Addr} {fd : FuncData} {s : Shared} {H : Hp} {a : Addr} {ns : List Int} (F : Fun K "law" "law" sLaw f fd) (T : Bl mg) {A : Cls K mg} (U : Calls P w K mg base A C tp) (hT : H tp = some (.tbl #[])) (hlen : ns.length ≤ 63) (hS : SqL K H a (ns.map V.int)) (e0 : Env0 P w K mg base callerA [] s H) :
    codeAny (model P w) callerA (.call (.ref f) ⟨[.ref a], []⟩) (CR CX0 [] P w H s (fun v _ => v = V.bl true) fun _ _ _ => False) s := by
  obtain ⟨j, hj, U_law_tree, U_law_take, U_law_changed, U_law_size, U_law_top, U_law_grown, U_law_places, Uis_top, Utop_matching, Ucost_between, Ucost_of⟩ := U
  refine law_atT3 (ts := [(tp, qLin)]) (k := 200) (z := 48) F scLaw hlen hS e0 ⟨rfl, by decide, by decide⟩ (F.binds (ps := ["_law_script"]) fun _ _ _ _ _ _ us hl => match us, hl with | [_], _ => rfl) (by decide) (by decide) (fun t ht => by rw [List.mem_singleton.mp ht]; exact hT) (by simp) fun cdv hgu hr => ?_
  have hun : (callerA.deeper (PyProof.Rows.envOfC "law" (defScope sLaw) s.heap.objs.size f cdv)).units + 200 < cLine := by
    have := hr.un
    omega
  refine ⟨_, _, (pss_cons (ps_set (i := 1) scLaw.nd rfl (.inl rfl) (pe_lst (pa_cons (pv 0) (pa_cons pe_int (pa_cons pe_int (pa_cons pe_int pa_nil))))))
    (pss_cons (ps_set (i := 2) scLaw.nd rfl (.inl rfl) (pe_call U_law_tree.ok (hr.mono (by omega)) rfl U_law_tree.m U_law_tree.kp U_law_tree.b .nil pass0 (pa_cons (pv 1) (pa_cons pe_int pa_nil))))
    (pss_cons (ps_set (i := 3) scLaw.nd rfl (.inl rfl) (pe_call U_law_tree.ok (hr.mono (by omega)) rfl U_law_tree.m U_law_tree.kp U_law_tree.b .nil pass0 (pa_cons (pv 1) (pa_cons pe_int pa_nil))))
    (pss_cons (ps_if (pt_cmpR op_eq (pe_call U_law_take.ok (hr.mono (by omega)) rfl U_law_take.m U_law_take.kp U_law_take.b .nil pass0 (pa_cons (pv 1) (pa_cons pe_int pa_nil))) pe_int (nomark _)) (pss_one (ps_set (i := 3) scLaw.nd rfl (.inl rfl) (pe_call U_law_changed.ok (hr.mono (by omega)) rfl U_law_changed.m U_law_changed.kp U_law_changed.b .nil pass0 (pa_cons (pv 1) (pa_cons (pv 2) pa_nil))))) pss_nil)
    (pss_cons (ps_set (i := 4) scLaw.nd rfl (.inl rfl) (pe_call Utop_matching.ok (hr.mono (by omega)) rfl Utop_matching.m Utop_matching.kp Utop_matching.b .nil pass0 (pa_cons (pv 2) (pa_cons (pv 3) pa_nil))))
    (pss_cons (ps_if (PW.pt (pw_or (pt_cmpR op_notBl (pe_call Uis_top.ok (hr.mono (by omega)) rfl Uis_top.m Uis_top.kp Uis_top.b .nil pass0 (pa_cons (pv 2) (pa_cons (pv 3) (pa_cons (pv 4) pa_nil)))) pe_bl (nomark _)) (pw_or1 (pt_cmpR op_ne (pe_callB (call_reprD hgu hun) (by rfl) T.repr PyProof.Rows.boot_repr (pa_cons (pe_call Utop_matching.ok (hr.mono (by omega)) rfl Utop_matching.m Utop_matching.kp Utop_matching.b .nil pass0 (pa_cons (pv 2) (pa_cons (pv 3) pa_nil))) pa_nil)) (pe_callB (call_reprD hgu hun) (by rfl) T.repr PyProof.Rows.boot_repr (pa_cons (pv 4) pa_nil)) (nomark _))))) (pss_one (ps_ret pe_bl)) pss_nil)
    (pss_cons (ps_set (i := 5) scLaw.nd rfl (.inl rfl) (pe_callS Ucost_of.ok (hr.mono (by omega)) rfl Ucost_of.m Ucost_of.kp Ucost_of.b (fun σ => passAt takes0 σ) (pa_cons (pv 2) (pa_cons (pv 3) (pa_cons (pe_tup (pa_cons pe_int (pa_cons pe_int (pa_cons pe_int pa_nil)))) (pa_cons (pv 4) pa_nil))))))
    (pss_cons (ps_if (pt_cmpR op_ne (pv 5) (pe_call U_law_top.ok (hr.mono (by omega)) rfl U_law_top.m U_law_top.kp U_law_top.b .nil pass0 (pa_cons (pv 2) (pa_cons (pv 3) pa_nil))) (nomark _)) (pss_one (ps_ret pe_bl)) pss_nil)
    (pss_cons (ps_for PassesOwn.never rfl (pi_range1 (by rfl) T.range (pa_cons pe_int pa_nil)) (pg_name (i := 6) scLaw.nd rfl (.inl rfl)) (pss_cons (ps_set (i := 7) scLaw.nd rfl (.inl rfl) (pe_call U_law_grown.ok (hr.mono (by omega)) rfl U_law_grown.m U_law_grown.kp U_law_grown.b .nil pass0 (pa_cons (pv 1) (pa_cons (pv 2) (pa_cons (pv 3) pa_nil)))))
      (pss_one (ps_if (PW.pt (pw_or (pt_cmpR op_notBl (pe_call Uis_top.ok (hr.mono (by omega)) rfl Uis_top.m Uis_top.kp Uis_top.b .nil pass0 (pa_cons (pv 2) (pa_cons (pv 3) (pa_cons (pv 7) pa_nil)))) pe_bl (nomark _)) (pw_or1 (pt_cmpR op_lt (pe_callS Ucost_of.ok (hr.mono (by omega)) rfl Ucost_of.m Ucost_of.kp Ucost_of.b (fun σ => passAt takes0 σ) (pa_cons (pv 2) (pa_cons (pv 3) (pa_cons (pe_tup (pa_cons pe_int (pa_cons pe_int (pa_cons pe_int pa_nil)))) (pa_cons (pv 7) pa_nil))))) (pv 5) (nomark _))))) (pss_one (ps_ret pe_bl)) pss_nil))))
    (pss_cons (ps_if (PW.pt (pw_and (pt_cmpR op_lt (pe_callB (call_max2 rfl) (by rfl) T.max PyProof.Rows.boot_max (pa_cons (pe_call U_law_size.ok (hr.mono (by omega)) rfl U_law_size.m U_law_size.kp U_law_size.b .nil pass0 (pa_cons (pv 2) pa_nil)) (pa_cons (pe_call U_law_size.ok (hr.mono (by omega)) rfl U_law_size.m U_law_size.kp U_law_size.b .nil pass0 (pa_cons (pv 3) pa_nil)) pa_nil))) pe_int (nomark _)) (pw_and1 (pt_cmpR op_gt (pe_callS Ucost_between.ok (hr.mono (by omega)) rfl Ucost_between.m Ucost_between.kp Ucost_between.b (fun σ => passAt takes0 σ) (pa_cons (pv 2) (pa_cons (pv 3) (pa_cons (pe_tup (pa_cons pe_int (pa_cons pe_int (pa_cons pe_int pa_nil)))) pa_nil)))) (pv 5) (nomark _))))) (pss_one (ps_ret pe_bl)) pss_nil)
    (pss_cons (ps_if (pt_cmpR op_ne (pe_callS Ucost_of.ok (hr.mono (by omega)) rfl Ucost_of.m Ucost_of.kp Ucost_of.b (fun σ => passAt takes0 σ) (pa_cons (pv 3) (pa_cons (pv 2) (pa_cons (pe_tup (pa_cons pe_int (pa_cons pe_int (pa_cons pe_int pa_nil)))) (pa_cons (pe_call Utop_matching.ok (hr.mono (by omega)) rfl Utop_matching.m Utop_matching.kp Utop_matching.b .nil pass0 (pa_cons (pv 3) (pa_cons (pv 2) pa_nil))) pa_nil))))) (pv 5) (nomark _)) (pss_one (ps_ret pe_bl)) pss_nil)
    (pss_one (ps_ret (pe_cmpR (op_eqD hr.units) (pe_call Utop_matching.ok (hr.mono (by omega)) rfl Utop_matching.m Utop_matching.kp Utop_matching.b .nil pass0 (pa_cons (pv 2) (pa_cons (pv 2) pa_nil))) (pe_callTy call_tuple_of (by rfl) T.tuple PyProof.Rows.boot_tuple (pa_cons (pe_lc (own := [("_law_path", 8)]) (g := gName 8) (tt := tYes) (by rfl) scLaw.nd (pi_list (pe_call U_law_places.ok (hr.mono (by omega)) rfl U_law_places.m U_law_places.kp U_law_places.b .nil pass0 (pa_cons (pv 2) (pa_cons (pe_tup pa_nil) pa_nil)))) (blkOk_by (N := ["_law_script", "_law_state", "_law_one", "_law_other", "_law_told", "_law_least", "_law_turn", "_law_made", "_law_path"]) (sc := defScope sLaw) (own := [("_law_path", 8)]) (by decide +kernel)) (fun _ _ _ _ _ => pg_name (i := 8) scLaw.nd rfl (Or.inl rfl)) (fun _ _ _ _ _ => pts_nil) (fun _ _ _ _ _ => (pe_tup (pa_cons (pv 8) (pa_cons (pv 8) pa_nil))))) pa_nil)) (nomark _))))))))))))))),
    (ss_cons (ss_set (se_call (sa_cons se_nm (sa_cons se_int sa_nil))))
    (ss_cons (ss_set (se_call (sa_cons se_nm (sa_cons se_int sa_nil))))
    (ss_cut (ss_if (st_test (se_op so_eqS (se_call (sa_cons se_nm (sa_cons se_int sa_nil))) se_int)) (ss_set (se_call (sa_cons se_nm (sa_cons se_nm sa_nil)))) ss_nil)
    (ss_cons (ss_set (se_call (sa_cons se_nm (sa_cons se_nm sa_nil))))
    (ss_cons (ss_if (st_or (st_test (se_op so_notB (se_call (sa_cons se_nm (sa_cons se_nm (sa_cons se_nm sa_nil)))) se_bl)) (st_test (se_op so_neS (se_cb sc_repr (sa_cons (se_call (sa_cons se_nm (sa_cons se_nm sa_nil))) sa_nil)) (se_cb sc_repr (sa_cons se_nm sa_nil))))) (ss_ret se_bl) ss_nil)
    (ss_cons (ss_set (se_callX (sa_cons se_nm (sa_cons se_nm (sa_cons (se_tup (sa_cons se_int (sa_cons se_int (sa_cons se_int sa_nil)))) (sa_cons se_nm sa_nil))))))
    (ss_cons (ss_if (st_test (se_op so_neS se_nm (se_call (sa_cons se_nm (sa_cons se_nm sa_nil))))) (ss_ret se_bl) ss_nil)
    (ss_cons (ss_for (si_r1 (sa_cons se_int sa_nil)) sg_name (ss_cons (ss_set (se_call (sa_cons se_nm (sa_cons se_nm (sa_cons se_nm sa_nil)))))
      (ss_if (st_or (st_test (se_op so_notB (se_call (sa_cons se_nm (sa_cons se_nm (sa_cons se_nm sa_nil)))) se_bl)) (st_test (se_op so_lt (se_callX (sa_cons se_nm (sa_cons se_nm (sa_cons (se_tup (sa_cons se_int (sa_cons se_int (sa_cons se_int sa_nil)))) (sa_cons se_nm sa_nil))))) se_nm))) (ss_ret se_bl) ss_nil)))
    (ss_cons (ss_if (st_and (st_test (se_op so_lt (se_cb sc_max2 (sa_cons (se_call (sa_cons se_nm sa_nil)) (sa_cons (se_call (sa_cons se_nm sa_nil)) sa_nil))) se_int)) (st_test (se_op so_gt (se_callX (sa_cons se_nm (sa_cons se_nm (sa_cons (se_tup (sa_cons se_int (sa_cons se_int (sa_cons se_int sa_nil)))) sa_nil)))) se_nm))) (ss_ret se_bl) ss_nil)
    (ss_cons (ss_if (st_test (se_op so_neS (se_callX (sa_cons se_nm (sa_cons se_nm (sa_cons (se_tup (sa_cons se_int (sa_cons se_int (sa_cons se_int sa_nil)))) (sa_cons (se_call (sa_cons se_nm (sa_cons se_nm sa_nil))) sa_nil))))) se_nm)) (ss_ret se_bl) ss_nil)
    (ss_ret (se_op so_eqD (se_call (sa_cons se_nm (sa_cons se_nm sa_nil))) (se_cb sc_tuple (sa_cons (se_lcF (si_lst (se_call (sa_cons se_nm (sa_cons (se_tup sa_nil) sa_nil)))) sg_name st_yes (se_tup (sa_cons se_nm (sa_cons se_nm sa_nil)))) sa_nil)))))))))))))), fun st M hM => ?_⟩
  obtain ⟨hM, hM2⟩ := hM
  have hM2 := hM2 _ (List.mem_singleton.mpr rfl)
  simp only [start0, len_c, len_n, map_c, map_n, app_c, app_n, rep_0, rep_s, Nat.reduceAdd, Nat.reduceSub]
  decreasing_trivial_pre_omega
  intro t ht0 hw0 hn0
  decreasing_trivial_pre_omega
  intro u0 hu0 hw1 hn1
  have ht : Tr2 t := ⟨ht0.t.mono (by decide), by omega⟩
  have nt : nn t ≤ 16 := by omega
  decreasing_trivial_pre_omega
  refine seq_cut (fun ρ' M' => M = M' ∧ ∃ u, ρ' = [some (.o (.ref a)), some (.r st), some (W.d t), some (W.d u), none, none, none, none, none] ∧ Tr2 u ∧ nn u ≤ 31) (fun N hN => ?_) (fun ρ' M' c => ?_)
  · decreasing_trivial_pre_omega
    intro r r0 r1
    decreasing_trivial_pre_omega
    refine IfB.d (fun c0 => ?_) (fun c0 => ?_)
    · decreasing_trivial_pre_omega
      refine ⟨st, t, rfl, ⟨hM, ht.tr, by omega⟩, fun d hd hnd => ?_⟩
      decreasing_trivial_pre_omega
      exact hN _ _ ⟨rfl, d, rfl, ⟨hd, by omega⟩, by omega⟩
    · decreasing_trivial_pre_omega
      exact hN _ _ ⟨rfl, u0, rfl, ⟨hu0.t.mono (by decide), by omega⟩, by omega⟩
  · obtain ⟨rfl, u, rfl, hu, nu⟩ := c
    have rt := ht.tr
    have ru := hu.tr
    obtain ⟨mT, tT, cT1⟩ := toldT_ok (n := 0) rt ru
    have lT : (toldT t u).length ≤ 16 := by
      have := mT.len
      rw [plc_len rt] at this
      omega
    have gT1 := told_gk ht hu mT lT
    have xT := gd_txt _ gT1.1
    have shT := GdE.sh (.inl (gT1.mono (by decide) (by decide)))
    have pT : topB t u (.tuple ((toldT t u).map pairD)) = true := topB_yes ⟨_, rfl, mT, tT⟩
    decreasing_trivial_pre_omega
    refine ⟨t, u, rfl, ⟨ht, hu, hM2⟩, ?_⟩
    decreasing_trivial_pre_omega
    refine ⟨t, u, _, rfl, ⟨ht, hu, xT⟩, ?_⟩
    rw [pT]
    decreasing_trivial_pre_omega
    refine ⟨t, u, rfl, ⟨ht, hu, hM2⟩, ?_⟩
    decreasing_trivial_pre_omega
    have c111 : costsB (.tuple [.int 1, .int 1, .int 1]) = true := by decide +kernel
    refine ⟨t, u, _, 1, 1, 1, rfl, ⟨ht, hu, xT, c111⟩, fun ps e hm => ?_, fun z => mat_B mT z⟩
    obtain rfl := tup_inj e
    rw [cost_one, cT1]
    decreasing_trivial_pre_omega
    refine ⟨t, u, 12, rfl, ⟨rt, ru, by decide, by decide, by omega, by omega⟩, ?_⟩
    decreasing_trivial_pre_omega
    refine forR (n := 4) (fun i ρ M' => M = M' ∧ ∃ y6 y7, ρ = [some (.o (.ref a)), some (.r st), some (W.d t), some (W.d u), some (W.d (.tuple ((toldT t u).map pairD))), some (W.d (.int (tD 12 t u))), y6, y7, none]) ⟨rfl, _, _, rfl⟩ (fun _ _ _ _ _ => trivial) (fun i ρ M' N hi q hN => ?_) (fun ρ M' q => ?_)
    · obtain ⟨rfl, y6, y7, rfl⟩ := q
      rw [Int.zero_add]
      decreasing_trivial_pre_omega
      refine ⟨st, t, u, rfl, ⟨hM, ht, hu⟩, fun ps hp => ?_⟩
      obtain ⟨mP, tP⟩ := tr_mat hp
      have cP : tCm t u (srtPP ps) = tCm t u ps := tC_perm (srtPP_perm ps)
      have lb := tD_lb 12 t u 12 rt ru ps hp
      have lP : (srtPP ps).length ≤ 16 := by
        have := mP.len
        rw [plc_len rt] at this
        omega
      have xP := gd_txt _ (told_gk ht hu mP lP).1
      have pP : topB t u (.tuple ((srtPP ps).map pairD)) = true := topB_yes ⟨_, rfl, mP, tP⟩
      decreasing_trivial_pre_omega
      refine ⟨t, u, _, rfl, ⟨ht, hu, xP⟩, ?_⟩
      rw [pP]
      decreasing_trivial_pre_omega
      refine ⟨t, u, _, 1, 1, 1, rfl, ⟨ht, hu, xP, c111⟩, fun qs e hm => ?_, fun z => mat_B mP z⟩
      obtain rfl := tup_inj e
      rw [cost_one, cP]
      decreasing_trivial_pre_omega
      exact hN _ _ ⟨rfl, _, _, rfl⟩
    · obtain ⟨rfl, y6, y7, rfl⟩ := q
      have it := ht.is
      have iu := hu.is
      have tt := ht.txt
      have tu := hu.txt
      have lt := lab_len rt
      have lu := lab_len ru
      have hA := nst_of rt
      have hB := nst_of ru
      have pt := nn_pos t
      have pu := nn_pos u
      obtain ⟨mU, tU, cU⟩ := toldT_ok (n := 0) ru rt
      have lU : (toldT u t).length ≤ 31 := by
        have := mU.len
        rw [plc_len ru] at this
        omega
      have xU := gd_txt _ (told_gk hu ht mU lU).1
      have lbC : nn t ≤ 12 → nn u ≤ 12 → costD t u ⟨1, 1, 1⟩ ≤ tD 12 t u := fun z1 z2 => by
        have sz := tops_sz (A := labOf t) (B := labOf u) (by omega) (by omega)
        obtain ⟨v, hv⟩ := fill_has (labOf t) (labOf u) ⟨1, 1, 1⟩ sz []
        have hv : wN ⟨1, 1, 1⟩ (kwL (tbR (labOf t) (labOf u) ⟨1, 1, 1⟩)) (topsOf (labOf t) (labOf u)) = some v := hv
        obtain ⟨rg, _⟩ := fill_rgt (c := ⟨1, 1, 1⟩) hA hB 25 (topsOf (labOf t) (labOf u)) [] tops_spn sz ⟨fun r h => (by cases h), fun r h => by cases h⟩
        have rg : Rgt (labOf t) (labOf u) ⟨1, 1, 1⟩ (tbR (labOf t) (labOf u) ⟨1, 1, 1⟩) := rg
        have lb := mat_lb rt ru rg hv mT
        rw [show costD t u ⟨1, 1, 1⟩ = v + (nam (labOf t) (labOf u) ⟨1, 1, 1⟩ ((labOf t).length - 1) ((labOf u).length - 1) : Nat) by unfold costD; rw [hv]; rfl, ← cT1, ← tC_m]
        exact lb
      have iC : Cst.In ⟨1, 1, 1⟩ := ⟨by decide, by decide, by decide, by decide, by decide, by decide⟩
      decreasing_trivial_pre_omega
      refine IfB.d (fun c0 => ?_) (fun c0 => ?_)
      · decreasing_trivial_pre_omega
        refine ⟨t, u, cstD ⟨1, 1, 1⟩, rfl, tt, tu, by unfold cstD; simp [txt, txtAll], fun z => (by rw [it] at z; cases z), fun _ z => (by rw [iu] at z; cases z), fun _ _ z => (by rw [costs_cst iC] at z; cases z), fun _ _ _ z => absurd z (by omega), fun _ _ _ _ z => absurd z (by omega), fun _ _ _ _ c hc e => ?_⟩
        obtain ⟨x, y, z⟩ := c
        simp [cstD] at e
        obtain ⟨e1, e2, e3⟩ := e
        obtain rfl : 1 = x := by omega
        obtain rfl : 1 = y := by omega
        obtain rfl : 1 = z := by omega
        decreasing_trivial_pre_omega
        refine ⟨u, t, rfl, ⟨hu, ht, hM2⟩, ?_⟩
        decreasing_trivial_pre_omega
        refine ⟨u, t, _, 1, 1, 1, rfl, ⟨hu, ht, xU, c111⟩, fun qs e hm => ?_, fun z => mat_B mU z⟩
        obtain rfl := tup_inj e
        rw [cost_one, cU, tD_swp rt ru]
        decreasing_trivial_pre_omega
        refine ⟨t, t, rfl, ⟨ht, ht, hM2⟩, ?_⟩
        decreasing_trivial_pre_omega
        refine ⟨t, [], rfl, ⟨rt, by omega, by decide⟩, ?_⟩
        decreasing_trivial_pre_omega
        rw [pls_id, List.map_map]
        have lpl : (plc t).length ≤ 1000 := by rw [plc_len rt]; omega
        refine lc1F (k := fun _ => True) (b := bName 8) (f := fun q : List Nat => W.d (pathD q)) (fun q => pairD (q, q)) trivial (fun q hq Rk z => ?_) (sz1000 lpl) ?_
        · decreasing_trivial_pre_omega
          exact z
        · dsimp only
          rw [show ((plc t).map fun q => pairD (q, q)) = (toldT t t).map pairD by rw [told_same rt, List.map_map]; rfl]
          decreasing_trivial_pre_omega
          refine ⟨⟨eqOk_pairs _, eqOk_pairs _⟩, ?_⟩
          rw [eqv_self _ (eqOk_of (eqOk_pairs _)).1]
          decreasing_trivial_pre_omega
          rfl
      · decreasing_trivial_pre_omega
        refine ⟨u, t, rfl, ⟨hu, ht, hM2⟩, ?_⟩
        decreasing_trivial_pre_omega
        refine ⟨u, t, _, 1, 1, 1, rfl, ⟨hu, ht, xU, c111⟩, fun qs e hm => ?_, fun z => mat_B mU z⟩
        obtain rfl := tup_inj e
        rw [cost_one, cU, tD_swp rt ru]
        decreasing_trivial_pre_omega
        refine ⟨t, t, rfl, ⟨ht, ht, hM2⟩, ?_⟩
        decreasing_trivial_pre_omega
        refine ⟨t, [], rfl, ⟨rt, by omega, by decide⟩, ?_⟩
        decreasing_trivial_pre_omega
        rw [pls_id, List.map_map]
        have lpl : (plc t).length ≤ 1000 := by rw [plc_len rt]; omega
        refine lc1F (k := fun _ => True) (b := bName 8) (f := fun q : List Nat => W.d (pathD q)) (fun q => pairD (q, q)) trivial (fun q hq Rk z => ?_) (sz1000 lpl) ?_
        · decreasing_trivial_pre_omega
          exact z
        · dsimp only
          rw [show ((plc t).map fun q => pairD (q, q)) = (toldT t t).map pairD by rw [told_same rt, List.map_map]; rfl]
          decreasing_trivial_pre_omega
          refine ⟨⟨eqOk_pairs _, eqOk_pairs _⟩, ?_⟩
          rw [eqv_self _ (eqOk_of (eqOk_pairs _)).1]
          decreasing_trivial_pre_omega
          rfl
end
end Tl
set_option Elab.async false
set_option linter.all false
set_option maxRecDepth 100000
set_option maxHeartbeats 16000000
namespace Tl
open PySem L2 RZ
section
variable {P : Program} {w : World} {K : PySem.W.Frag} {mg : Str → Option Value}
structure Defs (K : PySem.W.Frag) (mg : Str → Option Value) where
  d_is_count : At K mg "is_count" sIsCount
  d_is_number : At K mg "is_number" sIsNumber
  d_is_tag : At K mg "is_tag" sIsTag
  d_is_tag_and_kids : At K mg "is_tag_and_kids" sTagKids
  d_room_behind : At K mg "room_behind" sRoom
  d_is_tree : At K mg "is_tree" sIsTree
  d_check_tree : At K mg "check_tree" sChkTree
  d__law_take : At K mg "_law_take" sTake
  d__law_tree : At K mg "_law_tree" sTreeL
  d_count_places : At K mg "count_places" sCntPlaces
  d_part_at : At K mg "part_at" sPartAt
  d__law_reach : At K mg "_law_reach" sReach
  d__law_places : At K mg "_law_places" sPlaces
  d_paths_behind : At K mg "paths_behind" sPathsB
  d_is_costs : At K mg "is_costs" sIsCosts
  d_labels_of : At K mg "labels_of" sLabels
  d_is_path : At K mg "is_path" sIsPath
  d_is_within : At K mg "is_within" sWithin
  d_is_place : At K mg "is_place" sIsPlace
  d_is_pair : At K mg "is_pair" sIsPair
  d_is_in_step : At K mg "is_in_step" sInStep
  d_is_matching : At K mg "is_matching" sIsMat
  d_is_empty : At K mg "is_empty" sMt
  d_choices_of : At K mg "choices_of" sChos
  d_worth_in : At K mg "worth_in" sWorth
  d_least_by : At K mg "least_by" sLeast
  d_weighed : At K mg "weighed" sWgd2
  d_fill : At K mg "fill" sFill
  d_told_rows : At K mg "told_rows" sTld
  d_cost_between : At K mg "cost_between" sCbt
  d_with_cost : At K mg "with_cost" sWith
  d_paired : At K mg "paired" sPaired
  d_lined_up : At K mg "lined_up" sLin
  d_top_matching : At K mg "top_matching" sTopm
  d_is_top : At K mg "is_top" sIsTop
  d_check_matching : At K mg "check_matching" sChkMat
  d_unlike_pairs : At K mg "unlike_pairs" sUnlike
  d_cost_of : At K mg "cost_of" sCostOf
  d__law_size : At K mg "_law_size" sSizeL
  d__law_top : At K mg "_law_top" sTopL
  d__law_changed : At K mg "_law_changed" sChgL
  d__law_grown : At K mg "_law_grown" sGrown
  d_law : At K mg "law" sLaw
def calls (D : Defs K mg) (T : Bl mg) (A : Cls K mg) (R : WgR K A.c_Weighing) (C : Cs mg) (mS : mg "sum" = none) (mMin : mg "min" = none) (mSrt : mg "sorted" = none) (CC : ∃ t, mg "COST" = some (.int 100 t)) (CN : ∃ t, mg "NEAR" = some (.int 12 t)) {cA tpA : Addr} (hcA : D.d_lined_up.fd.code = .ref cA) (base : Heap) (TBA : LamX.TabB base mg cA tpA) : Calls P w K mg base A A.c_Weighing tpA :=
  let uCount := use (P := P) (w := w) (base := base) D.d_is_count (D.d_is_count.F.binds (ps := ["thing"]) fun _ _ _ _ _ _ us hl => match us, hl with | [_], _ => rfl) (ok_count (k := 0) D.d_is_count.F T)
  let uNumber := use (P := P) (w := w) (base := base) D.d_is_number (D.d_is_number.F.binds (ps := ["thing", "most"]) fun _ _ _ _ _ _ us hl => match us, hl with | [_, _], _ => rfl) (ok_number (k := 1) D.d_is_number.F uCount (by decide) T)
  let uTag := use (P := P) (w := w) (base := base) D.d_is_tag (D.d_is_tag.F.binds (ps := ["thing"]) fun _ _ _ _ _ _ us hl => match us, hl with | [_], _ => rfl) (ok_tag (k := 0) D.d_is_tag.F T C)
  let uPath := use (P := P) (w := w) (base := base) D.d_is_path (D.d_is_path.F.binds (ps := ["thing"]) fun _ _ _ _ _ _ us hl => match us, hl with | [_], _ => rfl) (ok_path (k := 2) D.d_is_path.F uNumber (by decide) T C)
  let uTagKids := use (P := P) (w := w) (base := base) D.d_is_tag_and_kids (D.d_is_tag_and_kids.F.binds (ps := ["thing"]) fun _ _ _ _ _ _ us hl => match us, hl with | [_], _ => rfl) (ok_tagKids (k := 1) D.d_is_tag_and_kids.F uTag (by decide) T)
  let uRoom := use (P := P) (w := w) (base := base) D.d_room_behind (D.d_room_behind.F.binds (ps := ["thing", "levels", "room"]) fun _ _ _ _ _ _ us hl => match us, hl with | [_, _, _], _ => rfl) (ok_room D.d_room_behind.F D.d_room_behind.m uTagKids (by decide) T 13)
  let uTree := use (P := P) (w := w) (base := base) D.d_is_tree (D.d_is_tree.F.binds (ps := ["thing"]) fun _ _ _ _ _ _ us hl => match us, hl with | [_], _ => rfl) (ok_tree (k := 15) D.d_is_tree.F uRoom (by decide) C)
  let uChkT := useX (P := P) (w := w) (base := base) D.d_check_tree (D.d_check_tree.F.binds (ps := ["thing"]) fun _ _ _ _ _ _ us hl => match us, hl with | [_], _ => rfl) (ok_chkTree (k := 16) D.d_check_tree.F A.e_NoTree uTree (by decide))
  let uCntP := use (P := P) (w := w) (base := base) D.d_count_places (D.d_count_places.F.binds (ps := ["tree"]) fun _ _ _ _ _ _ us hl => match us, hl with | [_], _ => rfl) (ok_cntPlaces D.d_count_places.F D.d_count_places.m T mS 12)
  let uPartAt := use (P := P) (w := w) (base := base) D.d_part_at (D.d_part_at.F.binds (ps := ["tree", "path"]) fun _ _ _ _ _ _ us hl => match us, hl with | [_, _], _ => rfl) (ok_partAt (k := 0) D.d_part_at.F T)
  let uPathsB := use (P := P) (w := w) (base := base) D.d_paths_behind (D.d_paths_behind.F.binds (ps := ["tree", "path"]) fun _ _ _ _ _ _ us hl => match us, hl with | [_, _], _ => rfl) (ok_pathsBD D.d_paths_behind.F D.d_paths_behind.m T 12)
  let uIsCosts := use (P := P) (w := w) (base := base) D.d_is_costs (D.d_is_costs.F.binds (ps := ["thing"]) fun _ _ _ _ _ _ us hl => match us, hl with | [_], _ => rfl) (ok_isCosts (k := 1) D.d_is_costs.F uCount (by decide) T CC)
  let uLabels := use (P := P) (w := w) (base := base) D.d_labels_of (D.d_labels_of.F.binds (ps := ["tree"]) fun _ _ _ _ _ _ us hl => match us, hl with | [_], _ => rfl) (ok_labels (k := 12) D.d_labels_of.F uPathsB uPartAt uCntP (by decide) (by decide) (by decide) T)
  let uInit := (⟨_, _, ok_wgIn (k := 19) R.F0 R.M uLabels (by decide) T, R.mkr, A.m_Weighing, R.F0.binds (ps := ["self", "one", "other", "costs"]) fun _ _ _ _ _ _ us hl => match us, hl with | [_, _, _, _], _ => rfl⟩ : UseC P w K mg base A.c_Weighing "Weighing" ["self", "one", "other", "costs"] 20 (spD K 4 (tfWgIn A.c_Weighing)))
  let uTops := (⟨_, _, ok_tops (k := 60) R.F1 R.M T, R.h1, R.F1.binds (ps := ["self"]) fun _ _ _ _ _ _ us hl => match us, hl with | [_], _ => rfl⟩ : UseM P w K mg base A.c_Weighing "below_tops" ["self"] 61 (spD K 1 (tfTops A.c_Weighing)))
  let uTopsB := (⟨_, _, ok_tops (k := 61) R.F1 R.M T, R.h1, R.F1.binds (ps := ["self"]) fun _ _ _ _ _ _ us hl => match us, hl with | [_], _ => rfl⟩ : UseM P w K mg base A.c_Weighing "below_tops" ["self"] 62 (spD K 1 (tfTops A.c_Weighing)))
  let uNaming := (⟨_, _, ok_naming (k := 0) R.F2 R.M T, R.h2, R.F2.binds (ps := ["self", "number", "other"]) fun _ _ _ _ _ _ us hl => match us, hl with | [_, _, _], _ => rfl⟩ : UseM P w K mg base A.c_Weighing "naming" ["self", "number", "other"] 1 (spD K 3 (tfNaming A.c_Weighing)))
  let uNamingB := (⟨_, _, ok_naming (k := 61) R.F2 R.M T, R.h2, R.F2.binds (ps := ["self", "number", "other"]) fun _ _ _ _ _ _ us hl => match us, hl with | [_, _, _], _ => rfl⟩ : UseM P w K mg base A.c_Weighing "naming" ["self", "number", "other"] 62 (spD K 3 (tfNaming A.c_Weighing)))
  let uWeighed := useX (P := P) (w := w) (base := base) D.d_weighed (D.d_weighed.F.binds (ps := ["one", "other", "costs"]) fun _ _ _ _ _ _ us hl => match us, hl with | [_, _, _], _ => rfl) (ok_wgdX (j := 20) (k := 21) D.d_weighed.F A.e_NoCosts A.e_TooMany (uChkT.up (by decide)) (uIsCosts.up (by decide)) (uCntP.up (by decide)) uInit (by decide) (by decide) T CN)
  let uMt := use (P := P) (w := w) (base := base) D.d_is_empty (D.d_is_empty.F.binds (ps := ["spans"]) fun _ _ _ _ _ _ us hl => match us, hl with | [_], _ => rfl) (ok_mt (k := 0) D.d_is_empty.F T)
  let uChos := use (P := P) (w := w) (base := base) D.d_choices_of (D.d_choices_of.F.binds (ps := ["weighing", "spans"]) fun _ _ _ _ _ _ us hl => match us, hl with | [_, _], _ => rfl) (ok_chos (j := 1) (k := 1) D.d_choices_of.F R.M uNaming (by decide) T)
  let uWorth := use (P := P) (w := w) (base := base) D.d_worth_in (D.d_worth_in.F.binds (ps := ["weighing", "spans", "rows"]) fun _ _ _ _ _ _ us hl => match us, hl with | [_, _, _], _ => rfl) (ok_worth (j := 1) (k := 1) D.d_worth_in.F R.M uMt (by decide) T)
  let uLeast := use (P := P) (w := w) (base := base) D.d_least_by (D.d_least_by.F.binds (ps := ["weighing", "spans", "rows"]) fun _ _ _ _ _ _ us hl => match us, hl with | [_, _, _], _ => rfl) (ok_least (j := 2) (k := 2) D.d_least_by.F R.M uChos uWorth (by decide) T mS mMin)
  let uFill := use (P := P) (w := w) (base := base) D.d_fill (D.d_fill.F.binds (ps := ["weighing", "spans", "rows"]) fun _ _ _ _ _ _ us hl => match us, hl with | [_, _, _], _ => rfl) (ok_fill (j := 3) D.d_fill.F D.d_fill.m R.M (uMt.up (by decide)) (uChos.up (by decide)) uLeast (by decide) T 25)
  let uRows := use (P := P) (w := w) (base := base) D.d_told_rows (D.d_told_rows.F.binds (ps := ["weighing"]) fun _ _ _ _ _ _ us hl => match us, hl with | [_], _ => rfl) (ok_tld (j := 61) (k := 61) D.d_told_rows.F R.M (uFill.up (by decide)) uTops (by decide) T)
  let uCbt := useX (P := P) (w := w) (base := base) D.d_cost_between (D.d_cost_between.F.binds (ps := ["one", "other", "costs"]) fun _ _ _ _ _ _ us hl => match us, hl with | [_, _, _], _ => rfl) (ok_cbt (j := 62) (k := 62) D.d_cost_between.F R.M (uWeighed.up (by decide)) uRows (uWorth.up (by decide)) uTopsB uNamingB (by decide) T)
  let uWithin := use (P := P) (w := w) (base := base) D.d_is_within (D.d_is_within.F.binds (ps := ["path", "top"]) fun _ _ _ _ _ _ us hl => match us, hl with | [_, _], _ => rfl) (ok_within (k := 0) D.d_is_within.F T)
  let uPlace := use (P := P) (w := w) (base := base) D.d_is_place (D.d_is_place.F.binds (ps := ["tree", "thing"]) fun _ _ _ _ _ _ us hl => match us, hl with | [_, _], _ => rfl) (ok_isPlace (j := 3) (k := 3) D.d_is_place.F uPath (uPartAt.up (by decide)) (by decide) T)
  let uPair := use (P := P) (w := w) (base := base) D.d_is_pair (D.d_is_pair.F.binds (ps := ["one", "other", "thing"]) fun _ _ _ _ _ _ us hl => match us, hl with | [_, _, _], _ => rfl) (ok_isPair (k := 4) D.d_is_pair.F uPlace (by decide) T)
  let uStep := use (P := P) (w := w) (base := base) D.d_is_in_step (D.d_is_in_step.F.binds (ps := ["pair", "later"]) fun _ _ _ _ _ _ us hl => match us, hl with | [_, _], _ => rfl) (ok_inStep (k := 1) D.d_is_in_step.F uWithin (by decide) T)
  let uMat := use (P := P) (w := w) (base := base) D.d_is_matching (D.d_is_matching.F.binds (ps := ["one", "other", "thing"]) fun _ _ _ _ _ _ us hl => match us, hl with | [_, _, _], _ => rfl) (ok_isMat (j := 20) (k := 20) D.d_is_matching.F (uChkT.up (by decide)) (uCntP.up (by decide)) (uPair.up (by decide)) (uStep.up (by decide)) (by decide) T)
  let uTop := use (P := P) (w := w) (base := base) D.d_is_top (D.d_is_top.F.binds (ps := ["one", "other", "thing"]) fun _ _ _ _ _ _ us hl => match us, hl with | [_, _, _], _ => rfl) (ok_isTop (k := 21) D.d_is_top.F uMat (by decide) T)
  let uChkM := useX (P := P) (w := w) (base := base) D.d_check_matching (D.d_check_matching.F.binds (ps := ["one", "other", "matching"]) fun _ _ _ _ _ _ us hl => match us, hl with | [_, _, _], _ => rfl) (ok_chkMat (k := 21) D.d_check_matching.F A.e_NoMatching uMat (by decide) (by decide))
  let uUnl := use (P := P) (w := w) (base := base) D.d_unlike_pairs (D.d_unlike_pairs.F.binds (ps := ["one", "other", "matching"]) fun _ _ _ _ _ _ us hl => match us, hl with | [_, _, _], _ => rfl) (ok_unlike (k := 1) D.d_unlike_pairs.F uPartAt (by decide) T)
  let uCostOf := useX (P := P) (w := w) (base := base) D.d_cost_of (D.d_cost_of.F.binds (ps := ["one", "other", "costs", "matching"]) fun _ _ _ _ _ _ us hl => match us, hl with | [_, _, _, _], _ => rfl) (ok_costOf (j := 22) (k := 22) D.d_cost_of.F A.e_NoCosts (uChkT.up (by decide)) (uIsCosts.up (by decide)) uChkM (uCntP.up (by decide)) (uUnl.up (by decide)) (by decide) (by decide) T)
  let uTake := use (P := P) (w := w) (base := base) D.d__law_take (D.d__law_take.F.binds (ps := ["_law_state", "_law_below"]) fun _ _ _ _ _ _ us hl => match us, hl with | [_, _], _ => rfl) (ok_take (k := 0) D.d__law_take.F T)
  let uTreeL := use (P := P) (w := w) (base := base) D.d__law_tree (D.d__law_tree.F.binds (ps := ["_law_state", "_law_most"]) fun _ _ _ _ _ _ us hl => match us, hl with | [_, _], _ => rfl) (ok_treeL (k := 1) D.d__law_tree.F uTake (by decide) T)
  let uPlaces := use (P := P) (w := w) (base := base) D.d__law_places (D.d__law_places.F.binds (ps := ["_law_tree_here", "_law_path"]) fun _ _ _ _ _ _ us hl => match us, hl with | [_, _], _ => rfl) (ok_places D.d__law_places.F D.d__law_places.m T 12)
  let uReach := use (P := P) (w := w) (base := base) D.d__law_reach (D.d__law_reach.F.binds (ps := ["_law_tree_here", "_law_path"]) fun _ _ _ _ _ _ us hl => match us, hl with | [_, _], _ => rfl) (ok_reach2 (k := 0) D.d__law_reach.F T)
  let uWith := use (P := P) (w := w) (base := base) D.d_with_cost (D.d_with_cost.F.binds (ps := ["choice", "part"]) fun _ _ _ _ _ _ us hl => match us, hl with | [_, _], _ => rfl) (ok_with (j := 12) (k := 12) D.d_with_cost.F uCntP (by decide) T)
  let uPaired := use (P := P) (w := w) (base := base) D.d_paired (D.d_paired.F.binds (ps := ["part", "like", "path", "place"]) fun _ _ _ _ _ _ us hl => match us, hl with | [_, _, _, _], _ => rfl) (ok_paired (j := 13) D.d_paired.F D.d_paired.m D.d_lined_up.F D.d_lined_up.m hcA TBA uWith (uCntP.up (by decide)) T mMin mS 12)
  let uTopM := use (P := P) (w := w) (base := base) D.d_top_matching (D.d_top_matching.F.binds (ps := ["one", "other"]) fun _ _ _ _ _ _ us hl => match us, hl with | [_, _], _ => rfl) (ok_topm (C := A.c_NoTree) (tp := tpA) (j := 37) (k := 37) D.d_top_matching.F (uChkT.up (by decide)) uPaired (by decide) T mSrt)
  let uSizeL := use (P := P) (w := w) (base := base) D.d__law_size (D.d__law_size.F.binds (ps := ["_law_tree_here"]) fun _ _ _ _ _ _ us hl => match us, hl with | [_], _ => rfl) (ok_sizeL D.d__law_size.F D.d__law_size.m T mS 12)
  let uTopL := use (P := P) (w := w) (base := base) D.d__law_top (D.d__law_top.F.binds (ps := ["_law_one", "_law_other"]) fun _ _ _ _ _ _ us hl => match us, hl with | [_, _], _ => rfl) (ok_topL (j := 12) D.d__law_top.F D.d__law_top.m uSizeL T mMin 12)
  let uChgL := use (P := P) (w := w) (base := base) D.d__law_changed (D.d__law_changed.F.binds (ps := ["_law_state", "_law_tree_here"]) fun _ _ _ _ _ _ us hl => match us, hl with | [_, _], _ => rfl) (ok_chgL (j := 1) D.d__law_changed.F D.d__law_changed.m uTake T 12)
  let uGrown := use (P := P) (w := w) (base := base) D.d__law_grown (D.d__law_grown.F.binds (ps := ["_law_state", "_law_one", "_law_other"]) fun _ _ _ _ _ _ us hl => match us, hl with | [_, _, _], _ => rfl) (ok_grown (j := 1) (k := 1) D.d__law_grown.F uTake (uReach.up (by decide)) (by decide) T mSrt)
  ⟨90, by decide, uTreeL.up (by decide), uTake.up (by decide), uChgL.up (by decide), uSizeL.up (by decide), uTopL.up (by decide), uGrown.up (by decide), uPlaces.up (by decide), uTop.up (by decide), uTopM.up (by decide), uCbt.up (by decide), uCostOf.up (by decide)⟩
end
theorem all_mk {P : Program} {w : World} {K : PySem.W.Frag} {h : Heap} {mg : Str → Option Value} {fa : Addr} (X : K.In h) (G : h.Ns mainGlobals mg) (hfa : mg "law" = some (.ref fa)) {t1 t2 t3 t4 t5 : Tok}
    {f1 : Addr} {od1 an1 : Option Addr} {sl1 : Array (Option Value)} {oc1 kV1 dc1 pm1 cd1 ct1 : Value}
    {f2 : Addr} {od2 an2 : Option Addr} {sl2 : Array (Option Value)} {oc2 kV2 dc2 pm2 cd2 ct2 : Value}
    {f3 : Addr} {od3 an3 : Option Addr} {sl3 : Array (Option Value)} {oc3 kV3 dc3 pm3 cd3 ct3 : Value}
    {f4 : Addr} {od4 an4 : Option Addr} {sl4 : Array (Option Value)} {oc4 kV4 dc4 pm4 cd4 ct4 : Value}
    {f5 : Addr} {od5 an5 : Option Addr} {sl5 : Array (Option Value)} {oc5 kV5 dc5 pm5 cd5 ct5 : Value}
    {f6 : Addr} {od6 an6 : Option Addr} {sl6 : Array (Option Value)} {oc6 kV6 dc6 pm6 cd6 ct6 : Value}
    {f7 : Addr} {od7 an7 : Option Addr} {sl7 : Array (Option Value)} {oc7 kV7 dc7 pm7 cd7 ct7 : Value}
    {f8 : Addr} {od8 an8 : Option Addr} {sl8 : Array (Option Value)} {oc8 kV8 dc8 pm8 cd8 ct8 : Value}
    {f9 : Addr} {od9 an9 : Option Addr} {sl9 : Array (Option Value)} {oc9 kV9 dc9 pm9 cd9 ct9 : Value}
    {f10 : Addr} {od10 an10 : Option Addr} {sl10 : Array (Option Value)} {oc10 kV10 dc10 pm10 cd10 ct10 : Value}
    {f11 : Addr} {od11 an11 : Option Addr} {sl11 : Array (Option Value)} {oc11 kV11 dc11 pm11 cd11 ct11 : Value}
    {f12 : Addr} {od12 an12 : Option Addr} {sl12 : Array (Option Value)} {oc12 kV12 dc12 pm12 cd12 ct12 : Value}
    {f13 : Addr} {od13 an13 : Option Addr} {sl13 : Array (Option Value)} {oc13 kV13 dc13 pm13 cd13 ct13 : Value}
    {f14 : Addr} {od14 an14 : Option Addr} {sl14 : Array (Option Value)} {oc14 kV14 dc14 pm14 cd14 ct14 : Value}
    {f15 : Addr} {od15 an15 : Option Addr} {sl15 : Array (Option Value)} {oc15 kV15 dc15 pm15 cd15 ct15 : Value}
    {f16 : Addr} {od16 an16 : Option Addr} {sl16 : Array (Option Value)} {oc16 kV16 dc16 pm16 cd16 ct16 : Value}
    {f17 : Addr} {od17 an17 : Option Addr} {sl17 : Array (Option Value)} {oc17 kV17 dc17 pm17 cd17 ct17 : Value}
    {f18 : Addr} {od18 an18 : Option Addr} {sl18 : Array (Option Value)} {oc18 kV18 dc18 pm18 cd18 ct18 : Value}
    {f19 : Addr} {od19 an19 : Option Addr} {sl19 : Array (Option Value)} {oc19 kV19 dc19 pm19 cd19 ct19 : Value}
    {f20 : Addr} {od20 an20 : Option Addr} {sl20 : Array (Option Value)} {oc20 kV20 dc20 pm20 cd20 ct20 : Value}
    {f21 : Addr} {od21 an21 : Option Addr} {sl21 : Array (Option Value)} {oc21 kV21 dc21 pm21 cd21 ct21 : Value}
    {f22 : Addr} {od22 an22 : Option Addr} {sl22 : Array (Option Value)} {oc22 kV22 dc22 pm22 cd22 ct22 : Value}
    {f23 : Addr} {od23 an23 : Option Addr} {sl23 : Array (Option Value)} {oc23 kV23 dc23 pm23 cd23 ct23 : Value}
    {f24 : Addr} {od24 an24 : Option Addr} {sl24 : Array (Option Value)} {oc24 kV24 dc24 pm24 cd24 ct24 : Value}
    {f25 : Addr} {od25 an25 : Option Addr} {sl25 : Array (Option Value)} {oc25 kV25 dc25 pm25 cd25 ct25 : Value}
    {f26 : Addr} {od26 an26 : Option Addr} {sl26 : Array (Option Value)} {oc26 kV26 dc26 pm26 cd26 ct26 : Value}
    {f27 : Addr} {od27 an27 : Option Addr} {sl27 : Array (Option Value)} {oc27 kV27 dc27 pm27 cd27 ct27 : Value}
    {f28 : Addr} {od28 an28 : Option Addr} {sl28 : Array (Option Value)} {oc28 kV28 dc28 pm28 cd28 ct28 : Value}
    {f29 : Addr} {od29 an29 : Option Addr} {sl29 : Array (Option Value)} {oc29 kV29 dc29 pm29 cd29 ct29 : Value}
    {f30 : Addr} {od30 an30 : Option Addr} {sl30 : Array (Option Value)} {oc30 kV30 dc30 pm30 cd30 ct30 : Value}
    {f31 : Addr} {od31 an31 : Option Addr} {sl31 : Array (Option Value)} {oc31 kV31 dc31 pm31 cd31 ct31 : Value}
    {f32 : Addr} {od32 an32 : Option Addr} {sl32 : Array (Option Value)} {oc32 kV32 dc32 pm32 cd32 ct32 : Value}
    {f33 : Addr} {od33 an33 : Option Addr} {sl33 : Array (Option Value)} {oc33 kV33 dc33 pm33 cd33 ct33 : Value}
    {f34 : Addr} {od34 an34 : Option Addr} {sl34 : Array (Option Value)} {oc34 kV34 dc34 pm34 cd34 ct34 : Value}
    {f35 : Addr} {od35 an35 : Option Addr} {sl35 : Array (Option Value)} {oc35 kV35 dc35 pm35 cd35 ct35 : Value}
    {f36 : Addr} {od36 an36 : Option Addr} {sl36 : Array (Option Value)} {oc36 kV36 dc36 pm36 cd36 ct36 : Value}
    {f37 : Addr} {od37 an37 : Option Addr} {sl37 : Array (Option Value)} {oc37 kV37 dc37 pm37 cd37 ct37 : Value}
    {f38 : Addr} {od38 an38 : Option Addr} {sl38 : Array (Option Value)} {oc38 kV38 dc38 pm38 cd38 ct38 : Value}
    {f39 : Addr} {od39 an39 : Option Addr} {sl39 : Array (Option Value)} {oc39 kV39 dc39 pm39 cd39 ct39 : Value}
    {f40 : Addr} {od40 an40 : Option Addr} {sl40 : Array (Option Value)} {oc40 kV40 dc40 pm40 cd40 ct40 : Value}
    {f41 : Addr} {od41 an41 : Option Addr} {sl41 : Array (Option Value)} {oc41 kV41 dc41 pm41 cd41 ct41 : Value}
    {f42 : Addr} {od42 an42 : Option Addr} {sl42 : Array (Option Value)} {oc42 kV42 dc42 pm42 cd42 ct42 : Value}
    {f43 : Addr} {od43 an43 : Option Addr} {sl43 : Array (Option Value)} {oc43 kV43 dc43 pm43 cd43 ct43 : Value}
    {c_TreeError c_NoThing c_NoFit c_NoTree c_NoCosts c_NoMatching c_TooMany c_Weighing : Addr}
    {nm_NoCosts q_NoCosts : Str} {N_NoCosts : Addr} {bs_NoCosts bm_NoCosts : List Value} {sn_NoCosts : List Str} {sub_NoCosts : List Value} {ab_NoCosts : Bool} {col_NoCosts : Option Bool} {dd_NoCosts : Option Addr} {g0_NoCosts g1_NoCosts g2_NoCosts g3_NoCosts g5_NoCosts : Option Value}
    {fI_NoCosts : Addr} {odI_NoCosts anI_NoCosts : Option Addr} {slI_NoCosts : Array (Option Value)} {ocI_NoCosts kVI_NoCosts dcI_NoCosts pmI_NoCosts cdI_NoCosts ctI_NoCosts : Value}
    {nm_TooMany q_TooMany : Str} {N_TooMany : Addr} {bs_TooMany bm_TooMany : List Value} {sn_TooMany : List Str} {sub_TooMany : List Value} {ab_TooMany : Bool} {col_TooMany : Option Bool} {dd_TooMany : Option Addr} {g0_TooMany g1_TooMany g2_TooMany g3_TooMany g5_TooMany : Option Value}
    {fI_TooMany : Addr} {odI_TooMany anI_TooMany : Option Addr} {slI_TooMany : Array (Option Value)} {ocI_TooMany kVI_TooMany dcI_TooMany pmI_TooMany cdI_TooMany ctI_TooMany : Value}
    {nm_NoMatching q_NoMatching : Str} {N_NoMatching : Addr} {bs_NoMatching bm_NoMatching : List Value} {sn_NoMatching : List Str} {sub_NoMatching : List Value} {ab_NoMatching : Bool} {col_NoMatching : Option Bool} {dd_NoMatching : Option Addr} {g0_NoMatching g1_NoMatching g2_NoMatching g3_NoMatching g5_NoMatching : Option Value}
    {fI_NoMatching : Addr} {odI_NoMatching anI_NoMatching : Option Addr} {slI_NoMatching : Array (Option Value)} {ocI_NoMatching kVI_NoMatching dcI_NoMatching pmI_NoMatching cdI_NoMatching ctI_NoMatching : Value}
    {fM_Weighing_below_tops : Addr} {odM_Weighing_below_tops anM_Weighing_below_tops : Option Addr} {slM_Weighing_below_tops : Array (Option Value)} {ocM_Weighing_below_tops kVM_Weighing_below_tops dcM_Weighing_below_tops pmM_Weighing_below_tops cdM_Weighing_below_tops ctM_Weighing_below_tops : Value}
    {fM_Weighing_naming : Addr} {odM_Weighing_naming anM_Weighing_naming : Option Addr} {slM_Weighing_naming : Array (Option Value)} {ocM_Weighing_naming kVM_Weighing_naming dcM_Weighing_naming pmM_Weighing_naming cdM_Weighing_naming ctM_Weighing_naming : Value}
    {fM_Weighing_init : Addr} {odM_Weighing_init anM_Weighing_init : Option Addr} {slM_Weighing_init : Array (Option Value)} {ocM_Weighing_init kVM_Weighing_init dcM_Weighing_init pmM_Weighing_init cdM_Weighing_init ctM_Weighing_init : Value}
    (a1 : PySem.W.nsIn K mainGlobals "is_count" = some (some (.ref f1)))
    (l1 : K.lookup f1 = some ⟨oc1, od1, .func (PySem.W.fnOf "is_count" "is_count" (defArgs sIsCount) (defBody sIsCount) (defScope sIsCount) .none kV1 dc1 pm1 an1 cd1 ct1), sl1⟩)
    (c1 : PySem.W.codeIn K cd1 "is_count" = true)
    (k1 : PySem.W.keepIn K (.ref f1) = true)
    (a2 : PySem.W.nsIn K mainGlobals "is_number" = some (some (.ref f2)))
    (l2 : K.lookup f2 = some ⟨oc2, od2, .func (PySem.W.fnOf "is_number" "is_number" (defArgs sIsNumber) (defBody sIsNumber) (defScope sIsNumber) .none kV2 dc2 pm2 an2 cd2 ct2), sl2⟩)
    (c2 : PySem.W.codeIn K cd2 "is_number" = true)
    (k2 : PySem.W.keepIn K (.ref f2) = true)
    (a3 : PySem.W.nsIn K mainGlobals "is_tag" = some (some (.ref f3)))
    (l3 : K.lookup f3 = some ⟨oc3, od3, .func (PySem.W.fnOf "is_tag" "is_tag" (defArgs sIsTag) (defBody sIsTag) (defScope sIsTag) .none kV3 dc3 pm3 an3 cd3 ct3), sl3⟩)
    (c3 : PySem.W.codeIn K cd3 "is_tag" = true)
    (k3 : PySem.W.keepIn K (.ref f3) = true)
    (a4 : PySem.W.nsIn K mainGlobals "is_tag_and_kids" = some (some (.ref f4)))
    (l4 : K.lookup f4 = some ⟨oc4, od4, .func (PySem.W.fnOf "is_tag_and_kids" "is_tag_and_kids" (defArgs sTagKids) (defBody sTagKids) (defScope sTagKids) .none kV4 dc4 pm4 an4 cd4 ct4), sl4⟩)
    (c4 : PySem.W.codeIn K cd4 "is_tag_and_kids" = true)
    (k4 : PySem.W.keepIn K (.ref f4) = true)
    (a5 : PySem.W.nsIn K mainGlobals "room_behind" = some (some (.ref f5)))
    (l5 : K.lookup f5 = some ⟨oc5, od5, .func (PySem.W.fnOf "room_behind" "room_behind" (defArgs sRoom) (defBody sRoom) (defScope sRoom) .none kV5 dc5 pm5 an5 cd5 ct5), sl5⟩)
    (c5 : PySem.W.codeIn K cd5 "room_behind" = true)
    (k5 : PySem.W.keepIn K (.ref f5) = true)
    (a6 : PySem.W.nsIn K mainGlobals "is_tree" = some (some (.ref f6)))
    (l6 : K.lookup f6 = some ⟨oc6, od6, .func (PySem.W.fnOf "is_tree" "is_tree" (defArgs sIsTree) (defBody sIsTree) (defScope sIsTree) .none kV6 dc6 pm6 an6 cd6 ct6), sl6⟩)
    (c6 : PySem.W.codeIn K cd6 "is_tree" = true)
    (k6 : PySem.W.keepIn K (.ref f6) = true)
    (a7 : PySem.W.nsIn K mainGlobals "check_tree" = some (some (.ref f7)))
    (l7 : K.lookup f7 = some ⟨oc7, od7, .func (PySem.W.fnOf "check_tree" "check_tree" (defArgs sChkTree) (defBody sChkTree) (defScope sChkTree) .none kV7 dc7 pm7 an7 cd7 ct7), sl7⟩)
    (c7 : PySem.W.codeIn K cd7 "check_tree" = true)
    (k7 : PySem.W.keepIn K (.ref f7) = true)
    (a8 : PySem.W.nsIn K mainGlobals "_law_take" = some (some (.ref f8)))
    (l8 : K.lookup f8 = some ⟨oc8, od8, .func (PySem.W.fnOf "_law_take" "_law_take" (defArgs sTake) (defBody sTake) (defScope sTake) .none kV8 dc8 pm8 an8 cd8 ct8), sl8⟩)
    (c8 : PySem.W.codeIn K cd8 "_law_take" = true)
    (k8 : PySem.W.keepIn K (.ref f8) = true)
    (a9 : PySem.W.nsIn K mainGlobals "_law_tree" = some (some (.ref f9)))
    (l9 : K.lookup f9 = some ⟨oc9, od9, .func (PySem.W.fnOf "_law_tree" "_law_tree" (defArgs sTreeL) (defBody sTreeL) (defScope sTreeL) .none kV9 dc9 pm9 an9 cd9 ct9), sl9⟩)
    (c9 : PySem.W.codeIn K cd9 "_law_tree" = true)
    (k9 : PySem.W.keepIn K (.ref f9) = true)
    (a10 : PySem.W.nsIn K mainGlobals "count_places" = some (some (.ref f10)))
    (l10 : K.lookup f10 = some ⟨oc10, od10, .func (PySem.W.fnOf "count_places" "count_places" (defArgs sCntPlaces) (defBody sCntPlaces) (defScope sCntPlaces) .none kV10 dc10 pm10 an10 cd10 ct10), sl10⟩)
    (c10 : PySem.W.codeIn K cd10 "count_places" = true)
    (k10 : PySem.W.keepIn K (.ref f10) = true)
    (a11 : PySem.W.nsIn K mainGlobals "part_at" = some (some (.ref f11)))
    (l11 : K.lookup f11 = some ⟨oc11, od11, .func (PySem.W.fnOf "part_at" "part_at" (defArgs sPartAt) (defBody sPartAt) (defScope sPartAt) .none kV11 dc11 pm11 an11 cd11 ct11), sl11⟩)
    (c11 : PySem.W.codeIn K cd11 "part_at" = true)
    (k11 : PySem.W.keepIn K (.ref f11) = true)
    (a12 : PySem.W.nsIn K mainGlobals "_law_reach" = some (some (.ref f12)))
    (l12 : K.lookup f12 = some ⟨oc12, od12, .func (PySem.W.fnOf "_law_reach" "_law_reach" (defArgs sReach) (defBody sReach) (defScope sReach) .none kV12 dc12 pm12 an12 cd12 ct12), sl12⟩)
    (c12 : PySem.W.codeIn K cd12 "_law_reach" = true)
    (k12 : PySem.W.keepIn K (.ref f12) = true)
    (a13 : PySem.W.nsIn K mainGlobals "_law_places" = some (some (.ref f13)))
    (l13 : K.lookup f13 = some ⟨oc13, od13, .func (PySem.W.fnOf "_law_places" "_law_places" (defArgs sPlaces) (defBody sPlaces) (defScope sPlaces) .none kV13 dc13 pm13 an13 cd13 ct13), sl13⟩)
    (c13 : PySem.W.codeIn K cd13 "_law_places" = true)
    (k13 : PySem.W.keepIn K (.ref f13) = true)
    (a14 : PySem.W.nsIn K mainGlobals "paths_behind" = some (some (.ref f14)))
    (l14 : K.lookup f14 = some ⟨oc14, od14, .func (PySem.W.fnOf "paths_behind" "paths_behind" (defArgs sPathsB) (defBody sPathsB) (defScope sPathsB) .none kV14 dc14 pm14 an14 cd14 ct14), sl14⟩)
    (c14 : PySem.W.codeIn K cd14 "paths_behind" = true)
    (k14 : PySem.W.keepIn K (.ref f14) = true)
    (a15 : PySem.W.nsIn K mainGlobals "is_costs" = some (some (.ref f15)))
    (l15 : K.lookup f15 = some ⟨oc15, od15, .func (PySem.W.fnOf "is_costs" "is_costs" (defArgs sIsCosts) (defBody sIsCosts) (defScope sIsCosts) .none kV15 dc15 pm15 an15 cd15 ct15), sl15⟩)
    (c15 : PySem.W.codeIn K cd15 "is_costs" = true)
    (k15 : PySem.W.keepIn K (.ref f15) = true)
    (a16 : PySem.W.nsIn K mainGlobals "labels_of" = some (some (.ref f16)))
    (l16 : K.lookup f16 = some ⟨oc16, od16, .func (PySem.W.fnOf "labels_of" "labels_of" (defArgs sLabels) (defBody sLabels) (defScope sLabels) .none kV16 dc16 pm16 an16 cd16 ct16), sl16⟩)
    (c16 : PySem.W.codeIn K cd16 "labels_of" = true)
    (k16 : PySem.W.keepIn K (.ref f16) = true)
    (a17 : PySem.W.nsIn K mainGlobals "is_path" = some (some (.ref f17)))
    (l17 : K.lookup f17 = some ⟨oc17, od17, .func (PySem.W.fnOf "is_path" "is_path" (defArgs sIsPath) (defBody sIsPath) (defScope sIsPath) .none kV17 dc17 pm17 an17 cd17 ct17), sl17⟩)
    (c17 : PySem.W.codeIn K cd17 "is_path" = true)
    (k17 : PySem.W.keepIn K (.ref f17) = true)
    (a18 : PySem.W.nsIn K mainGlobals "is_within" = some (some (.ref f18)))
    (l18 : K.lookup f18 = some ⟨oc18, od18, .func (PySem.W.fnOf "is_within" "is_within" (defArgs sWithin) (defBody sWithin) (defScope sWithin) .none kV18 dc18 pm18 an18 cd18 ct18), sl18⟩)
    (c18 : PySem.W.codeIn K cd18 "is_within" = true)
    (k18 : PySem.W.keepIn K (.ref f18) = true)
    (a19 : PySem.W.nsIn K mainGlobals "is_place" = some (some (.ref f19)))
    (l19 : K.lookup f19 = some ⟨oc19, od19, .func (PySem.W.fnOf "is_place" "is_place" (defArgs sIsPlace) (defBody sIsPlace) (defScope sIsPlace) .none kV19 dc19 pm19 an19 cd19 ct19), sl19⟩)
    (c19 : PySem.W.codeIn K cd19 "is_place" = true)
    (k19 : PySem.W.keepIn K (.ref f19) = true)
    (a20 : PySem.W.nsIn K mainGlobals "is_pair" = some (some (.ref f20)))
    (l20 : K.lookup f20 = some ⟨oc20, od20, .func (PySem.W.fnOf "is_pair" "is_pair" (defArgs sIsPair) (defBody sIsPair) (defScope sIsPair) .none kV20 dc20 pm20 an20 cd20 ct20), sl20⟩)
    (c20 : PySem.W.codeIn K cd20 "is_pair" = true)
    (k20 : PySem.W.keepIn K (.ref f20) = true)
    (a21 : PySem.W.nsIn K mainGlobals "is_in_step" = some (some (.ref f21)))
    (l21 : K.lookup f21 = some ⟨oc21, od21, .func (PySem.W.fnOf "is_in_step" "is_in_step" (defArgs sInStep) (defBody sInStep) (defScope sInStep) .none kV21 dc21 pm21 an21 cd21 ct21), sl21⟩)
    (c21 : PySem.W.codeIn K cd21 "is_in_step" = true)
    (k21 : PySem.W.keepIn K (.ref f21) = true)
    (a22 : PySem.W.nsIn K mainGlobals "is_matching" = some (some (.ref f22)))
    (l22 : K.lookup f22 = some ⟨oc22, od22, .func (PySem.W.fnOf "is_matching" "is_matching" (defArgs sIsMat) (defBody sIsMat) (defScope sIsMat) .none kV22 dc22 pm22 an22 cd22 ct22), sl22⟩)
    (c22 : PySem.W.codeIn K cd22 "is_matching" = true)
    (k22 : PySem.W.keepIn K (.ref f22) = true)
    (a23 : PySem.W.nsIn K mainGlobals "is_empty" = some (some (.ref f23)))
    (l23 : K.lookup f23 = some ⟨oc23, od23, .func (PySem.W.fnOf "is_empty" "is_empty" (defArgs sMt) (defBody sMt) (defScope sMt) .none kV23 dc23 pm23 an23 cd23 ct23), sl23⟩)
    (c23 : PySem.W.codeIn K cd23 "is_empty" = true)
    (k23 : PySem.W.keepIn K (.ref f23) = true)
    (a24 : PySem.W.nsIn K mainGlobals "choices_of" = some (some (.ref f24)))
    (l24 : K.lookup f24 = some ⟨oc24, od24, .func (PySem.W.fnOf "choices_of" "choices_of" (defArgs sChos) (defBody sChos) (defScope sChos) .none kV24 dc24 pm24 an24 cd24 ct24), sl24⟩)
    (c24 : PySem.W.codeIn K cd24 "choices_of" = true)
    (k24 : PySem.W.keepIn K (.ref f24) = true)
    (a25 : PySem.W.nsIn K mainGlobals "worth_in" = some (some (.ref f25)))
    (l25 : K.lookup f25 = some ⟨oc25, od25, .func (PySem.W.fnOf "worth_in" "worth_in" (defArgs sWorth) (defBody sWorth) (defScope sWorth) .none kV25 dc25 pm25 an25 cd25 ct25), sl25⟩)
    (c25 : PySem.W.codeIn K cd25 "worth_in" = true)
    (k25 : PySem.W.keepIn K (.ref f25) = true)
    (a26 : PySem.W.nsIn K mainGlobals "least_by" = some (some (.ref f26)))
    (l26 : K.lookup f26 = some ⟨oc26, od26, .func (PySem.W.fnOf "least_by" "least_by" (defArgs sLeast) (defBody sLeast) (defScope sLeast) .none kV26 dc26 pm26 an26 cd26 ct26), sl26⟩)
    (c26 : PySem.W.codeIn K cd26 "least_by" = true)
    (k26 : PySem.W.keepIn K (.ref f26) = true)
    (a27 : PySem.W.nsIn K mainGlobals "weighed" = some (some (.ref f27)))
    (l27 : K.lookup f27 = some ⟨oc27, od27, .func (PySem.W.fnOf "weighed" "weighed" (defArgs sWgd2) (defBody sWgd2) (defScope sWgd2) .none kV27 dc27 pm27 an27 cd27 ct27), sl27⟩)
    (c27 : PySem.W.codeIn K cd27 "weighed" = true)
    (k27 : PySem.W.keepIn K (.ref f27) = true)
    (a28 : PySem.W.nsIn K mainGlobals "fill" = some (some (.ref f28)))
    (l28 : K.lookup f28 = some ⟨oc28, od28, .func (PySem.W.fnOf "fill" "fill" (defArgs sFill) (defBody sFill) (defScope sFill) .none kV28 dc28 pm28 an28 cd28 ct28), sl28⟩)
    (c28 : PySem.W.codeIn K cd28 "fill" = true)
    (k28 : PySem.W.keepIn K (.ref f28) = true)
    (a29 : PySem.W.nsIn K mainGlobals "told_rows" = some (some (.ref f29)))
    (l29 : K.lookup f29 = some ⟨oc29, od29, .func (PySem.W.fnOf "told_rows" "told_rows" (defArgs sTld) (defBody sTld) (defScope sTld) .none kV29 dc29 pm29 an29 cd29 ct29), sl29⟩)
    (c29 : PySem.W.codeIn K cd29 "told_rows" = true)
    (k29 : PySem.W.keepIn K (.ref f29) = true)
    (a30 : PySem.W.nsIn K mainGlobals "cost_between" = some (some (.ref f30)))
    (l30 : K.lookup f30 = some ⟨oc30, od30, .func (PySem.W.fnOf "cost_between" "cost_between" (defArgs sCbt) (defBody sCbt) (defScope sCbt) .none kV30 dc30 pm30 an30 cd30 ct30), sl30⟩)
    (c30 : PySem.W.codeIn K cd30 "cost_between" = true)
    (k30 : PySem.W.keepIn K (.ref f30) = true)
    (a31 : PySem.W.nsIn K mainGlobals "with_cost" = some (some (.ref f31)))
    (l31 : K.lookup f31 = some ⟨oc31, od31, .func (PySem.W.fnOf "with_cost" "with_cost" (defArgs sWith) (defBody sWith) (defScope sWith) .none kV31 dc31 pm31 an31 cd31 ct31), sl31⟩)
    (c31 : PySem.W.codeIn K cd31 "with_cost" = true)
    (k31 : PySem.W.keepIn K (.ref f31) = true)
    (a32 : PySem.W.nsIn K mainGlobals "paired" = some (some (.ref f32)))
    (l32 : K.lookup f32 = some ⟨oc32, od32, .func (PySem.W.fnOf "paired" "paired" (defArgs sPaired) (defBody sPaired) (defScope sPaired) .none kV32 dc32 pm32 an32 cd32 ct32), sl32⟩)
    (c32 : PySem.W.codeIn K cd32 "paired" = true)
    (k32 : PySem.W.keepIn K (.ref f32) = true)
    (a33 : PySem.W.nsIn K mainGlobals "lined_up" = some (some (.ref f33)))
    (l33 : K.lookup f33 = some ⟨oc33, od33, .func (PySem.W.fnOf "lined_up" "lined_up" (defArgs sLin) (defBody sLin) (defScope sLin) .none kV33 dc33 pm33 an33 cd33 ct33), sl33⟩)
    (c33 : PySem.W.codeIn K cd33 "lined_up" = true)
    (k33 : PySem.W.keepIn K (.ref f33) = true)
    (a34 : PySem.W.nsIn K mainGlobals "top_matching" = some (some (.ref f34)))
    (l34 : K.lookup f34 = some ⟨oc34, od34, .func (PySem.W.fnOf "top_matching" "top_matching" (defArgs sTopm) (defBody sTopm) (defScope sTopm) .none kV34 dc34 pm34 an34 cd34 ct34), sl34⟩)
    (c34 : PySem.W.codeIn K cd34 "top_matching" = true)
    (k34 : PySem.W.keepIn K (.ref f34) = true)
    (a35 : PySem.W.nsIn K mainGlobals "is_top" = some (some (.ref f35)))
    (l35 : K.lookup f35 = some ⟨oc35, od35, .func (PySem.W.fnOf "is_top" "is_top" (defArgs sIsTop) (defBody sIsTop) (defScope sIsTop) .none kV35 dc35 pm35 an35 cd35 ct35), sl35⟩)
    (c35 : PySem.W.codeIn K cd35 "is_top" = true)
    (k35 : PySem.W.keepIn K (.ref f35) = true)
    (a36 : PySem.W.nsIn K mainGlobals "check_matching" = some (some (.ref f36)))
    (l36 : K.lookup f36 = some ⟨oc36, od36, .func (PySem.W.fnOf "check_matching" "check_matching" (defArgs sChkMat) (defBody sChkMat) (defScope sChkMat) .none kV36 dc36 pm36 an36 cd36 ct36), sl36⟩)
    (c36 : PySem.W.codeIn K cd36 "check_matching" = true)
    (k36 : PySem.W.keepIn K (.ref f36) = true)
    (a37 : PySem.W.nsIn K mainGlobals "unlike_pairs" = some (some (.ref f37)))
    (l37 : K.lookup f37 = some ⟨oc37, od37, .func (PySem.W.fnOf "unlike_pairs" "unlike_pairs" (defArgs sUnlike) (defBody sUnlike) (defScope sUnlike) .none kV37 dc37 pm37 an37 cd37 ct37), sl37⟩)
    (c37 : PySem.W.codeIn K cd37 "unlike_pairs" = true)
    (k37 : PySem.W.keepIn K (.ref f37) = true)
    (a38 : PySem.W.nsIn K mainGlobals "cost_of" = some (some (.ref f38)))
    (l38 : K.lookup f38 = some ⟨oc38, od38, .func (PySem.W.fnOf "cost_of" "cost_of" (defArgs sCostOf) (defBody sCostOf) (defScope sCostOf) .none kV38 dc38 pm38 an38 cd38 ct38), sl38⟩)
    (c38 : PySem.W.codeIn K cd38 "cost_of" = true)
    (k38 : PySem.W.keepIn K (.ref f38) = true)
    (a39 : PySem.W.nsIn K mainGlobals "_law_size" = some (some (.ref f39)))
    (l39 : K.lookup f39 = some ⟨oc39, od39, .func (PySem.W.fnOf "_law_size" "_law_size" (defArgs sSizeL) (defBody sSizeL) (defScope sSizeL) .none kV39 dc39 pm39 an39 cd39 ct39), sl39⟩)
    (c39 : PySem.W.codeIn K cd39 "_law_size" = true)
    (k39 : PySem.W.keepIn K (.ref f39) = true)
    (a40 : PySem.W.nsIn K mainGlobals "_law_top" = some (some (.ref f40)))
    (l40 : K.lookup f40 = some ⟨oc40, od40, .func (PySem.W.fnOf "_law_top" "_law_top" (defArgs sTopL) (defBody sTopL) (defScope sTopL) .none kV40 dc40 pm40 an40 cd40 ct40), sl40⟩)
    (c40 : PySem.W.codeIn K cd40 "_law_top" = true)
    (k40 : PySem.W.keepIn K (.ref f40) = true)
    (a41 : PySem.W.nsIn K mainGlobals "_law_changed" = some (some (.ref f41)))
    (l41 : K.lookup f41 = some ⟨oc41, od41, .func (PySem.W.fnOf "_law_changed" "_law_changed" (defArgs sChgL) (defBody sChgL) (defScope sChgL) .none kV41 dc41 pm41 an41 cd41 ct41), sl41⟩)
    (c41 : PySem.W.codeIn K cd41 "_law_changed" = true)
    (k41 : PySem.W.keepIn K (.ref f41) = true)
    (a42 : PySem.W.nsIn K mainGlobals "_law_grown" = some (some (.ref f42)))
    (l42 : K.lookup f42 = some ⟨oc42, od42, .func (PySem.W.fnOf "_law_grown" "_law_grown" (defArgs sGrown) (defBody sGrown) (defScope sGrown) .none kV42 dc42 pm42 an42 cd42 ct42), sl42⟩)
    (c42 : PySem.W.codeIn K cd42 "_law_grown" = true)
    (k42 : PySem.W.keepIn K (.ref f42) = true)
    (a43 : PySem.W.nsIn K mainGlobals "law" = some (some (.ref f43)))
    (l43 : K.lookup f43 = some ⟨oc43, od43, .func (PySem.W.fnOf "law" "law" (defArgs sLaw) (defBody sLaw) (defScope sLaw) .none kV43 dc43 pm43 an43 cd43 ct43), sl43⟩)
    (c43 : PySem.W.codeIn K cd43 "law" = true)
    (k43 : PySem.W.keepIn K (.ref f43) = true)
    (z1 : PySem.W.nsIn K mainGlobals "isinstance" = some none)
    (z2 : PySem.W.nsIn K mainGlobals "int" = some none)
    (z3 : PySem.W.nsIn K mainGlobals "bool" = some none)
    (z4 : PySem.W.nsIn K mainGlobals "str" = some none)
    (z5 : PySem.W.nsIn K mainGlobals "tuple" = some none)
    (z6 : PySem.W.nsIn K mainGlobals "list" = some none)
    (z7 : PySem.W.nsIn K mainGlobals "len" = some none)
    (z8 : PySem.W.nsIn K mainGlobals "all" = some none)
    (z9 : PySem.W.nsIn K mainGlobals "repr" = some none)
    (z10 : PySem.W.nsIn K mainGlobals "max" = some none)
    (z11 : PySem.W.nsIn K mainGlobals "range" = some none)
    (z12 : PySem.W.nsIn K mainGlobals "enumerate" = some none)
    (z13 : PySem.W.nsIn K mainGlobals "sum" = some none)
    (z14 : PySem.W.nsIn K mainGlobals "min" = some none)
    (z15 : PySem.W.nsIn K mainGlobals "sorted" = some none)
    (n1 : PySem.W.nsIn K mainGlobals "SIZE" = some (some (.int 60 t1)))
    (n2 : PySem.W.nsIn K mainGlobals "DEPTH" = some (some (.int 12 t2)))
    (n3 : PySem.W.nsIn K mainGlobals "SIGNS" = some (some (.int 8 t3)))
    (n4 : PySem.W.nsIn K mainGlobals "COST" = some (some (.int 100 t4)))
    (n5 : PySem.W.nsIn K mainGlobals "NEAR" = some (some (.int 12 t5)))
    (y_TreeError : PySem.W.nsIn K mainGlobals "TreeError" = some (some (.ref c_TreeError)))
    (y_NoThing : PySem.W.nsIn K mainGlobals "NoThing" = some (some (.ref c_NoThing)))
    (y_NoFit : PySem.W.nsIn K mainGlobals "NoFit" = some (some (.ref c_NoFit)))
    (y_NoTree : PySem.W.nsIn K mainGlobals "NoTree" = some (some (.ref c_NoTree)))
    (y_NoCosts : PySem.W.nsIn K mainGlobals "NoCosts" = some (some (.ref c_NoCosts)))
    (y_NoMatching : PySem.W.nsIn K mainGlobals "NoMatching" = some (some (.ref c_NoMatching)))
    (y_TooMany : PySem.W.nsIn K mainGlobals "TooMany" = some (some (.ref c_TooMany)))
    (y_Weighing : PySem.W.nsIn K mainGlobals "Weighing" = some (some (.ref c_Weighing)))
    (o1_TreeError : PySem.W.isClsIn K c_TreeError = true)
    (o2_TreeError : PySem.W.typeIn K (.ref c_TreeError) = some (.type "type"))
    (o1_NoThing : PySem.W.isClsIn K c_NoThing = true)
    (o2_NoThing : PySem.W.typeIn K (.ref c_NoThing) = some (.type "type"))
    (o1_NoFit : PySem.W.isClsIn K c_NoFit = true)
    (o2_NoFit : PySem.W.typeIn K (.ref c_NoFit) = some (.type "type"))
    (o1_NoTree : PySem.W.isClsIn K c_NoTree = true)
    (o2_NoTree : PySem.W.typeIn K (.ref c_NoTree) = some (.type "type"))
    (o1_NoCosts : PySem.W.isClsIn K c_NoCosts = true)
    (o2_NoCosts : PySem.W.typeIn K (.ref c_NoCosts) = some (.type "type"))
    (o1_NoMatching : PySem.W.isClsIn K c_NoMatching = true)
    (o2_NoMatching : PySem.W.typeIn K (.ref c_NoMatching) = some (.type "type"))
    (o1_TooMany : PySem.W.isClsIn K c_TooMany = true)
    (o2_TooMany : PySem.W.typeIn K (.ref c_TooMany) = some (.type "type"))
    (o1_Weighing : PySem.W.isClsIn K c_Weighing = true)
    (o2_Weighing : PySem.W.typeIn K (.ref c_Weighing) = some (.type "type"))
    (hnG : PySem.W.specialIn K (.builtin "object.__class__") "__get__" = some (some (.builtin "getset_descriptor.__get__")))
    (htG : PySem.W.takesIn K (.builtin "object.__class__") = some true)
    (w_NoTreeg : PySem.W.findIn K (.ref c_NoTree) "__getattribute__" = some (some (.builtin "BaseException.__getattribute__")))
    (w_NoTreek : PySem.W.findIn K (.ref c_NoTree) "__getattr__" = some none)
    (w_NoTrees : PySem.W.subIn K (.ref c_NoTree) (.type "BaseException") = some true)
    (w_NoTreed : PySem.W.hasDictIn K c_NoTree = true)
    (w_NoTreea : PySem.W.findIn K (.ref c_NoTree) "__class__" = some (some (.builtin "object.__class__")))
    (w_NoTreem : PySem.W.mroIn K c_NoTree (.type "object") = some true)
    (w_NoTreev : PySem.W.subIn K (.ref c_NoTree) (.type "ValueError") = some true)
    (w_NoTree_TreeError : PySem.W.subIn K (.ref c_NoTree) (.ref c_TreeError) = some true)
    (w_NoTree_NoThing : PySem.W.subIn K (.ref c_NoTree) (.ref c_NoThing) = some true)
    (w_NoTree_NoFit : PySem.W.subIn K (.ref c_NoTree) (.ref c_NoFit) = some false)
    (w_NoTree_NoTree : PySem.W.subIn K (.ref c_NoTree) (.ref c_NoTree) = some true)
    (w_NoTree_NoCosts : PySem.W.subIn K (.ref c_NoTree) (.ref c_NoCosts) = some false)
    (w_NoTree_NoMatching : PySem.W.subIn K (.ref c_NoTree) (.ref c_NoMatching) = some false)
    (w_NoTree_TooMany : PySem.W.subIn K (.ref c_NoTree) (.ref c_TooMany) = some false)
    (w_NoTree_Weighing : PySem.W.subIn K (.ref c_NoTree) (.ref c_Weighing) = some false)
    (x1_NoTree : PySem.W.excIn K c_NoTree [.type "ValueError", .type "Exception", .type "BaseException", .type "object"] "ValueError.__new__" = true)
    (x2_NoTree : PySem.W.keepIn K (.ref c_NoTree) = true)
    (w_NoCostsg : PySem.W.findIn K (.ref c_NoCosts) "__getattribute__" = some (some (.builtin "BaseException.__getattribute__")))
    (w_NoCostsk : PySem.W.findIn K (.ref c_NoCosts) "__getattr__" = some none)
    (w_NoCostss : PySem.W.subIn K (.ref c_NoCosts) (.type "BaseException") = some true)
    (w_NoCostsd : PySem.W.hasDictIn K c_NoCosts = true)
    (w_NoCostsa : PySem.W.findIn K (.ref c_NoCosts) "__class__" = some (some (.builtin "object.__class__")))
    (w_NoCostsm : PySem.W.mroIn K c_NoCosts (.type "object") = some true)
    (w_NoCostsv : PySem.W.subIn K (.ref c_NoCosts) (.type "ValueError") = some true)
    (w_NoCosts_TreeError : PySem.W.subIn K (.ref c_NoCosts) (.ref c_TreeError) = some true)
    (w_NoCosts_NoThing : PySem.W.subIn K (.ref c_NoCosts) (.ref c_NoThing) = some true)
    (w_NoCosts_NoFit : PySem.W.subIn K (.ref c_NoCosts) (.ref c_NoFit) = some false)
    (w_NoCosts_NoTree : PySem.W.subIn K (.ref c_NoCosts) (.ref c_NoTree) = some false)
    (w_NoCosts_NoCosts : PySem.W.subIn K (.ref c_NoCosts) (.ref c_NoCosts) = some true)
    (w_NoCosts_NoMatching : PySem.W.subIn K (.ref c_NoCosts) (.ref c_NoMatching) = some false)
    (w_NoCosts_TooMany : PySem.W.subIn K (.ref c_NoCosts) (.ref c_TooMany) = some false)
    (w_NoCosts_Weighing : PySem.W.subIn K (.ref c_NoCosts) (.ref c_Weighing) = some false)
    (xl1_NoCosts : K.lookup c_NoCosts = some (excClassObj nm_NoCosts q_NoCosts c_NoCosts N_NoCosts bs_NoCosts bm_NoCosts true sn_NoCosts sub_NoCosts ab_NoCosts col_NoCosts dd_NoCosts g0_NoCosts g1_NoCosts g2_NoCosts g3_NoCosts g5_NoCosts "ValueError.__new__"))
    (xl2_NoCosts : PySem.HandSPX.refsVE bm_NoCosts = true)
    (xl3_NoCosts : PySem.W.findIn K (.ref c_NoCosts) "__setattr__" = some (some (.builtin "object.__setattr__")))
    (xl4_NoCosts : PySem.W.keepIn K (.ref c_NoCosts) = true)
    (xl5_NoCosts : PySem.W.findIn K (.ref c_NoCosts) "__init__" = some (some (.ref fI_NoCosts)))
    (xl6_NoCosts : PySem.W.typeIn K (.ref fI_NoCosts) = some (.type "function"))
    (xl7_NoCosts : PySem.W.findIn K (.ref c_NoCosts) "what" = some none)
    (lI_NoCosts : K.lookup fI_NoCosts = some ⟨ocI_NoCosts, odI_NoCosts, .func (PySem.W.fnOf "__init__" "NoCosts.__init__" (defArgs sI_NoCosts) (defBody sI_NoCosts) (defScope sI_NoCosts) .none kVI_NoCosts dcI_NoCosts pmI_NoCosts anI_NoCosts cdI_NoCosts ctI_NoCosts), slI_NoCosts⟩)
    (cI_NoCosts : PySem.W.codeIn K cdI_NoCosts "NoCosts.__init__" = true)
    (kI_NoCosts : PySem.W.keepIn K (.ref fI_NoCosts) = true)
    (w_TooManyg : PySem.W.findIn K (.ref c_TooMany) "__getattribute__" = some (some (.builtin "BaseException.__getattribute__")))
    (w_TooManyk : PySem.W.findIn K (.ref c_TooMany) "__getattr__" = some none)
    (w_TooManys : PySem.W.subIn K (.ref c_TooMany) (.type "BaseException") = some true)
    (w_TooManyd : PySem.W.hasDictIn K c_TooMany = true)
    (w_TooManya : PySem.W.findIn K (.ref c_TooMany) "__class__" = some (some (.builtin "object.__class__")))
    (w_TooManym : PySem.W.mroIn K c_TooMany (.type "object") = some true)
    (w_TooManyv : PySem.W.subIn K (.ref c_TooMany) (.type "ValueError") = some true)
    (w_TooMany_TreeError : PySem.W.subIn K (.ref c_TooMany) (.ref c_TreeError) = some true)
    (w_TooMany_NoThing : PySem.W.subIn K (.ref c_TooMany) (.ref c_NoThing) = some false)
    (w_TooMany_NoFit : PySem.W.subIn K (.ref c_TooMany) (.ref c_NoFit) = some true)
    (w_TooMany_NoTree : PySem.W.subIn K (.ref c_TooMany) (.ref c_NoTree) = some false)
    (w_TooMany_NoCosts : PySem.W.subIn K (.ref c_TooMany) (.ref c_NoCosts) = some false)
    (w_TooMany_NoMatching : PySem.W.subIn K (.ref c_TooMany) (.ref c_NoMatching) = some false)
    (w_TooMany_TooMany : PySem.W.subIn K (.ref c_TooMany) (.ref c_TooMany) = some true)
    (w_TooMany_Weighing : PySem.W.subIn K (.ref c_TooMany) (.ref c_Weighing) = some false)
    (xl1_TooMany : K.lookup c_TooMany = some (excClassObj nm_TooMany q_TooMany c_TooMany N_TooMany bs_TooMany bm_TooMany true sn_TooMany sub_TooMany ab_TooMany col_TooMany dd_TooMany g0_TooMany g1_TooMany g2_TooMany g3_TooMany g5_TooMany "ValueError.__new__"))
    (xl2_TooMany : PySem.HandSPX.refsVE bm_TooMany = true)
    (xl3_TooMany : PySem.W.findIn K (.ref c_TooMany) "__setattr__" = some (some (.builtin "object.__setattr__")))
    (xl4_TooMany : PySem.W.keepIn K (.ref c_TooMany) = true)
    (xl5_TooMany : PySem.W.findIn K (.ref c_TooMany) "__init__" = some (some (.ref fI_TooMany)))
    (xl6_TooMany : PySem.W.typeIn K (.ref fI_TooMany) = some (.type "function"))
    (xl7_TooMany : PySem.W.findIn K (.ref c_TooMany) "count" = some none)
    (lI_TooMany : K.lookup fI_TooMany = some ⟨ocI_TooMany, odI_TooMany, .func (PySem.W.fnOf "__init__" "TooMany.__init__" (defArgs sI_TooMany) (defBody sI_TooMany) (defScope sI_TooMany) .none kVI_TooMany dcI_TooMany pmI_TooMany anI_TooMany cdI_TooMany ctI_TooMany), slI_TooMany⟩)
    (cI_TooMany : PySem.W.codeIn K cdI_TooMany "TooMany.__init__" = true)
    (kI_TooMany : PySem.W.keepIn K (.ref fI_TooMany) = true)
    (w_NoMatchingg : PySem.W.findIn K (.ref c_NoMatching) "__getattribute__" = some (some (.builtin "BaseException.__getattribute__")))
    (w_NoMatchingk : PySem.W.findIn K (.ref c_NoMatching) "__getattr__" = some none)
    (w_NoMatchings : PySem.W.subIn K (.ref c_NoMatching) (.type "BaseException") = some true)
    (w_NoMatchingd : PySem.W.hasDictIn K c_NoMatching = true)
    (w_NoMatchinga : PySem.W.findIn K (.ref c_NoMatching) "__class__" = some (some (.builtin "object.__class__")))
    (w_NoMatchingm : PySem.W.mroIn K c_NoMatching (.type "object") = some true)
    (w_NoMatchingv : PySem.W.subIn K (.ref c_NoMatching) (.type "ValueError") = some true)
    (w_NoMatching_TreeError : PySem.W.subIn K (.ref c_NoMatching) (.ref c_TreeError) = some true)
    (w_NoMatching_NoThing : PySem.W.subIn K (.ref c_NoMatching) (.ref c_NoThing) = some true)
    (w_NoMatching_NoFit : PySem.W.subIn K (.ref c_NoMatching) (.ref c_NoFit) = some false)
    (w_NoMatching_NoTree : PySem.W.subIn K (.ref c_NoMatching) (.ref c_NoTree) = some false)
    (w_NoMatching_NoCosts : PySem.W.subIn K (.ref c_NoMatching) (.ref c_NoCosts) = some false)
    (w_NoMatching_NoMatching : PySem.W.subIn K (.ref c_NoMatching) (.ref c_NoMatching) = some true)
    (w_NoMatching_TooMany : PySem.W.subIn K (.ref c_NoMatching) (.ref c_TooMany) = some false)
    (w_NoMatching_Weighing : PySem.W.subIn K (.ref c_NoMatching) (.ref c_Weighing) = some false)
    (xl1_NoMatching : K.lookup c_NoMatching = some (excClassObj nm_NoMatching q_NoMatching c_NoMatching N_NoMatching bs_NoMatching bm_NoMatching true sn_NoMatching sub_NoMatching ab_NoMatching col_NoMatching dd_NoMatching g0_NoMatching g1_NoMatching g2_NoMatching g3_NoMatching g5_NoMatching "ValueError.__new__"))
    (xl2_NoMatching : PySem.HandSPX.refsVE bm_NoMatching = true)
    (xl3_NoMatching : PySem.W.findIn K (.ref c_NoMatching) "__setattr__" = some (some (.builtin "object.__setattr__")))
    (xl4_NoMatching : PySem.W.keepIn K (.ref c_NoMatching) = true)
    (xl5_NoMatching : PySem.W.findIn K (.ref c_NoMatching) "__init__" = some (some (.ref fI_NoMatching)))
    (xl6_NoMatching : PySem.W.typeIn K (.ref fI_NoMatching) = some (.type "function"))
    (xl7_NoMatching : PySem.W.findIn K (.ref c_NoMatching) "what" = some none)
    (lI_NoMatching : K.lookup fI_NoMatching = some ⟨ocI_NoMatching, odI_NoMatching, .func (PySem.W.fnOf "__init__" "NoMatching.__init__" (defArgs sI_NoMatching) (defBody sI_NoMatching) (defScope sI_NoMatching) .none kVI_NoMatching dcI_NoMatching pmI_NoMatching anI_NoMatching cdI_NoMatching ctI_NoMatching), slI_NoMatching⟩)
    (cI_NoMatching : PySem.W.codeIn K cdI_NoMatching "NoMatching.__init__" = true)
    (kI_NoMatching : PySem.W.keepIn K (.ref fI_NoMatching) = true)
    (g1_Weighing : PySem.W.plainGet K c_Weighing Str.empty = true)
    (g2_Weighing : PySem.W.hasDictIn K c_Weighing = true)
    (g3_Weighing : PySem.W.plainOver K c_Weighing = true)
    (g4_Weighing : PySem.W.findIn K (.ref c_Weighing) "__setattr__" = some (some (.builtin "object.__setattr__")))
    (g5_Weighing : PySem.W.makesIn K c_Weighing = true)
    (g6_Weighing : PySem.W.keepIn K (.ref c_Weighing) = true)
    (na_Weighing_one : PySem.W.findIn K (.ref c_Weighing) "one" = some none)
    (na_Weighing_other : PySem.W.findIn K (.ref c_Weighing) "other" = some none)
    (na_Weighing_costs : PySem.W.findIn K (.ref c_Weighing) "costs" = some none)
    (q1_Weighing_below_tops : PySem.W.findIn K (.ref c_Weighing) "below_tops" = some (some (.ref fM_Weighing_below_tops)))
    (q2_Weighing_below_tops : PySem.W.isFn K (.ref fM_Weighing_below_tops) = true)
    (q3_Weighing_below_tops : PySem.W.keepIn K (.ref fM_Weighing_below_tops) = true)
    (q4_Weighing_below_tops : K.lookup fM_Weighing_below_tops = some ⟨ocM_Weighing_below_tops, odM_Weighing_below_tops, .func (PySem.W.fnOf "below_tops" "Weighing.below_tops" (defArgs sTops) (defBody sTops) (defScope sTops) .none kVM_Weighing_below_tops dcM_Weighing_below_tops pmM_Weighing_below_tops anM_Weighing_below_tops cdM_Weighing_below_tops ctM_Weighing_below_tops), slM_Weighing_below_tops⟩)
    (q5_Weighing_below_tops : PySem.W.codeIn K cdM_Weighing_below_tops "Weighing.below_tops" = true)
    (q1_Weighing_naming : PySem.W.findIn K (.ref c_Weighing) "naming" = some (some (.ref fM_Weighing_naming)))
    (q2_Weighing_naming : PySem.W.isFn K (.ref fM_Weighing_naming) = true)
    (q3_Weighing_naming : PySem.W.keepIn K (.ref fM_Weighing_naming) = true)
    (q4_Weighing_naming : K.lookup fM_Weighing_naming = some ⟨ocM_Weighing_naming, odM_Weighing_naming, .func (PySem.W.fnOf "naming" "Weighing.naming" (defArgs sNaming) (defBody sNaming) (defScope sNaming) .none kVM_Weighing_naming dcM_Weighing_naming pmM_Weighing_naming anM_Weighing_naming cdM_Weighing_naming ctM_Weighing_naming), slM_Weighing_naming⟩)
    (q5_Weighing_naming : PySem.W.codeIn K cdM_Weighing_naming "Weighing.naming" = true)
    (q1_Weighing_init : PySem.W.findIn K (.ref c_Weighing) "__init__" = some (some (.ref fM_Weighing_init)))
    (q2_Weighing_init : PySem.W.isFn K (.ref fM_Weighing_init) = true)
    (q3_Weighing_init : PySem.W.keepIn K (.ref fM_Weighing_init) = true)
    (q4_Weighing_init : K.lookup fM_Weighing_init = some ⟨ocM_Weighing_init, odM_Weighing_init, .func (PySem.W.fnOf "__init__" "Weighing.__init__" (defArgs sWgIn) (defBody sWgIn) (defScope sWgIn) .none kVM_Weighing_init dcM_Weighing_init pmM_Weighing_init anM_Weighing_init cdM_Weighing_init ctM_Weighing_init), slM_Weighing_init⟩)
    (q5_Weighing_init : PySem.W.codeIn K cdM_Weighing_init "Weighing.__init__" = true)
    {s₁ : Shared} {base : Heap} {H : Hp} {a : Addr} {ns : List Int} (hlen : ns.length ≤ 63) (hS : SqL K H a (ns.map V.int)) {cO1 tp1 : Addr} (ht1 : H tp1 = some (.tbl #[])) (hb1 : LamX.TabB base mg cO1 tp1) (hi1 : PySem.W.tabIn K "lined_up" = some (cO1, tp1)) (e0 : Env0 P w K mg base callerA [] s₁ H) :
    codeAny (model P w) callerA (.call (.ref fa) ⟨[.ref a], []⟩) (CR CX0 [] P w H s₁ (fun v _ => v = V.bl true) fun _ _ _ => False) s₁ := by
  have T : Bl mg := ⟨PySem.W.mg_none_of X G z1, PySem.W.mg_none_of X G z2, PySem.W.mg_none_of X G z3, PySem.W.mg_none_of X G z4, PySem.W.mg_none_of X G z5, PySem.W.mg_none_of X G z6, PySem.W.mg_none_of X G z7, PySem.W.mg_none_of X G z8, PySem.W.mg_none_of X G z9, PySem.W.mg_none_of X G z10, PySem.W.mg_none_of X G z11, PySem.W.mg_none_of X G z12⟩
  have cSIZE : ∃ t, mg "SIZE" = some (.int 60 t) := ⟨_, PySem.W.mg_of X G n1⟩
  have cDEPTH : ∃ t, mg "DEPTH" = some (.int 12 t) := ⟨_, PySem.W.mg_of X G n2⟩
  have cSIGNS : ∃ t, mg "SIGNS" = some (.int 8 t) := ⟨_, PySem.W.mg_of X G n3⟩
  have cCOST : ∃ t, mg "COST" = some (.int 100 t) := ⟨_, PySem.W.mg_of X G n4⟩
  have cNEAR : ∃ t, mg "NEAR" = some (.int 12 t) := ⟨_, PySem.W.mg_of X G n5⟩
  have z_sum : mg "sum" = none := PySem.W.mg_none_of X G z13
  have z_min : mg "min" = none := PySem.W.mg_none_of X G z14
  have z_sorted : mg "sorted" = none := PySem.W.mg_none_of X G z15
  have cl_Weighing : L2.Cls K c_Weighing := ⟨g1_Weighing, g2_Weighing, g3_Weighing, g4_Weighing⟩
  have fn_Weighing_below_tops := fun_mk (st := sTops) q4_Weighing_below_tops q5_Weighing_below_tops q3_Weighing_below_tops
  have me_Weighing_below_tops : L2.Meth K c_Weighing "below_tops" fM_Weighing_below_tops := ⟨q1_Weighing_below_tops, q2_Weighing_below_tops, q3_Weighing_below_tops⟩
  have fn_Weighing_naming := fun_mk (st := sNaming) q4_Weighing_naming q5_Weighing_naming q3_Weighing_naming
  have me_Weighing_naming : L2.Meth K c_Weighing "naming" fM_Weighing_naming := ⟨q1_Weighing_naming, q2_Weighing_naming, q3_Weighing_naming⟩
  have fn_Weighing_init := fun_mk (st := sWgIn) q4_Weighing_init q5_Weighing_init q3_Weighing_init
  have me_Weighing_init : L2.Meth K c_Weighing "__init__" fM_Weighing_init := ⟨q1_Weighing_init, q2_Weighing_init, q3_Weighing_init⟩
  have mk_Weighing : L2.Mk K c_Weighing fM_Weighing_init := ⟨g5_Weighing, q1_Weighing_init, q2_Weighing_init, g6_Weighing⟩
  let A : Cls K mg := ⟨c_TreeError, c_NoThing, c_NoFit, c_NoTree, c_NoCosts, c_NoMatching, c_TooMany, c_Weighing, PySem.W.mg_of X G y_TreeError, PySem.W.mg_of X G y_NoThing, PySem.W.mg_of X G y_NoFit, PySem.W.mg_of X G y_NoTree, PySem.W.mg_of X G y_NoCosts, PySem.W.mg_of X G y_NoMatching, PySem.W.mg_of X G y_TooMany, PySem.W.mg_of X G y_Weighing, ⟨PySem.W.mg_of X G y_NoTree, x1_NoTree, x2_NoTree, w_NoTrees, o2_NoTree⟩, ⟨w_NoTreeg, w_NoTreek, w_NoTrees, w_NoTreed, w_NoTreea, hnG, htG, w_NoTreem⟩, kit_ve w_NoTreev, kit_sub o1_TreeError o2_TreeError w_NoTree_TreeError, kit_sub o1_NoThing o2_NoThing w_NoTree_NoThing, kit_no o1_NoFit o2_NoFit w_NoTree_NoTree w_NoTree_NoFit, kit_sub o1_NoTree o2_NoTree w_NoTree_NoTree, kit_no o1_NoCosts o2_NoCosts w_NoTree_NoTree w_NoTree_NoCosts, kit_no o1_NoMatching o2_NoMatching w_NoTree_NoTree w_NoTree_NoMatching, kit_no o1_TooMany o2_TooMany w_NoTree_NoTree w_NoTree_TooMany, kit_no o1_Weighing o2_Weighing w_NoTree_NoTree w_NoTree_Weighing, ⟨⟨⟨_, _, _, _, _, _, _, _, _, _, _, _, _, _, _, xl1_NoCosts, xl2_NoCosts⟩, xl3_NoCosts, w_NoCostss, o2_NoCosts, xl4_NoCosts⟩, PySem.W.mg_of X G y_NoCosts, xl7_NoCosts, _, _, xl5_NoCosts, xl6_NoCosts, fun_mk (st := sI_NoCosts) lI_NoCosts cI_NoCosts kI_NoCosts⟩, ⟨w_NoCostsg, w_NoCostsk, w_NoCostss, w_NoCostsd, w_NoCostsa, hnG, htG, w_NoCostsm⟩, kit_ve w_NoCostsv, kit_sub o1_TreeError o2_TreeError w_NoCosts_TreeError, kit_sub o1_NoThing o2_NoThing w_NoCosts_NoThing, kit_no o1_NoFit o2_NoFit w_NoCosts_NoCosts w_NoCosts_NoFit, kit_no o1_NoTree o2_NoTree w_NoCosts_NoCosts w_NoCosts_NoTree, kit_sub o1_NoCosts o2_NoCosts w_NoCosts_NoCosts, kit_no o1_NoMatching o2_NoMatching w_NoCosts_NoCosts w_NoCosts_NoMatching, kit_no o1_TooMany o2_TooMany w_NoCosts_NoCosts w_NoCosts_TooMany, kit_no o1_Weighing o2_Weighing w_NoCosts_NoCosts w_NoCosts_Weighing, ⟨⟨⟨_, _, _, _, _, _, _, _, _, _, _, _, _, _, _, xl1_TooMany, xl2_TooMany⟩, xl3_TooMany, w_TooManys, o2_TooMany, xl4_TooMany⟩, PySem.W.mg_of X G y_TooMany, xl7_TooMany, _, _, xl5_TooMany, xl6_TooMany, fun_mk (st := sI_TooMany) lI_TooMany cI_TooMany kI_TooMany⟩, ⟨w_TooManyg, w_TooManyk, w_TooManys, w_TooManyd, w_TooManya, hnG, htG, w_TooManym⟩, kit_ve w_TooManyv, kit_sub o1_TreeError o2_TreeError w_TooMany_TreeError, kit_no o1_NoThing o2_NoThing w_TooMany_TooMany w_TooMany_NoThing, kit_sub o1_NoFit o2_NoFit w_TooMany_NoFit, kit_no o1_NoTree o2_NoTree w_TooMany_TooMany w_TooMany_NoTree, kit_no o1_NoCosts o2_NoCosts w_TooMany_TooMany w_TooMany_NoCosts, kit_no o1_NoMatching o2_NoMatching w_TooMany_TooMany w_TooMany_NoMatching, kit_sub o1_TooMany o2_TooMany w_TooMany_TooMany, kit_no o1_Weighing o2_Weighing w_TooMany_TooMany w_TooMany_Weighing, ⟨⟨⟨_, _, _, _, _, _, _, _, _, _, _, _, _, _, _, xl1_NoMatching, xl2_NoMatching⟩, xl3_NoMatching, w_NoMatchings, o2_NoMatching, xl4_NoMatching⟩, PySem.W.mg_of X G y_NoMatching, xl7_NoMatching, _, _, xl5_NoMatching, xl6_NoMatching, fun_mk (st := sI_NoMatching) lI_NoMatching cI_NoMatching kI_NoMatching⟩, ⟨w_NoMatchingg, w_NoMatchingk, w_NoMatchings, w_NoMatchingd, w_NoMatchinga, hnG, htG, w_NoMatchingm⟩, kit_ve w_NoMatchingv, kit_sub o1_TreeError o2_TreeError w_NoMatching_TreeError, kit_sub o1_NoThing o2_NoThing w_NoMatching_NoThing, kit_no o1_NoFit o2_NoFit w_NoMatching_NoMatching w_NoMatching_NoFit, kit_no o1_NoTree o2_NoTree w_NoMatching_NoMatching w_NoMatching_NoTree, kit_no o1_NoCosts o2_NoCosts w_NoMatching_NoMatching w_NoMatching_NoCosts, kit_sub o1_NoMatching o2_NoMatching w_NoMatching_NoMatching, kit_no o1_TooMany o2_TooMany w_NoMatching_NoMatching w_NoMatching_TooMany, kit_no o1_Weighing o2_Weighing w_NoMatching_NoMatching w_NoMatching_Weighing⟩
  have C : Cs mg := ⟨cSIZE, cDEPTH, cSIGNS⟩
  have R : WgR K A.c_Weighing := ⟨⟨cl_Weighing, na_Weighing_one, na_Weighing_other, na_Weighing_costs⟩, _, _, fn_Weighing_init, mk_Weighing, _, _, fn_Weighing_below_tops, me_Weighing_below_tops, _, _, fn_Weighing_naming, me_Weighing_naming⟩
  have D : Nonempty (Defs K mg) := ⟨⟨at_mk X G a1 l1 c1 k1, at_mk X G a2 l2 c2 k2, at_mk X G a3 l3 c3 k3, at_mk X G a4 l4 c4 k4, at_mk X G a5 l5 c5 k5, at_mk X G a6 l6 c6 k6, at_mk X G a7 l7 c7 k7, at_mk X G a8 l8 c8 k8, at_mk X G a9 l9 c9 k9, at_mk X G a10 l10 c10 k10, at_mk X G a11 l11 c11 k11, at_mk X G a12 l12 c12 k12, at_mk X G a13 l13 c13 k13, at_mk X G a14 l14 c14 k14, at_mk X G a15 l15 c15 k15, at_mk X G a16 l16 c16 k16, at_mk X G a17 l17 c17 k17, at_mk X G a18 l18 c18 k18, at_mk X G a19 l19 c19 k19, at_mk X G a20 l20 c20 k20, at_mk X G a21 l21 c21 k21, at_mk X G a22 l22 c22 k22, at_mk X G a23 l23 c23 k23, at_mk X G a24 l24 c24 k24, at_mk X G a25 l25 c25 k25, at_mk X G a26 l26 c26 k26, at_mk X G a27 l27 c27 k27, at_mk X G a28 l28 c28 k28, at_mk X G a29 l29 c29 k29, at_mk X G a30 l30 c30 k30, at_mk X G a31 l31 c31 k31, at_mk X G a32 l32 c32 k32, at_mk X G a33 l33 c33 k33, at_mk X G a34 l34 c34 k34, at_mk X G a35 l35 c35 k35, at_mk X G a36 l36 c36 k36, at_mk X G a37 l37 c37 k37, at_mk X G a38 l38 c38 k38, at_mk X G a39 l39 c39 k39, at_mk X G a40 l40 c40 k40, at_mk X G a41 l41 c41 k41, at_mk X G a42 l42 c42 k42, at_mk X G a43 l43 c43 k43⟩⟩
  obtain ⟨D⟩ := D
  have e : D.d_law.f = fa := by
    have := hfa.symm.trans D.d_law.m
    cases this
    rfl
  rw [← e]
  have hc1 : D.d_lined_up.fd.code = .ref cO1 := code_of X G D.d_lined_up.F D.d_lined_up.m hi1
  exact ok_law (tp := tp1) D.d_law.F T (calls D T A R C z_sum z_min z_sorted cCOST cNEAR hc1 base hb1) ht1 hlen hS e0
end Tl
open PySem PySem.W PyProof.Rows
set_option Elab.async false
set_option maxRecDepth 100000 in
set_option maxHeartbeats 0 in
theorem PySem.Challenge.cw_treelore_k48_whole_top_matchings_holds : PySem.Challenge.rw_treelore_k48_whole_top_matchings.Holds := by
  refine tl_head ?_
  k_fill
  refine' Tl.walk_at_topT (l := PySem.Challenge.rw_treelore_k48_whole_top_matchings) (n := 63) (ts := [("lined_up", _, _)]) rfl (by decide) rfl (fun w h Y => PySem.W.km_in_of Y) ?HT ?F
  case HT =>
    refine' ⟨⟨⟨_, ?R0⟩, fun w => ⟨Tl.tabIn_mk ?A0 ?B0 ?C0 ?D0 ?E0, ?N0⟩⟩, trivial⟩
    (case R0 => rfl)
    (case A0 => k_is)
    (case B0 => k_is)
    (case C0 => rfl)
    (case D0 => k_is)
    (case E0 => rfl)
    (case N0 => kernel_rfl)
  case F =>
    intro w mg fa h KX G hmg s₁ base H a ns hlen hKb hNb hS hT hB hI e0
    refine' Tl.all_mk KX G hmg ?a1 ?l1 ?c1 ?k1 ?a2 ?l2 ?c2 ?k2 ?a3 ?l3 ?c3 ?k3 ?a4 ?l4 ?c4 ?k4 ?a5 ?l5 ?c5 ?k5 ?a6 ?l6 ?c6 ?k6 ?a7 ?l7 ?c7 ?k7 ?a8 ?l8 ?c8 ?k8 ?a9 ?l9 ?c9 ?k9 ?a10 ?l10 ?c10 ?k10 ?a11 ?l11 ?c11 ?k11 ?a12 ?l12 ?c12 ?k12 ?a13 ?l13 ?c13 ?k13 ?a14 ?l14 ?c14 ?k14 ?a15 ?l15 ?c15 ?k15 ?a16 ?l16 ?c16 ?k16 ?a17 ?l17 ?c17 ?k17 ?a18 ?l18 ?c18 ?k18 ?a19 ?l19 ?c19 ?k19 ?a20 ?l20 ?c20 ?k20 ?a21 ?l21 ?c21 ?k21 ?a22 ?l22 ?c22 ?k22 ?a23 ?l23 ?c23 ?k23 ?a24 ?l24 ?c24 ?k24 ?a25 ?l25 ?c25 ?k25 ?a26 ?l26 ?c26 ?k26 ?a27 ?l27 ?c27 ?k27 ?a28 ?l28 ?c28 ?k28 ?a29 ?l29 ?c29 ?k29 ?a30 ?l30 ?c30 ?k30 ?a31 ?l31 ?c31 ?k31 ?a32 ?l32 ?c32 ?k32 ?a33 ?l33 ?c33 ?k33 ?a34 ?l34 ?c34 ?k34 ?a35 ?l35 ?c35 ?k35 ?a36 ?l36 ?c36 ?k36 ?a37 ?l37 ?c37 ?k37 ?a38 ?l38 ?c38 ?k38 ?a39 ?l39 ?c39 ?k39 ?a40 ?l40 ?c40 ?k40 ?a41 ?l41 ?c41 ?k41 ?a42 ?l42 ?c42 ?k42 ?a43 ?l43 ?c43 ?k43 ?z1 ?z2 ?z3 ?z4 ?z5 ?z6 ?z7 ?z8 ?z9 ?z10 ?z11 ?z12 ?z13 ?z14 ?z15 ?n1 ?n2 ?n3 ?n4 ?n5 ?y_TreeError ?y_NoThing ?y_NoFit ?y_NoTree ?y_NoCosts ?y_NoMatching ?y_TooMany ?y_Weighing ?o1_TreeError ?o2_TreeError ?o1_NoThing ?o2_NoThing ?o1_NoFit ?o2_NoFit ?o1_NoTree ?o2_NoTree ?o1_NoCosts ?o2_NoCosts ?o1_NoMatching ?o2_NoMatching ?o1_TooMany ?o2_TooMany ?o1_Weighing ?o2_Weighing ?hnG ?htG ?w_NoTreeg ?w_NoTreek ?w_NoTrees ?w_NoTreed ?w_NoTreea ?w_NoTreem ?w_NoTreev ?w_NoTree_TreeError ?w_NoTree_NoThing ?w_NoTree_NoFit ?w_NoTree_NoTree ?w_NoTree_NoCosts ?w_NoTree_NoMatching ?w_NoTree_TooMany ?w_NoTree_Weighing ?x1_NoTree ?x2_NoTree ?w_NoCostsg ?w_NoCostsk ?w_NoCostss ?w_NoCostsd ?w_NoCostsa ?w_NoCostsm ?w_NoCostsv ?w_NoCosts_TreeError ?w_NoCosts_NoThing ?w_NoCosts_NoFit ?w_NoCosts_NoTree ?w_NoCosts_NoCosts ?w_NoCosts_NoMatching ?w_NoCosts_TooMany ?w_NoCosts_Weighing ?xl1_NoCosts ?xl2_NoCosts ?xl3_NoCosts ?xl4_NoCosts ?xl5_NoCosts ?xl6_NoCosts ?xl7_NoCosts ?lI_NoCosts ?cI_NoCosts ?kI_NoCosts ?w_TooManyg ?w_TooManyk ?w_TooManys ?w_TooManyd ?w_TooManya ?w_TooManym ?w_TooManyv ?w_TooMany_TreeError ?w_TooMany_NoThing ?w_TooMany_NoFit ?w_TooMany_NoTree ?w_TooMany_NoCosts ?w_TooMany_NoMatching ?w_TooMany_TooMany ?w_TooMany_Weighing ?xl1_TooMany ?xl2_TooMany ?xl3_TooMany ?xl4_TooMany ?xl5_TooMany ?xl6_TooMany ?xl7_TooMany ?lI_TooMany ?cI_TooMany ?kI_TooMany ?w_NoMatchingg ?w_NoMatchingk ?w_NoMatchings ?w_NoMatchingd ?w_NoMatchinga ?w_NoMatchingm ?w_NoMatchingv ?w_NoMatching_TreeError ?w_NoMatching_NoThing ?w_NoMatching_NoFit ?w_NoMatching_NoTree ?w_NoMatching_NoCosts ?w_NoMatching_NoMatching ?w_NoMatching_TooMany ?w_NoMatching_Weighing ?xl1_NoMatching ?xl2_NoMatching ?xl3_NoMatching ?xl4_NoMatching ?xl5_NoMatching ?xl6_NoMatching ?xl7_NoMatching ?lI_NoMatching ?cI_NoMatching ?kI_NoMatching ?g1_Weighing ?g2_Weighing ?g3_Weighing ?g4_Weighing ?g5_Weighing ?g6_Weighing ?na_Weighing_one ?na_Weighing_other ?na_Weighing_costs ?q1_Weighing_below_tops ?q2_Weighing_below_tops ?q3_Weighing_below_tops ?q4_Weighing_below_tops ?q5_Weighing_below_tops ?q1_Weighing_naming ?q2_Weighing_naming ?q3_Weighing_naming ?q4_Weighing_naming ?q5_Weighing_naming ?q1_Weighing_init ?q2_Weighing_init ?q3_Weighing_init ?q4_Weighing_init ?q5_Weighing_init hlen hS (hT _ (.head _)) (hB _ (.head _)) (hI _ (.head _)) e0
    (case a1 => k_is)
    (case l1 => k_is)
    (case c1 => k_is)
    (case k1 => k_is)
    (case a2 => k_is)
    (case l2 => k_is)
    (case c2 => k_is)
    (case k2 => k_is)
    (case a3 => k_is)
    (case l3 => k_is)
    (case c3 => k_is)
    (case k3 => k_is)
    (case a4 => k_is)
    (case l4 => k_is)
    (case c4 => k_is)
    (case k4 => k_is)
    (case a5 => k_is)
    (case l5 => k_is)
    (case c5 => k_is)
    (case k5 => k_is)
    (case a6 => k_is)
    (case l6 => k_is)
    (case c6 => k_is)
    (case k6 => k_is)
    (case a7 => k_is)
    (case l7 => k_is)
    (case c7 => k_is)
    (case k7 => k_is)
    (case a8 => k_is)
    (case l8 => k_is)
    (case c8 => k_is)
    (case k8 => k_is)
    (case a9 => k_is)
    (case l9 => k_is)
    (case c9 => k_is)
    (case k9 => k_is)
    (case a10 => k_is)
    (case l10 => k_is)
    (case c10 => k_is)
    (case k10 => k_is)
    (case a11 => k_is)
    (case l11 => k_is)
    (case c11 => k_is)
    (case k11 => k_is)
    (case a12 => k_is)
    (case l12 => k_is)
    (case c12 => k_is)
    (case k12 => k_is)
    (case a13 => k_is)
    (case l13 => k_is)
    (case c13 => k_is)
    (case k13 => k_is)
    (case a14 => k_is)
    (case l14 => k_is)
    (case c14 => k_is)
    (case k14 => k_is)
    (case a15 => k_is)
    (case l15 => k_is)
    (case c15 => k_is)
    (case k15 => k_is)
    (case a16 => k_is)
    (case l16 => k_is)
    (case c16 => k_is)
    (case k16 => k_is)
    (case a17 => k_is)
    (case l17 => k_is)
    (case c17 => k_is)
    (case k17 => k_is)
    (case a18 => k_is)
    (case l18 => k_is)
    (case c18 => k_is)
    (case k18 => k_is)
    (case a19 => k_is)
    (case l19 => k_is)
    (case c19 => k_is)
    (case k19 => k_is)
    (case a20 => k_is)
    (case l20 => k_is)
    (case c20 => k_is)
    (case k20 => k_is)
    (case a21 => k_is)
    (case l21 => k_is)
    (case c21 => k_is)
    (case k21 => k_is)
    (case a22 => k_is)
    (case l22 => k_is)
    (case c22 => k_is)
    (case k22 => k_is)
    (case a23 => k_is)
    (case l23 => k_is)
    (case c23 => k_is)
    (case k23 => k_is)
    (case a24 => k_is)
    (case l24 => k_is)
    (case c24 => k_is)
    (case k24 => k_is)
    (case a25 => k_is)
    (case l25 => k_is)
    (case c25 => k_is)
    (case k25 => k_is)
    (case a26 => k_is)
    (case l26 => k_is)
    (case c26 => k_is)
    (case k26 => k_is)
    (case a27 => k_is)
    (case l27 => k_is)
    (case c27 => k_is)
    (case k27 => k_is)
    (case a28 => k_is)
    (case l28 => k_is)
    (case c28 => k_is)
    (case k28 => k_is)
    (case a29 => k_is)
    (case l29 => k_is)
    (case c29 => k_is)
    (case k29 => k_is)
    (case a30 => k_is)
    (case l30 => k_is)
    (case c30 => k_is)
    (case k30 => k_is)
    (case a31 => k_is)
    (case l31 => k_is)
    (case c31 => k_is)
    (case k31 => k_is)
    (case a32 => k_is)
    (case l32 => k_is)
    (case c32 => k_is)
    (case k32 => k_is)
    (case a33 => k_is)
    (case l33 => k_is)
    (case c33 => k_is)
    (case k33 => k_is)
    (case a34 => k_is)
    (case l34 => k_is)
    (case c34 => k_is)
    (case k34 => k_is)
    (case a35 => k_is)
    (case l35 => k_is)
    (case c35 => k_is)
    (case k35 => k_is)
    (case a36 => k_is)
    (case l36 => k_is)
    (case c36 => k_is)
    (case k36 => k_is)
    (case a37 => k_is)
    (case l37 => k_is)
    (case c37 => k_is)
    (case k37 => k_is)
    (case a38 => k_is)
    (case l38 => k_is)
    (case c38 => k_is)
    (case k38 => k_is)
    (case a39 => k_is)
    (case l39 => k_is)
    (case c39 => k_is)
    (case k39 => k_is)
    (case a40 => k_is)
    (case l40 => k_is)
    (case c40 => k_is)
    (case k40 => k_is)
    (case a41 => k_is)
    (case l41 => k_is)
    (case c41 => k_is)
    (case k41 => k_is)
    (case a42 => k_is)
    (case l42 => k_is)
    (case c42 => k_is)
    (case k42 => k_is)
    (case a43 => k_is)
    (case l43 => k_is)
    (case c43 => k_is)
    (case k43 => k_is)
    (case z1 => k_is)
    (case z2 => k_is)
    (case z3 => k_is)
    (case z4 => k_is)
    (case z5 => k_is)
    (case z6 => k_is)
    (case z7 => k_is)
    (case z8 => k_is)
    (case z9 => k_is)
    (case z10 => k_is)
    (case z11 => k_is)
    (case z12 => k_is)
    (case z13 => k_is)
    (case z14 => k_is)
    (case z15 => k_is)
    (case n1 => k_is)
    (case n2 => k_is)
    (case n3 => k_is)
    (case n4 => k_is)
    (case n5 => k_is)
    (case y_TreeError => k_is)
    (case y_NoThing => k_is)
    (case y_NoFit => k_is)
    (case y_NoTree => k_is)
    (case y_NoCosts => k_is)
    (case y_NoMatching => k_is)
    (case y_TooMany => k_is)
    (case y_Weighing => k_is)
    (case o1_TreeError => k_is)
    (case o2_TreeError => k_is)
    (case o1_NoThing => k_is)
    (case o2_NoThing => k_is)
    (case o1_NoFit => k_is)
    (case o2_NoFit => k_is)
    (case o1_NoTree => k_is)
    (case o2_NoTree => k_is)
    (case o1_NoCosts => k_is)
    (case o2_NoCosts => k_is)
    (case o1_NoMatching => k_is)
    (case o2_NoMatching => k_is)
    (case o1_TooMany => k_is)
    (case o2_TooMany => k_is)
    (case o1_Weighing => k_is)
    (case o2_Weighing => k_is)
    (case hnG => k_is)
    (case htG => k_is)
    (case w_NoTreeg => k_is)
    (case w_NoTreek => k_is)
    (case w_NoTrees => k_is)
    (case w_NoTreed => k_is)
    (case w_NoTreea => k_is)
    (case w_NoTreem => k_is)
    (case w_NoTreev => k_is)
    (case w_NoTree_TreeError => first | k_is | rfl)
    (case w_NoTree_NoThing => first | k_is | rfl)
    (case w_NoTree_NoFit => first | k_is | rfl)
    (case w_NoTree_NoTree => first | k_is | rfl)
    (case w_NoTree_NoCosts => first | k_is | rfl)
    (case w_NoTree_NoMatching => first | k_is | rfl)
    (case w_NoTree_TooMany => first | k_is | rfl)
    (case w_NoTree_Weighing => first | k_is | rfl)
    (case x1_NoTree => k_exc)
    (case x2_NoTree => k_is)
    (case w_NoCostsg => k_is)
    (case w_NoCostsk => k_is)
    (case w_NoCostss => k_is)
    (case w_NoCostsd => k_is)
    (case w_NoCostsa => k_is)
    (case w_NoCostsm => k_is)
    (case w_NoCostsv => k_is)
    (case w_NoCosts_TreeError => first | k_is | rfl)
    (case w_NoCosts_NoThing => first | k_is | rfl)
    (case w_NoCosts_NoFit => first | k_is | rfl)
    (case w_NoCosts_NoTree => first | k_is | rfl)
    (case w_NoCosts_NoCosts => first | k_is | rfl)
    (case w_NoCosts_NoMatching => first | k_is | rfl)
    (case w_NoCosts_TooMany => first | k_is | rfl)
    (case w_NoCosts_Weighing => first | k_is | rfl)
    (case xl1_NoCosts => k_is)
    (case xl2_NoCosts => first | rfl | decide | k_is)
    (case xl3_NoCosts => k_is)
    (case xl4_NoCosts => k_is)
    (case xl5_NoCosts => k_is)
    (case xl6_NoCosts => k_is)
    (case xl7_NoCosts => k_is)
    (case lI_NoCosts => k_is)
    (case cI_NoCosts => k_is)
    (case kI_NoCosts => k_is)
    (case w_TooManyg => k_is)
    (case w_TooManyk => k_is)
    (case w_TooManys => k_is)
    (case w_TooManyd => k_is)
    (case w_TooManya => k_is)
    (case w_TooManym => k_is)
    (case w_TooManyv => k_is)
    (case w_TooMany_TreeError => first | k_is | rfl)
    (case w_TooMany_NoThing => first | k_is | rfl)
    (case w_TooMany_NoFit => first | k_is | rfl)
    (case w_TooMany_NoTree => first | k_is | rfl)
    (case w_TooMany_NoCosts => first | k_is | rfl)
    (case w_TooMany_NoMatching => first | k_is | rfl)
    (case w_TooMany_TooMany => first | k_is | rfl)
    (case w_TooMany_Weighing => first | k_is | rfl)
    (case xl1_TooMany => k_is)
    (case xl2_TooMany => first | rfl | decide | k_is)
    (case xl3_TooMany => k_is)
    (case xl4_TooMany => k_is)
    (case xl5_TooMany => k_is)
    (case xl6_TooMany => k_is)
    (case xl7_TooMany => k_is)
    (case lI_TooMany => k_is)
    (case cI_TooMany => k_is)
    (case kI_TooMany => k_is)
    (case w_NoMatchingg => k_is)
    (case w_NoMatchingk => k_is)
    (case w_NoMatchings => k_is)
    (case w_NoMatchingd => k_is)
    (case w_NoMatchinga => k_is)
    (case w_NoMatchingm => k_is)
    (case w_NoMatchingv => k_is)
    (case w_NoMatching_TreeError => first | k_is | rfl)
    (case w_NoMatching_NoThing => first | k_is | rfl)
    (case w_NoMatching_NoFit => first | k_is | rfl)
    (case w_NoMatching_NoTree => first | k_is | rfl)
    (case w_NoMatching_NoCosts => first | k_is | rfl)
    (case w_NoMatching_NoMatching => first | k_is | rfl)
    (case w_NoMatching_TooMany => first | k_is | rfl)
    (case w_NoMatching_Weighing => first | k_is | rfl)
    (case xl1_NoMatching => k_is)
    (case xl2_NoMatching => first | rfl | decide | k_is)
    (case xl3_NoMatching => k_is)
    (case xl4_NoMatching => k_is)
    (case xl5_NoMatching => k_is)
    (case xl6_NoMatching => k_is)
    (case xl7_NoMatching => k_is)
    (case lI_NoMatching => k_is)
    (case cI_NoMatching => k_is)
    (case kI_NoMatching => k_is)
    (case g1_Weighing => k_is)
    (case g2_Weighing => k_is)
    (case g3_Weighing => k_is)
    (case g4_Weighing => k_is)
    (case g5_Weighing => k_is)
    (case g6_Weighing => k_is)
    (case na_Weighing_one => k_is)
    (case na_Weighing_other => k_is)
    (case na_Weighing_costs => k_is)
    (case q1_Weighing_below_tops => k_is)
    (case q2_Weighing_below_tops => k_is)
    (case q3_Weighing_below_tops => k_is)
    (case q4_Weighing_below_tops => k_is)
    (case q5_Weighing_below_tops => k_is)
    (case q1_Weighing_naming => k_is)
    (case q2_Weighing_naming => k_is)
    (case q3_Weighing_naming => k_is)
    (case q4_Weighing_naming => k_is)
    (case q5_Weighing_naming => k_is)
    (case q1_Weighing_init => k_is)
    (case q2_Weighing_init => k_is)
    (case q3_Weighing_init => k_is)
    (case q4_Weighing_init => k_is)
    (case q5_Weighing_init => k_is)
