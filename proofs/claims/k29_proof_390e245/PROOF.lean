import PyProof.Rows.All
import Wide.All
import OpenK.AllK
import Wide.FinOn
import HandS.ForMost
import HandS.IsInst
import HandS.TupAny
import HandS.TupMul
import HandS.Style
import HandS.Flow
import HandS.Walk
import KE.GoesMore
import HandS.FStrTup
import HandS.ExcValue
import HandS.ExcIs
import HandS.ExcField
import KE.KExcIs
import HandS.ExcInit
import HandS.WordsExc
import HandS.SortKw
import KE.DataMinMax
import KE.KeyNested
import KE.KDictKeyed
import HandS.Dict
import HandS.Lambda
import HandS.Zip
import HandS.RevTup
import HandS.More
import HandS.TryOnly
import HandS.IterVal
import PyProof.NeKinds
import HandS.Conv
import HandS.Deep
import PyProof.SliceSyntax
import KE.SortData
import KE.SortKeyHeap
import HandS.TupLe
import HandS.WordsDict
import HandS.SuiteRaise
import HandS.RaiseFrom
import HandS.ExcInitHot
import HandS.SetFor
import HandS.List
import PyProof.EqKinds
import PyProof.FactsAll.dict
import HandS.EndTab
import PySem.Challenge.RW_treelore_k29_orders_told
section
open PySem PySem.W PyProof.Rows
set_option Elab.async false
set_option maxRecDepth 100000 in
set_option maxHeartbeats 0 in
open_top tl_head for PySem.Challenge.rw_treelore_k29_orders_told
end
set_option Elab.async false
set_option linter.all false
set_option maxRecDepth 100000
set_option maxHeartbeats 4000000
/-! Data in the heap, by value: what stays when the heap grows, what isinstance and len answer of it. -/
namespace Tl
open PySem L2
theorem same_new {H : Hp} {p : Addr} {o : HO} (h : H p = none) : Same H (upd H p o) := fun b u q => by
  rw [upd_ne (ne_of_none q h)]
  exact q
/-- what F does not know may change -/
theorem same_mut {F H : Hp} {p : Addr} {o : HO} (e : Same F H) (h : F p = none) : Same F (upd H p o) := fun b u q => by
  rw [upd_ne (ne_of_none q h)]
  exact e b u q
theorem same_rd {H H' : Hp} {a : Addr} {u : HO} (e : Same H H') (h : Rd H a u) : Rd H' a u := by
  rcases h with h | ⟨o, h⟩
  · exact .inl (e a _ h)
  · exact .inr ⟨o, e a _ h⟩
theorem same_t {K : PySem.W.Frag} {H H' : Hp} {a : Addr} {xs : List V} (e : Same H H') (h : SqT K H a xs) : SqT K H' a xs := by
  rcases h with h | h
  · exact .inl (same_rd e h)
  · exact .inr h
theorem same_l {K : PySem.W.Frag} {H H' : Hp} {a : Addr} {xs : List V} (e : Same H H') (h : SqL K H a xs) : SqL K H' a xs := by
  rcases h with h | h
  · exact .inl (same_rd e h)
  · exact .inr h
mutual
theorem dp_mono {K : PySem.W.Frag} {H H' : Hp} (e : Same H H') : ∀ (d : PyData) (v : V), Dp K H v d → Dp K H' v d
  | .none, _, h => by cases h; exact .non
  | .bool b, _, h => by cases h; exact .bl b
  | .int i, _, h => by cases h; exact .int i
  | .str x, _, h => by cases h; exact .str x
  | .list ds, _, h => by
    cases h with
    | lst hs ha => exact .lst (same_l e hs) (dpAll_mono e ds _ ha)
  | .tuple ds, _, h => by
    cases h with
    | tup hs ha => exact .tup (same_t e hs) (dpAll_mono e ds _ ha)
  | .dict _, _, h => by cases h
theorem dpAll_mono {K : PySem.W.Frag} {H H' : Hp} (e : Same H H') : ∀ (ds : List PyData) (vs : List V), DpAll K H vs ds → DpAll K H' vs ds
  | [], _, h => by cases h; exact .nil
  | d :: ds, _, h => by
    cases h with
    | cons h1 h2 => exact .cons (dp_mono e d _ h1) (dpAll_mono e ds _ h2)
end
/-- a thing of the law: data, or the empty dict -/
inductive Dt (K : PySem.W.Frag) (H : Hp) : V → PyData → Prop
  | d {v : V} {d : PyData} : Dp K H v d → Dt K H v d
  | e {a : Addr} : H a = some (.dK []) → Dt K H (.ref a) (.dict [])
theorem Dt.mono {K : PySem.W.Frag} {H H' : Hp} {v : V} {d : PyData} (e : Same H H') (h : Dt K H v d) : Dt K H' v d := by
  cases h with
  | d h => exact .d (dp_mono e _ _ h)
  | e h => exact .e (e _ _ h)
theorem DpAll.len {K : PySem.W.Frag} {H : Hp} : ∀ {vs : List V} {ds : List PyData}, DpAll K H vs ds → vs.length = ds.length
  | _, _, .nil => rfl
  | _, _, .cons _ h => by rw [List.length_cons, List.length_cons, DpAll.len h]
theorem DpAll.get {K : PySem.W.Frag} {H : Hp} : ∀ {vs : List V} {ds : List PyData} {i : Nat} {v : V}, DpAll K H vs ds → vs[i]? = some v → ∃ d, ds[i]? = some d ∧ Dp K H v d
  | _, _, _, _, .nil, e => by simp at e
  | _, _, 0, _, .cons h _, e => by simp at e; subst e; exact ⟨_, rfl, h⟩
  | _, _, i + 1, v, .cons _ h, e => by
    obtain ⟨d, h1, h2⟩ := DpAll.get (i := i) (v := v) h (by simpa using e)
    exact ⟨d, by simpa using h1, h2⟩
theorem DpAll.got {K : PySem.W.Frag} {H : Hp} : ∀ {vs : List V} {ds : List PyData} {i : Nat} {d : PyData}, DpAll K H vs ds → ds[i]? = some d → ∃ v, vs[i]? = some v ∧ Dp K H v d
  | _, _, _, _, .nil, e => by simp at e
  | _, _, 0, _, .cons h _, e => by simp at e; subst e; exact ⟨_, rfl, h⟩
  | _, _, i + 1, d, .cons _ h, e => by
    obtain ⟨v, h1, h2⟩ := DpAll.got (i := i) (d := d) h (by simpa using e)
    exact ⟨v, by simpa using h1, h2⟩
theorem DpAll.app {K : PySem.W.Frag} {H : Hp} : ∀ {vs ws : List V} {ds es : List PyData}, DpAll K H vs ds → DpAll K H ws es → DpAll K H (vs ++ ws) (ds ++ es)
  | _, _, _, _, .nil, h => h
  | _, _, _, _, .cons a b, h => .cons a (DpAll.app b h)
theorem DpAll.take {K : PySem.W.Frag} {H : Hp} : ∀ {vs : List V} {ds : List PyData} (n : Nat), DpAll K H vs ds → DpAll K H (vs.take n) (ds.take n)
  | _, _, 0, _ => .nil
  | _, _, _ + 1, .nil => .nil
  | _, _, n + 1, .cons a b => .cons a (DpAll.take n b)
theorem DpAll.drop {K : PySem.W.Frag} {H : Hp} : ∀ {vs : List V} {ds : List PyData} (n : Nat), DpAll K H vs ds → DpAll K H (vs.drop n) (ds.drop n)
  | _, _, 0, h => h
  | _, _, _ + 1, .nil => .nil
  | _, _, n + 1, .cons a b => DpAll.drop n b
theorem DpAll.rev {K : PySem.W.Frag} {H : Hp} : ∀ {vs : List V} {ds : List PyData}, DpAll K H vs ds → DpAll K H vs.reverse ds.reverse
  | _, _, .nil => .nil
  | _, _, .cons a b => by rw [List.reverse_cons, List.reverse_cons]; exact DpAll.app (DpAll.rev b) (.cons a .nil)
theorem DpAll.two {K : PySem.W.Frag} {H : Hp} : ∀ {vs : List V} {ds : List PyData}, DpAll K H vs ds → vs.length = 2 → ∃ x y a b, vs = [x, y] ∧ ds = [a, b] ∧ Dp K H x a ∧ Dp K H y b
  | _, _, .nil, e => by simp at e
  | _, _, .cons _ .nil, e => by simp at e
  | _, _, .cons h1 (.cons h2 .nil), _ => ⟨_, _, _, _, rfl, rfl, h1, h2⟩
  | _, _, .cons _ (.cons _ (.cons _ _)), e => by simp at e
/-! ### what isinstance answers -/
def tyName : PyData → String
  | .none => "NoneType"
  | .bool _ => "bool"
  | .int _ => "int"
  | .str _ => "str"
  | .list _ => "list"
  | .tuple _ => "tuple"
  | .dict _ => "dict"
@[reducible] def isStr : PyData → Bool
  | .str _ => true
  | _ => false
@[reducible] def isTup : PyData → Bool
  | .tuple _ => true
  | _ => false
@[reducible] def isInt : PyData → Bool
  | .int _ => true
  | .bool _ => true
  | _ => false
@[reducible] def isBl : PyData → Bool
  | .bool _ => true
  | _ => false
theorem kit_str (d : PyData) : kitB (tyName d) "str" = some (isStr d) := by cases d <;> (simp only [tyName, isStr]; decide +kernel)
theorem kit_tup (d : PyData) : kitB (tyName d) "tuple" = some (isTup d) := by cases d <;> (simp only [tyName, isTup]; decide +kernel)
theorem kit_int (d : PyData) : kitB (tyName d) "int" = some (isInt d) := by cases d <;> (simp only [tyName, isInt]; decide +kernel)
theorem kit_bl (d : PyData) : kitB (tyName d) "bool" = some (isBl d) := by cases d <;> (simp only [tyName, isBl]; decide +kernel)
/-! ### texts within are short -/
mutual
def txt : PyData → Bool
  | .str s => decide (s.length ≤ 1000) && PyData.strOk s
  | .list ds => txtAll ds
  | .tuple ds => txtAll ds
  | _ => true
def txtAll : List PyData → Bool
  | [] => true
  | d :: ds => txt d && txtAll ds
end
theorem txtAll_get : ∀ {ds : List PyData} {i : Nat} {d : PyData}, txtAll ds = true → ds[i]? = some d → txt d = true
  | [], _, _, _, e => by simp at e
  | a :: r, 0, d, h, e => by
    rw [txtAll, Bool.and_eq_true] at h
    simp at e
    subst e
    exact h.1
  | a :: r, i + 1, d, h, e => by
    rw [txtAll, Bool.and_eq_true] at h
    exact txtAll_get h.2 (by simpa using e)
theorem txt_str {s : Str} (h : txt (.str s) = true) : s.length ≤ 1000 ∧ PyData.strOk s = true := by
  rw [txt, Bool.and_eq_true] at h
  exact ⟨of_decide_eq_true h.1, h.2⟩
theorem sz1000 {n : Nat} (h : n ≤ 1000) : n ≤ sizeLine := Nat.le_of_lt (small1000 h)
/-- the built-in names that are still the built-in's -/
structure Bl (mg : Str → Option Value) : Prop where
  isi : mg "isinstance" = none
  int : mg "int" = none
  bool : mg "bool" = none
  str : mg "str" = none
  tuple : mg "tuple" = none
  list : mg "list" = none
  len : mg "len" = none
  all : mg "all" = none
  repr : mg "repr" = none
  max : mg "max" = none
  range : mg "range" = none
  enum : mg "enumerate" = none
section
variable {X : Cx}
theorem b_int (T : Bl X.mg) {p : Pos} (hg : Gl X "int" := by rfl) : PE X (.Name "int" p) (tC (.ty "int")) := pe_bltn hg T.int PyProof.Rows.boot_int rfl
theorem b_bool (T : Bl X.mg) {p : Pos} (hg : Gl X "bool" := by rfl) : PE X (.Name "bool" p) (tC (.ty "bool")) := pe_bltn hg T.bool PyProof.Rows.boot_bool rfl
theorem b_str (T : Bl X.mg) {p : Pos} (hg : Gl X "str" := by rfl) : PE X (.Name "str" p) (tC (.ty "str")) := pe_bltn hg T.str PyProof.Rows.boot_str rfl
theorem b_tuple (T : Bl X.mg) {p : Pos} (hg : Gl X "tuple" := by rfl) : PE X (.Name "tuple" p) (tC (.ty "tuple")) := pe_bltn hg T.tuple PyProof.Rows.boot_tuple rfl
end
theorem iteD {p A B : Prop} [Decidable p] (h1 : p → A) (h2 : ¬ p → B) : if decide p = true then A else B := by
  by_cases h : p
  · rw [if_pos (decide_eq_true h)]
    exact h1 h
  · rw [if_neg (by rw [decide_eq_false h]; exact Bool.false_ne_true)]
    exact h2 h
/-! ### comprehensions whose parts leave all as it was -/
/-- a def of the program that is called: where it stands, and what it promises -/
structure Use (P : Program) (w : World) (K : PySem.W.Frag) (mg : Str → Option Value) (base : Heap) (x : Str) (ps : List Str) (k : Nat) (sp : Sp) where
  f : Addr
  fd : FuncData
  ok : FnOk P w K mg base CX0 k f fd ps sp
  m : mg x = some (.ref f)
  kp : PySem.W.keepIn K (.ref f) = true
  b : Binds K fd ps []
end Tl
set_option Elab.async false
set_option linter.all false
set_option maxRecDepth 100000
set_option maxHeartbeats 4000000
/-! Rules of our own: tuple * int of any small count, text * int, enumerate of a tuple, repr of data. -/
namespace Tl
open PySem PySem.Spec PyProof.Rows L2
open AutoSeq1 (wpAny_loadPart')
/-! ### enumerate(t), t a tuple -/
set_option maxHeartbeats 4000000 in
theorem enumNew {v : Value} {o : Obj} {Hh : Heap → Prop} (B : Begins v o Hh) :
    Meets (Builtin.«enumerate.__new__» ⟨[.type "enumerate", v], []⟩) (fun _ R s => Hh s.heap ∧
      R (.ok (.ret (.ref (s.heap.push o).objs.size)))
        { s with heap := (s.heap.push o).push { cls := .type "enumerate", data := .fields #[.none, .bool false, .ref s.heap.objs.size, rawInt 0, .none, .none] } }) :=
  .of_wp fun prog w A R s h => by
    obtain ⟨hp, g, d, tk, os⟩ := s
    obtain ⟨h1, h⟩ := h
    have hsub := sub_enumerate
    have it : ∀ {A' : Around} {E : Value → Shared → Prop} {Q : Value → Shared → Prop}, Q (.ref hp.objs.size) ⟨hp.push o, g, d, tk, os⟩ →
        wpAny (model prog w) A' (pyIter v) Q E ⟨hp, g, d, tk, os⟩ := fun q => B.iter prog w _ _ ⟨hp, g, d, tk, os⟩ _ h1 q
    wp_walk using it
    refine wpAny_stack_any fun st => wpAny_pure ?_
    split
    · rename_i c _ _ _ _ _
      cases (c == Value.type "enumerate")
      · wp_walk using it
        exact ⟨_, rfl, h⟩
      · wp_walk using it
        exact ⟨_, rfl, h⟩
    · wp_walk using it
      exact ⟨_, rfl, h⟩
theorem enumTup {prog : Program} {w : World} {A : Around} {E : Value → Shared → Prop} {s : Shared} {l : Addr} {items : Array Value} {Q : Value → Shared → Prop} (hL : s.heap.IsTuple l items)
    (h : ∀ h', IsEnum h' (s.heap.objs.size + 1) s.heap.objs.size 0 .none → h'.IsTupleIter s.heap.objs.size l 0 →
      (∀ b o, s.heap.get? b = some o → h'.get? b = some o) → Q (.ref (s.heap.objs.size + 1)) { s with heap := h' }) :
    wpAny (model prog w) A (call (.type "enumerate") [.ref l]) Q E s := by
  refine callType_new F.called_enumerate (by decide) (F.typeCall_enumerate_1 _) (F.newCall_enumerate_1 _)
    (fun obj => F.args_object_init_2 obj _) F.entry_enumerate_new (enumNew (begins_tuple l items)) ⟨hL, ?_⟩
  have hz : (s.heap.push { cls := .type "tuple_iterator", data := .fields #[.ref l, .int 0 0] }).objs.size = s.heap.objs.size + 1 := Heap.size_push ..
  show _ ∧ _
  rw [hz]
  generalize hk : (s.heap.push { cls := .type "tuple_iterator", data := .fields #[.ref l, .int 0 0] }) = h1 at hz ⊢
  have g0 : h1.get? s.heap.objs.size = some { cls := .type "tuple_iterator", data := .fields #[.ref l, .int 0 0] } := by rw [← hk]; exact Heap.get?_push_size _ rfl
  have g1 := Heap.get?_push_size h1 (o := { cls := .type "enumerate", data := .fields #[.none, .bool false, .ref s.heap.objs.size, rawInt 0, .none, .none] }) rfl
  rw [hz] at g1
  refine ⟨⟨_, g1, rfl⟩, h _ g1 ⟨_, Heap.get?_push_of_some _ g0, rfl, rfl⟩ fun b o x => Heap.get?_push_of_some _ ?_⟩
  rw [← hk]
  exact Heap.get?_push_of_some _ x
def Iet (K : PySem.W.Frag) (a : Addr) : It where
  go := fun i H => ∃ (xs : List V) (x : V), SqT K H a xs ∧ xs[i]? = some x
  yld := fun i H v H' => ∃ T x, v = .ref T ∧ H T = none ∧ H' = upd H T (.tup [.int (i : Nat), x]) ∧ ∀ xs, SqT K H a xs → xs[i]? = some x
  stop := fun i H => ∃ xs : List V, SqT K H a xs ∧ xs.length = i
theorem turnET {P : Program} {w : World} {K : PySem.W.Frag} {elts : List Expr} {kk : Nat} {tpos : Pos} (a e it : Addr) :
    Turn P w K (.Tuple elts kk tpos) (Iet K a) [e, it] e
      (fun i h => (∃ old, IsEnum h e it ((i : Nat) : Int) old) ∧ h.IsTupleIter it a i ∧ e ≠ it) where
  mem := by simp
  obj := fun i h st b hb => by
    obtain ⟨⟨old, he⟩, ⟨o, ho, hc, hd⟩, _⟩ := st
    have hb2 : b = e ∨ b = it := by simpa using hb
    rcases hb2 with rfl | rfl
    · exact ⟨_, he, fun v q => nomatch q⟩
    · exact ⟨o, ho, fun v q => by rw [hd] at q; cases q⟩
  keep := fun i h h' st k => by
    obtain ⟨⟨old, he⟩, hi, hne⟩ := st
    exact ⟨⟨old, k e (by simp) _ he⟩, hi.at fun o q => k it (by simp) o q, hne⟩
  item := by
    intro X hP hw hK hc i pins s σ H E I hf st hg
    subst hP hw hK
    obtain ⟨⟨old, he⟩, hit, hne⟩ := st
    obtain ⟨xs, x, hq, hx⟩ := hg
    obtain ⟨its, rv, p, hz⟩ := I.tuple hq
    obtain ⟨u, hu, ru⟩ := rv.get hx
    have hel : e < s.heap.objs.size := Heap.lt_size he
    have hil : it < s.heap.objs.size := by
      obtain ⟨_, q, _⟩ := hit
      exact Heap.lt_size q
    have hae : a ≠ e := fun z => by
      obtain ⟨o, ho, hcl, _⟩ := p
      rw [z, he] at ho
      cases ho
      have h9 : Value.type "enumerate" = Value.type "tuple" := hcl
      exact absurd h9 (by decide)
    have hai : a ≠ it := fun z => by
      obtain ⟨o, ho, hcl, _⟩ := p
      obtain ⟨o', ho', hcl', _⟩ := hit
      rw [z, ho'] at ho
      cases ho
      rw [hcl'] at hcl
      exact absurd hcl (by decide)
    have hlt : i < its.toArray.size := by
      rw [List.size_toArray]
      exact (List.getElem?_eq_some_iff.mp hu).1
    refine wpAny_pyNext_enum_itemD (Draws.tuple (prog := X.prog) (w := X.w) (A := X.A.in1) (I.ok.hd hc) it a hai its.toArray) he ⟨hit, p⟩ hlt hne (by simp [hne, Ne.symm hae]) fun y h' tk hy ho hst hT hsz hk => ?_
    have ey : y = u := by
      have hu' : its.toArray[i]? = some u := by simpa using hu
      rw [hu'] at hy
      exact (Option.some.inj hy).symm
    subst ey
    refine ⟨_, rfl, wpAny_letOwnedTupleGo_enum (s := { s with heap := h', toks := tk + 1 }) ho fun h'' he' sb => ?_⟩
    have hT2 := (sb.2 _ (Nat.ne_of_gt hel)).trans hT
    have new : ObjOk X.prog X.w (upd H s.heap.objs.size (.tup [.int (i : Nat), x])) h'' s.heap.objs.size (.tup [.int (i : Nat), x]) :=
      ⟨by show 2 ≤ sizeLine; decide, [.int i tk, y], .cons ⟨_, rfl⟩ (.cons ru .nil), ⟨_, hT2, rfl, _, rfl⟩⟩
    have I1 : Inv X pins σ (upd H s.heap.objs.size (.tup [.int (i : Nat), x])) { s with heap := h'', toks := tk + 1 } :=
      I.turnedNew (ch := [e, it]) (fun b ob hb q => (sb.2 b fun z => hb (by simp [z])).trans
        (hk b ob (fun z => hb (by simp [z])) (fun z => hb (by simp [z])) q)) hf (Nat.le_refl _) new
    refine ⟨.ref s.heap.objs.size, _, I1, rfl, ⟨_, x, rfl, I.hok.fresh (Nat.le_refl _), rfl, fun ys hy => by rw [I.tuple_inj hy hq]; exact hx⟩, ⟨⟨y, ?_⟩, hst.1.at fun o q => (sb.2 it (Ne.symm hne)).trans q, hne⟩, fun b hb => ?_⟩
    · rw [show ((i + 1 : Nat) : Int) = (i : Int) + 1 by omega]
      exact he'
    · have hb2 : b = e ∨ b = it := by simpa using hb
      have hb3 : b < s.heap.objs.size := by
        rcases hb2 with rfl | rfl
        · exact hel
        · exact hil
      rw [upd_ne (Nat.ne_of_lt hb3)]
      exact (hf b hb).1
  done := by
    intro X hP hw hK hc i pins s σ H E I hf st hg
    subst hP hw hK
    obtain ⟨⟨old, he⟩, hit, hne⟩ := st
    obtain ⟨xs, hq, hx⟩ := hg
    obtain ⟨its, rv, p, hz⟩ := I.tuple hq
    obtain ⟨f0, f1, f2, f3, f4, f5⟩ := hf it (by simp)
    have hai : a ≠ it := fun z => by
      obtain ⟨o, ho, hcl, _⟩ := p
      obtain ⟨o', ho', hcl', _⟩ := hit
      rw [z, ho'] at ho
      cases ho
      rw [hcl'] at hcl
      exact absurd hcl (by decide)
    have hn : its.toArray.size = i := by rw [List.size_toArray, ← rv.length, hx]
    have hst : s.heap.IsTupleIter it a its.toArray.size ∧ s.heap.IsTuple a its.toArray := ⟨by rw [hn]; exact hit, p⟩
    exact wpAny_pyNext_enum_endD (Draws.tuple (prog := X.prog) (w := X.w) (A := X.A.in1) (I.ok.hd hc) it a hai its.toArray) he hst fun h' eb => ⟨rfl, I.turned (t' := s.toks) (fun b o hb q => eb b o hb q) f0 f1 f3 f4 f5⟩
  self := fun A i s Q E st h => by
    obtain ⟨⟨_, he⟩, _⟩ := st
    exact wpAny_pyIter_enum he h
def iEnumT (K : PySem.W.Frag) (ta : TA) : TI := fun σ H R => ta σ H fun vs H1 => ∃ a xs, vs = [.ref a] ∧ SqT K H1 a xs ∧ R (Iet K a) H1
theorem pi_enumT {X : Cx} {e : Expr} {ta : TA} {p pos tpos : Pos} {elts : List Expr} {kk : Nat} (hg : Gl X "enumerate") (hm : X.mg "enumerate" = none)
    (ha : PA X [e] ta) (hs : starEach [e] X.env = [(false, eval e X.env)] := by rfl) : PI X (.Tuple elts kk tpos) (.Call (.Name "enumerate" p) [e] [] pos) (iEnumT X.K ta) := by
  refine ⟨fun pins s σ H R I h => ?_⟩
  refine Call_ (ld_blt I hg hm boot_enumerate (callWith_type1
    (thn (ha.run pos pins s σ H _ I h) fun us s1 ⟨vs, H1, I1, r1, q1⟩ => ?_) hs rfl))
  obtain ⟨a, xs, ex, hq, q⟩ := q1
  subst ex
  cases r1 with
  | cons r rr =>
    cases rr
    cases r
    obtain ⟨its, rv, p', hz⟩ := I1.tuple hq
    refine enumTup p' fun h' he hit hk => wpAny_pyIter_enum he ?_
    have I2 : Inv X pins σ H1 { s1 with heap := h' } := I1.kept (t' := s1.toks) hk
    refine ⟨s1.heap.objs.size + 1, [s1.heap.objs.size + 1, s1.heap.objs.size], _, _, H1, rfl, I2,
      turnET a (s1.heap.objs.size + 1) s1.heap.objs.size, ⟨⟨.none, he⟩, hit, Nat.succ_ne_self _⟩, fun b hb => ?_, q⟩
    have hle : s1.heap.objs.size ≤ b := by
      have hb2 : b = s1.heap.objs.size + 1 ∨ b = s1.heap.objs.size := by simpa using hb
      rcases hb2 with z | z
      · rw [z]
        exact Nat.le_add_right _ _
      · rw [z]
        exact Nat.le_refl _
    exact I1.fpOk hle (I1.hok.fresh hle)
theorem walk_enumT {K : PySem.W.Frag} {a : Addr} {xs : List V} : Walk (Iet K a) xs.length (fun H => SqT K H a xs)
    (fun i H v H' => ∃ T x, v = .ref T ∧ H T = none ∧ H' = upd H T (.tup [.int (i : Nat), x]) ∧ xs[i]? = some x) := by
  refine ⟨fun i _ hi q => ⟨xs, xs[i], q, by simp [hi]⟩, fun _ q => ⟨xs, q, rfl⟩, fun i H v H' _ q y => ?_⟩
  obtain ⟨T, x, h1, h2, h3, h4⟩ := y
  exact ⟨T, x, h1, h2, h3, h4 xs q⟩
/-! ### repr of data -/
def rReprD (K : PySem.W.Frag) : List V → Hp → VK → Prop := fun vs H Q => ∃ (v : V) (d : PyData), vs = [v] ∧ Dt K H v d ∧ d.showable = true ∧ d.depth ≤ 100 ∧ d.shown.length ≤ sizeLine ∧ Q (.str d.shown) H
mutual
theorem noD {K : PySem.W.Frag} {H : Hp} : ∀ (d : PyData) {v : V}, Dp K H v d → d.hasDict = false
  | .none, _, _ => rfl
  | .bool _, _, _ => rfl
  | .int _, _, _ => rfl
  | .str _, _, _ => rfl
  | .list ds, _, h => by
    cases h with
    | lst _ ha => rw [PyData.hasDict]; exact noDAll ds ha
  | .tuple ds, _, h => by
    cases h with
    | tup _ ha => rw [PyData.hasDict]; exact noDAll ds ha
  | .dict _, _, h => by cases h
theorem noDAll {K : PySem.W.Frag} {H : Hp} : ∀ (ds : List PyData) {vs : List V}, DpAll K H vs ds → PyData.hasDictAll ds = false
  | [], _, _ => rfl
  | d :: ds, _, h => by
    cases h with
    | cons h1 h2 => rw [PyData.hasDictAll, noD d h1, noDAll ds h2]; rfl
end
theorem call_reprD {X : Cx} (hg : X.A.guards = some []) (hu : X.A.units + 200 < cLine) : CallR X (.builtin "repr") (rReprD X.K) := by
  intro pins s σ H vs us Q I r h
  obtain ⟨v, d, rfl, hd, hs, hdp, hz, q⟩ := h
  cases r with
  | cons r1 rr =>
    cases rr
    rename_i u
    cases hd with
    | d hd =>
      obtain ⟨as, hR⟩ := Dp.reads I d v u hd r1
      have fin : ∀ (t' : Tok) (k : Nat), EP X pins σ Q (.str d.shown t') { s with toks := k } := fun t' k => ⟨.str _, H, I.tok k, ⟨t', rfl⟩, q⟩
      cases hd with
      | non =>
        cases (show u = Value.none from r1)
        exact PySem.P.repr_of_none (fin _ _)
      | bl b =>
        cases (show u = Value.bool b from r1)
        refine PySem.P.repr_of_bool ?_
        have := fin s.toks (s.toks + 1)
        cases b <;> exact this
      | int i =>
        obtain ⟨t', rfl⟩ := r1
        exact PySem.P.repr_of_int (of_decide_eq_true hs) (fin _ _)
      | str x =>
        obtain ⟨t', rfl⟩ := r1
        exact PySem.P.repr_of_str (fin _ _) hz
      | @lst a xs ds hs2 ha =>
        cases (show u = Value.ref a from r1)
        have hnd : (PyData.list ds).hasDict = true → sysModules ∉ as := PyData.noDict_hsm (noD _ (.lst hs2 ha))
        exact repr_of_reads' hR hs hnd hg (by omega) (fun b o e => e) (fun h' t' tk hk => ⟨.str _, H, I.kept (t' := tk) hk, ⟨t', rfl⟩, q⟩) hz
      | @tup a xs ds hs2 ha =>
        cases (show u = Value.ref a from r1)
        have hnd : (PyData.tuple ds).hasDict = true → sysModules ∉ as := PyData.noDict_hsm (noD _ (.tup hs2 ha))
        exact repr_of_reads' hR hs hnd hg (by omega) (fun b o e => e) (fun h' t' tk hk => ⟨.str _, H, I.kept (t' := tk) hk, ⟨t', rfl⟩, q⟩) hz
    | @e a hd =>
      cases (show u = Value.ref a from r1)
      obtain ⟨hz2, hsm, vs, hkv, o, es, ep, h1, h2, h3⟩ := (show ObjOk X.prog X.w H s.heap a (.dK []) from I.hok a _ hd)
      cases hkv
      have hes : es.toList = [] := by
        have hp := h3.2.2.1
        generalize es.toList = l at hp
        cases hp
        rfl
      have hR : Reads s.heap (.ref a) (.dict []) (a :: [] ++ []) := Reads.dict h1 h2.1 h3.1 (by rw [hes]; exact .nil) (by rw [hes]; exact .nil)
      have hne : ¬ a = sysModules := fun z => by rw [z] at hsm; simp at hsm
      exact repr_of_reads' hR hs (fun _ z => hne (by simpa using Eq.symm (by simpa using z))) hg (by omega) (fun b o e => e) (fun h' t' tk hk => ⟨.str _, H, I.kept (t' := tk) hk, ⟨t', rfl⟩, q⟩) hz
end Tl
set_option Elab.async false
set_option linter.all false
set_option maxRecDepth 100000
set_option maxHeartbeats 4000000
/-! Data that is good to be shown: short texts, small numbers; how long its text can be. -/
namespace Tl
open PySem L2
mutual
def wt : PyData → Nat
  | .none => 4
  | .bool _ => 5
  | .int _ => 1930
  | .str s => 10 * s.length + 4
  | .list ds => 3 + wtAll ds
  | .tuple ds => 3 + wtAll ds
  | .dict _ => 2
def wtAll : List PyData → Nat
  | [] => 0
  | d :: ds => wt d + 2 + wtAll ds
end
mutual
def gd : PyData → Bool
  | .none => true
  | .bool _ => true
  | .int i => decide (i.natAbs < 10 ^ 41)
  | .str s => decide (s.length ≤ 1000) && PyData.strOk s
  | .list ds => gdAll ds
  | .tuple ds => gdAll ds
  | .dict _ => false
def gdAll : List PyData → Bool
  | [] => true
  | d :: ds => gd d && gdAll ds
end
mutual
theorem gd_txt : ∀ d : PyData, gd d = true → txt d = true
  | .none, _ => rfl
  | .bool _, _ => rfl
  | .int _, _ => rfl
  | .str s, h => by rw [gd] at h; rw [txt]; exact h
  | .list ds, h => by rw [gd] at h; rw [txt]; exact gdAll_txt ds h
  | .tuple ds, h => by rw [gd] at h; rw [txt]; exact gdAll_txt ds h
  | .dict _, h => Bool.noConfusion h
theorem gdAll_txt : ∀ ds : List PyData, gdAll ds = true → txtAll ds = true
  | [], _ => rfl
  | d :: ds, h => by
    rw [gdAll, Bool.and_eq_true] at h
    rw [txtAll, gd_txt d h.1, gdAll_txt ds h.2]
    rfl
end
theorem big41 : (10 : Nat) ^ 41 ≤ 2 ^ 1920 := Nat.le_trans (show (10 : Nat) ^ 41 ≤ 2 ^ 200 by decide) (Nat.pow_le_pow_right (by decide) (by decide))
mutual
theorem gd_show : ∀ d : PyData, gd d = true → d.showable = true
  | .none, _ => rfl
  | .bool _, _ => rfl
  | .int i, h => by
    rw [gd] at h
    have h2 : i.natAbs < 10 ^ 41 := of_decide_eq_true h
    rw [PyData.showable]
    apply decide_eq_true
    by_cases h0 : i.natAbs = 0
    · rw [h0]; decide
    · exact (Nat.log2_lt h0).mpr (Nat.lt_of_lt_of_le h2 big41)
  | .str s, h => rfl
  | .list ds, h => by rw [gd] at h; rw [PyData.showable]; exact gdAll_show ds h
  | .tuple ds, h => by rw [gd] at h; rw [PyData.showable]; exact gdAll_show ds h
  | .dict _, h => Bool.noConfusion h
theorem gdAll_show : ∀ ds : List PyData, gdAll ds = true → PyData.showableAll ds = true
  | [], _ => rfl
  | d :: ds, h => by
    rw [gdAll, Bool.and_eq_true] at h
    rw [PyData.showableAll, gd_show d h.1, gdAll_show ds h.2]
    rfl
end
theorem textFrom_le : ∀ (ts : List Str) (k : Nat) (acc : Str), (textFrom k acc ts).length ≤ acc.length + piled ts
  | [], k, acc => by rw [piled_nil]; exact Nat.le_refl _
  | t :: r, k, acc => by
    have ih := textFrom_le r (k + 1) (acc ++ (if k > 0 then ", " else "" : String) ++ t)
    have e : (acc ++ (if k > 0 then ", " else "" : String) ++ t).length ≤ acc.length + 2 + t.length := by
      rw [strLen_append, strLen_append]
      have : ((if k > 0 then ", " else "" : String) : Str).length ≤ 2 := by split <;> decide +kernel
      omega
    show (textFrom (k + 1) _ r).length ≤ _
    rw [piled_cons]
    omega
theorem listText_le (ts : List Str) : (listText ts).length ≤ piled ts + 2 := by
  unfold listText
  rw [strLen_append]
  have h := textFrom_le ts 0 "["
  have e1 : ((("[" : String) : Str)).length = 1 := rfl
  have e2 : ((("]" : String) : Str)).length = 1 := rfl
  rw [e1] at h
  rw [e2]
  omega
mutual
theorem shown_le : ∀ d : PyData, gd d = true → d.shown.length ≤ wt d
  | .none, _ => by decide +kernel
  | .bool true, _ => by decide +kernel
  | .bool false, _ => by decide +kernel
  | .int i, h => by
    rw [gd] at h
    have h2 : i.natAbs < 10 ^ 41 := of_decide_eq_true h
    have h4 : i.natAbs.log2 < 1920 := by
      by_cases h0 : i.natAbs = 0
      · rw [h0]; decide
      · exact (Nat.log2_lt h0).mpr (Nat.lt_of_lt_of_le h2 big41)
    have h3 := PyProof.Rows.int_text_len_1921 h4
    show (Str.ofString (toString i)).length ≤ 1930
    omega
  | .str s, h => by
    rw [gd, Bool.and_eq_true] at h
    have h2 := h.2
    rw [PyData.strOk, ← Array.all_toList, List.all_eq_true] at h2
    have h3 := StrLaws.reprText_len s fun c hc => Nat.lt_of_lt_of_le (of_decide_eq_true (h2 c hc)) (by decide)
    show (reprText s).length ≤ 10 * s.length + 4
    omega
  | .list ds, h => by
    rw [gd] at h
    have h2 := shownAll_le ds h
    have h3 := listText_le (PyData.shownAll ds)
    show (listText (PyData.shownAll ds)).length ≤ 3 + wtAll ds
    omega
  | .tuple ds, h => by
    rw [gd] at h
    have h2 := shownAll_le ds h
    have h3 := fmt_text (PyData.shownAll ds)
    show (tupleText (PyData.shownAll ds)).length ≤ 3 + wtAll ds
    omega
  | .dict _, h => Bool.noConfusion h
theorem shownAll_le : ∀ ds : List PyData, gdAll ds = true → piled (PyData.shownAll ds) ≤ wtAll ds
  | [], _ => Nat.le_refl _
  | d :: ds, h => by
    rw [gdAll, Bool.and_eq_true] at h
    have h1 := shown_le d h.1
    have h2 := shownAll_le ds h.2
    rw [PyData.shownAll, piled_cons, wtAll]
    omega
end
theorem gdAll_get : ∀ {ds : List PyData} {i : Nat} {d : PyData}, gdAll ds = true → ds[i]? = some d → gd d = true ∧ wt d + 2 ≤ wtAll ds ∧ d.depth ≤ PyData.depthAll ds
  | [], _, _, _, e => by simp at e
  | a :: r, 0, d, h, e => by
    rw [gdAll, Bool.and_eq_true] at h
    simp at e
    subst e
    rw [wtAll, PyData.depthAll]
    exact ⟨h.1, by omega, Nat.le_max_left _ _⟩
  | a :: r, i + 1, d, h, e => by
    rw [gdAll, Bool.and_eq_true] at h
    obtain ⟨h1, h2, h3⟩ := gdAll_get (i := i) h.2 (by simpa using e)
    rw [wtAll, PyData.depthAll]
    exact ⟨h1, by omega, Nat.le_trans h3 (Nat.le_max_right _ _)⟩
theorem gdAll_app : ∀ {ds es : List PyData}, gdAll (ds ++ es) = (gdAll ds && gdAll es)
  | [], es => by rw [List.nil_append, gdAll, Bool.true_and]
  | a :: r, es => by rw [List.cons_append, gdAll, gdAll, gdAll_app, Bool.and_assoc]
theorem wtAll_app : ∀ {ds es : List PyData}, wtAll (ds ++ es) = wtAll ds + wtAll es
  | [], es => by rw [List.nil_append, wtAll, Nat.zero_add]
  | a :: r, es => by rw [List.cons_append, wtAll, wtAll, wtAll_app]; omega
theorem depthAll_app : ∀ {ds es : List PyData}, PyData.depthAll (ds ++ es) = max (PyData.depthAll ds) (PyData.depthAll es)
  | [], es => by rw [List.nil_append, PyData.depthAll]; omega
  | a :: r, es => by rw [List.cons_append, PyData.depthAll, PyData.depthAll, depthAll_app]; omega
theorem depthAll_le {ds : List PyData} {m : Nat} : (∀ d ∈ ds, d.depth ≤ m) → PyData.depthAll ds ≤ m := by
  induction ds with
  | nil => intro _; exact Nat.zero_le _
  | cons a r ih =>
    intro h
    rw [PyData.depthAll]
    have h1 := h a List.mem_cons_self
    have h2 := ih fun d hd => h d (List.mem_cons_of_mem _ hd)
    omega
theorem gdAll_of {ds : List PyData} : (∀ d ∈ ds, gd d = true) → gdAll ds = true := by
  induction ds with
  | nil => intro _; rfl
  | cons a r ih =>
    intro h
    rw [gdAll, h a List.mem_cons_self, ih fun d hd => h d (List.mem_cons_of_mem _ hd)]
    rfl
theorem len_wt : ∀ ds : List PyData, 2 * ds.length ≤ wtAll ds
  | [] => Nat.zero_le _
  | a :: r => by
    have := len_wt r
    rw [wtAll, List.length_cons]
    omega
/-! ### trees -/
def tags6 : List Str := ["a", "b", "ab", "zz", "abcdefgh", "z"]
def tagOk (s : Str) : Prop := 1 ≤ s.length ∧ s.length ≤ 8 ∧ (PyData.strOk s = true ∧ s ∈ tags6)
def TrD : Nat → PyData → Prop
  | 0, _ => False
  | h + 1, d => ∃ (s : Str) (ks : List PyData), d = .tuple [.str s, .tuple ks] ∧ tagOk s ∧ ∀ k ∈ ks, TrD h k
theorem TrD.mono : ∀ {h h' : Nat} {d : PyData}, h ≤ h' → TrD h d → TrD h' d
  | 0, _, _, _, t => t.elim
  | h + 1, 0, _, e, _ => by omega
  | h + 1, h' + 1, d, e, t => by
    obtain ⟨s, ks, rfl, a, b⟩ := t
    exact ⟨s, ks, rfl, a, fun k hk => TrD.mono (by omega) (b k hk)⟩
theorem gd_tag {s : Str} (h : tagOk s) : gd (.str s) = true := by
  rw [gd, h.2.2.1, decide_eq_true (by have := h.2.1; omega)]
  rfl
theorem TrD.gd : ∀ {h : Nat} {d : PyData}, TrD h d → gd d = true ∧ d.depth ≤ 2 * h
  | 0, _, t => t.elim
  | h + 1, d, t => by
    obtain ⟨s, ks, rfl, a, b⟩ := t
    have g1 : gdAll ks = true := gdAll_of fun k hk => (TrD.gd (b k hk)).1
    have g2 : PyData.depthAll ks ≤ 2 * h := depthAll_le fun k hk => (TrD.gd (b k hk)).2
    refine ⟨?_, ?_⟩
    · rw [Tl.gd, gdAll, gdAll, gdAll, gd_tag a, Tl.gd, g1]
      rfl
    · simp only [PyData.depth, PyData.depthAll]
      omega
theorem wt_node (s : Str) (ks : List PyData) : wt (.tuple [.str s, .tuple ks]) = 10 * s.length + 14 + wtAll ks := by
  simp only [wt, wtAll]
  omega
/-! ### the heap: data in F within H, the source of numbers at st -/
structure Gw (F H F' H' : Hp) : Prop where
  ff : Same F F'
  fh : Same F' H'
  hh : Same H H'
  nw : ∀ b, H b ≠ none → F b = none → F' b = none
theorem Gw.refl {F H : Hp} (e : Same F H) : Gw F H F H := ⟨Same.refl _, e, Same.refl _, fun _ _ h => h⟩
theorem Gw.trans {F H F1 H1 F2 H2 : Hp} (a : Gw F H F1 H1) (b : Gw F1 H1 F2 H2) : Gw F H F2 H2 :=
  ⟨a.ff.trans b.ff, b.fh, a.hh.trans b.hh, fun x h1 h2 => b.nw x (fun z => h1 (a.hh.free z)) (a.nw x h1 h2)⟩
theorem Gw.new {F H : Hp} {p : Addr} {o : HO} (e : Same F H) (h : H p = none) : Gw F H (upd F p o) (upd H p o) := by
  refine ⟨same_new (e.free h), fun b u q => ?_, same_new h, fun b h1 h2 => ?_⟩
  · by_cases z : b = p
    · subst z
      rw [upd_same] at q ⊢
      exact q
    · rw [upd_ne z] at q ⊢
      exact e b u q
  · rw [upd_ne (fun z => h1 (by rw [z]; exact h))]
    exact h2
end Tl
set_option Elab.async false
set_option linter.all false
set_option maxRecDepth 100000
set_option maxHeartbeats 4000000
namespace Tl
open PySem PySem.Spec PyProof.Rows L2
/-! An exception that a suite has put into another name, and that is looked at behind the try. -/
/-- the caught thing at a, of the class cls, its dict d -/
def CgO (cls : Value) (d : Option Addr) (a : Addr) : HO := .ext fun h => ∃ (oe : Obj) (vs : Array Value), h.get? a = some oe ∧ Zc cls d oe ∧ oe.data = .fields vs
theorem cg_ok {P : Program} {w : World} {H : Hp} {h : Heap} {a : Addr} {cls : Value} {d : Option Addr} {oe : Obj} {vs : Array Value} (e : h.get? a = some oe) (z : Zc cls d oe) (q : oe.data = .fields vs) : ObjOk P w H h a (CgO cls d a) :=
  ⟨⟨oe, vs, e, z, q⟩, ⟨oe, e⟩, fun _ _ ⟨o, v, p, r⟩ k => ⟨o, v, k o p, r⟩⟩
/-- what was there, and not ours to track, is tracked from now on -/
theorem take_up {X : Cx} {pins : List (Addr × Obj)} {σ : L2.St} {H : Hp} {s : Shared} {a : Addr} {o : HO} {oe : Obj} {vs : Array Value} (J : Inv X pins σ H s) (hn : H a = none) (h0 : X.s_0.heap.get? a = none) (nL : a ≠ X.env.locals)
    (np : ∀ p ∈ X.pn ++ pins, p.1 ≠ a) (ho : s.heap.get? a = some oe) (hd : oe.data = .fields vs) (new : ObjOk X.prog X.w (upd H a o) s.heap a o) : Inv X pins σ (upd H a o) s where
  ok := J.ok
  os := J.os
  bare := J.bare
  base := ⟨J.base.keep, J.base.slot, fun b u q n x => by rw [upd_ne (fun z => by rw [z, h0] at q; cases q)]; exact J.base.free b u q n x, J.base.there,
    fun b xs q => by rw [upd_ne (ne_of_none (J.base.tups b xs q) hn)]; exact J.base.tups b xs q,
    fun b u xs q => by rw [upd_ne (ne_of_none (J.base.frzs b u xs q) hn)]; exact J.base.frzs b u xs q,
    fun b ps q => by
      obtain ⟨m, e⟩ := J.base.tbls b ps q
      exact ⟨m, by rw [upd_ne (ne_of_none e hn)]; exact e⟩⟩
  loc := J.loc
  cell := J.cell
  free := by rw [upd_ne (Ne.symm nL)]; exact J.free
  freeC := fun x c q => by
    obtain ⟨v, hv⟩ := J.cell x c q
    rw [upd_ne]
    · exact J.freeC x c q
    · rintro rfl
      obtain ⟨oc, e1, e2⟩ := hv
      rw [ho] at e1
      cases e1
      simp_all
  pin := fun p hp => by
    obtain ⟨q1, q2, q3⟩ := J.pin p hp
    exact ⟨q1, by rw [upd_ne (np p hp)]; exact q2, q3⟩
  hok := J.hok.laidN (fun _ _ q => q) hn new
  len := J.len
/-- what 'except x as n' wishes of the body, the caught thing looked at behind -/
def wKeep (K : PySem.W.Frag) (c : Value) (i : Nat) (ts : Addr → Value → Option Addr → TS) (Wout : WX) (D : Ends) : WX := fun cls d σ H =>
  ∃ yes, PySem.W.exmOne K cls c = some yes ∧
    (yes = true → ∀ a, H a = none →
      ts a cls d ⟨fun σ' H' => D.nx (σ'.set i none) (upd H' a (CgO cls d a)), D.rt, fun σ' H' => D.bk (σ'.set i none) H', fun σ' H' => D.ct (σ'.set i none) H'⟩ (σ.set i (some (.ref a))) H) ∧
    (yes = false → Wout cls d σ H)
section
variable {X : Cx} {x n : Str} {c : Value} {i : Nat} {bd su : List Stmt} {s0 : Stmt} {np ps pt : Pos} {tb : WX → TS} {ts : Addr → Value → Option Addr → TS} {Wout : WX}
/-- the end of the try where its body has raised -/
theorem keep_catch (hs : X.stack = X.env :: X.outer) (hf : X.env.frame = some X.env.locals) (hex : X.ex = []) (hN : X.N.Nodup) (hi : X.N[i]? = some n) (hln : X.env.kindOf n = some .local) (hc : Names X x c) (tk : Takes X Wout)
    (hsu : ∀ (a : Addr) (oe : Obj) (cls : Value) (d : Option Addr) (pn : List (Addr × Obj)), Zc cls d oe → (∃ vs, oe.data = .fields vs) → PSs (X.suite a ((a, oe) :: pn)) (s0 :: su) (ts a cls d))
    {pins pn' : List (Addr × Obj)} {xe' : Value → Shared → Prop} {D : Ends} {u : Value} {t : Shared} (ok : X.Ok) (xx : XE (X.tr (X.pn ++ pins) xe') (wKeep X.K c i ts Wout D) u t) :
    wpAny (model X.prog X.w) X.A (noteFrame u X.env) (fun _ t2 => wpAny (model X.prog X.w) X.A (setFlight u none) (fun _ t3 =>
      wpAny (model X.prog X.w) X.A (handleBy u X.env [.ExceptHandler (some (.Name x np)) (some n) (s0 :: su) ps]) (SP X pins D) X.xe t3) X.xe t2) X.xe t := by
  obtain ⟨a, B, t0, _, τ, G, cls, d, rfl, J0, nb, up, sky, na, os, ag, yes, hy, hyes, hno⟩ := xx
  have J : Inv X pins τ G t0 := by
    have := J0.ofTry ok
    exact this
  have frames : X.A.frames = some (X.env :: X.outer) := by rw [ok.frames, hs]
  have sky1 : Sky B (X.env :: X.outer) a (Zc cls d) X.env.locals t.heap := hs ▸ sky
  have nB : B.get? a = none := by
    rcases sky1 with q | q | q
    · exact q.2.1
    · exact q.2.1
    · exact q.2.1
  refine Sky.land Zc.steady frames hf sky1 fun hA flA upA => ?_
  have JA : Inv X pins τ G { t with heap := hA } := J.landed nb flA.1 (up.trans upA) os ag
  obtain ⟨oA, vA, gA, zA, dA⟩ := flA.there
  -- no frame, so no object of the state ahead
  have far : a ∉ frs (X.env :: X.outer) := fun m => by
    obtain ⟨_, o2, g2, no⟩ := flA.2.2.1.mem m
    have e2 : oA = o2 := Option.some.inj (gA.symm.trans g2)
    exact no _ (e2 ▸ dA)
  have nL : a ≠ X.env.locals := fun z => far (List.mem_filterMap.mpr ⟨_, List.mem_cons_self, by rw [hf, z]⟩)
  have nF : a ∉ X.fs := fun m => by
    obtain ⟨e, me, qe⟩ := List.mem_filterMap.mp m
    exact far (List.mem_filterMap.mpr ⟨e, .tail _ me, qe⟩)
  have n0 : t0.heap.get? a = none := by
    cases e : t0.heap.get? a with
    | none => rfl
    | some o =>
      have := nb a o e (by show a ∉ frs X.stack; rw [hs]; exact far)
      rw [nB] at this
      cases this
  have ns : X.s_0.heap.get? a = none := by
    cases e : X.s_0.heap.get? a with
    | none => rfl
    | some o =>
      obtain ⟨o', e'⟩ := J.base.there a o e (by rw [hex]; exact List.not_mem_nil)
      rw [n0] at e'
      cases e'
  have npin : ∀ p ∈ X.pn ++ pins, p.1 ≠ a := fun p hp z => by
    have := (J.pin p hp).1
    rw [z, n0] at this
    cases this
  have SA := JA.suite gA dA na nL nF
  refine wpAny_handleBy_cons (codeAny_handlers_test ?_) (fun q => nomatch q)
  have fits := PySem.W.exm_one (M := model X.prog X.w) JA.kIn (fun A Q E r k q => wpAny_typeOf_ref (k _ _ gA) (by rw [zA.1]; exact q)) hy
  have name : ∀ {Q : Value → Shared → Prop} {E : Value → Shared → Prop}, Q c { t with heap := hA } → wpAny (model X.prog X.w) (X.A.mark (some (.ref a))) (eval (.Name x np) X.env) Q E { t with heap := hA } := by
    intro Q E q
    rcases hc with ⟨g, db, m | ⟨m, v, nn⟩⟩
    · exact ld_glob (X := X.suite a ((a, oA) :: (X.pn ++ pins))) SA g m q db
    · exact ld_blt (X := X.suite a ((a, oA) :: (X.pn ++ pins))) SA g m v q nn db
  refine name (fits.here ?_)
  cases yes with
  | false =>
    show wpAny _ X.A (handleBy (.ref a) X.env []) _ _ _
    refine wpAny_handleBy_nil ?_
    obtain ⟨_, _, _, o5, v5, tr, _, _, g5, _, d5, h5, _⟩ := id flA
    unfold PySem.passOn
    refine wpAny_bind (wpAny_field g5 d5 h5 ?_)
    rw [if_neg (by simp)]
    have last : wpAny (model X.prog X.w) X.A (setFlight (.ref a) X.env.frame) (fun _ t4 => wpAny (model X.prog X.w) X.A (throw (.ref a) : Sem Flow) (SP X pins D) X.xe t4) X.xe { t with heap := hA } := by
      rw [hf]
      refine HandSPX.setFlight_upZ flA fun h6 hl6 up6 => wpAny_throw (tk _ _ ⟨a, B, t0, pins, τ, G, cls, d, rfl, J, nb, (up.trans upA).trans up6, ?_, na, os, ag, hno rfl⟩)
      rw [hs]
      exact .inr (.inr hl6)
    first
      | exact wpAny_bind (wpAny_pure (wpAny_bind last))
      | exact wpAny_bind last
  | true =>
    refine codeAny_handlers_suite_as (HandSPX.lands_againZ flA fun hC flC upC => ?_)
    have JC : Inv X pins τ G { t with heap := hC } := J.landed nb flC.1 ((up.trans upA).trans upC) os ag
    obtain ⟨oC, vC, gC, zC, dC⟩ := flC.there
    refine store_ok (X := X.suite a ((a, oC) :: (X.pn ++ pins))) (v := .ref a) (JC.suite gC dC na nL nF) hN hi (.inl hln) rfl (fun t5 S5 => ?_) (.inr hln)
    refine wpAny_mono ((hsu a oC cls d (X.pn ++ pins) zC ⟨_, dC⟩).run [] t5 _ G _ S5 (hyes rfl a na)) (fun f t6 got => ?_) (fun _ _ z => z.elim)
    have plain : ∀ {τ6 : L2.St} {G6 : Hp} {Q : Shared → Prop}, Inv (X.suite a ((a, oC) :: (X.pn ++ pins))) [] τ6 G6 t6 → (∀ t7, Inv X pins (τ6.set i none) G6 t7 → Q t7) →
        wpAny (model X.prog X.w) X.A (do bindName X.env n .none; unbindBehindTheSuite X.env n ps) (fun _ t7 => Q t7) X.xe t6 := fun S q => gone_ok (S.unsuite ok) hN hi hln q
    cases f with
    | next =>
      obtain ⟨τ6, G6, S6, q6⟩ := got
      obtain ⟨p1, p2, _⟩ := S6.pin (a, oC) (List.mem_append_left _ List.mem_cons_self)
      have T6 := take_up (o := CgO cls d a) (S6.unsuite ok) p2 ns nL npin p1 dC (cg_ok p1 zC dC)
      exact gone_ok T6 hN hi hln fun t7 J7 => ⟨_, _, J7, q6⟩
    | brk =>
      obtain ⟨_, _, S6, q6⟩ := got
      exact plain S6 fun _ J7 => ⟨_, _, J7, q6⟩
    | cont =>
      obtain ⟨_, _, S6, q6⟩ := got
      exact plain S6 fun _ J7 => ⟨_, _, J7, q6⟩
    | ret v =>
      obtain ⟨_, _, _, S6, r6, q6⟩ := got
      exact plain S6 fun _ J7 => ⟨_, _, _, J7, r6, q6⟩
/-- try: body / except x as n: suite, the caught thing looked at behind -/
theorem ps_try_keep (hs : X.stack = X.env :: X.outer) (hf : X.env.frame = some X.env.locals) (hex : X.ex = []) (hN : X.N.Nodup) (hi : X.N[i]? = some n) (hln : X.env.kindOf n = some .local) (hc : Names X x c) (tk : Takes X Wout)
    (hb : ∀ (W : WX) (pn : List (Addr × Obj)) (xe : Value → Shared → Prop), Takes (X.tr pn xe) W → PassesOwn (model X.prog X.w) X.A X.env xe → PSs (X.tr pn xe) bd (tb W))
    (hsu : ∀ (a : Addr) (oe : Obj) (cls : Value) (d : Option Addr) (pn : List (Addr × Obj)), Zc cls d oe → (∃ vs, oe.data = .fields vs) → PSs (X.suite a ((a, oe) :: pn)) (s0 :: su) (ts a cls d)) :
    PS X (.Try bd [.ExceptHandler (some (.Name x np)) (some n) (s0 :: su) ps] [] [] pt) (fun D σ H => tb (wKeep X.K c i ts Wout D) D σ H) := by
  refine ⟨fun pins s σ H D I h => wpAny_Try_except ?_⟩
  have ok := I.ok
  refine wpAny_mono ((hb _ (X.pn ++ pins) _ (fun u t xx => keep_catch (pn' := []) hs hf hex hN hi hln hc tk hsu ok xx) PassesOwn.looking).run [] s σ H D (I.toTry _) h) (fun f t got => ?_) (fun _ _ z => z)
  cases f with
  | next =>
    obtain ⟨_, _, S, q⟩ := got
    exact wpAny_execs_nil ⟨_, _, S.ofTry ok, q⟩
  | brk =>
    obtain ⟨_, _, S, q⟩ := got
    exact ⟨_, _, S.ofTry ok, q⟩
  | cont =>
    obtain ⟨_, _, S, q⟩ := got
    exact ⟨_, _, S.ofTry ok, q⟩
  | ret v =>
    obtain ⟨_, _, _, S, r, q⟩ := got
    exact ⟨_, _, _, S.ofTry ok, r, q⟩
end
/-- a dict that is tracked, where there is one -/
def DxO (H : Hp) : Option Addr → Prop
  | none => True
  | some dd => ∃ fs, H dd = some (.xd fs)
theorem cg_inst {X : Cx} {pins : List (Addr × Obj)} {σ : L2.St} {H : Hp} {s : Shared} {a D : Addr} {d : Option Addr} (I : Inv X pins σ H s) (ha : H a = some (CgO (.ref D) d a)) (hd : DxO H d) : ∃ ox od, PySem.W.InstAt s.heap a ox D od := by
  obtain ⟨⟨oe, vs, g, z, q⟩, _⟩ := I.hok a _ ha
  have no : PySem.W.notCls oe = true := by unfold PySem.W.notCls; rw [q] <;> rfl
  cases d with
  | none => exact ⟨oe, none, g, z.1, no, by rw [z.2]; trivial⟩
  | some dd =>
    obtain ⟨fs, hf⟩ := hd
    obtain ⟨mA, hns, _⟩ : ∃ mA, s.heap.Ns1 dd mA ∧ ∀ f, RelO (fs.lookup f) (mA f) := I.hok dd _ hf
    obtain ⟨od, ho, _⟩ := lookIn_ns hns
    exact ⟨oe, some od, g, z.1, no, by rw [z.2]; exact ho⟩
/-- isinstance(caught, c) -/
def rIsK (K : PySem.W.Frag) : List V → Hp → VK → Prop := fun xs H Q => ∃ (a D : Addr) (d : Option Addr) (c : V) (cv : Value) (b : Bool),
  xs = [.ref a, c] ∧ H a = some (CgO (.ref D) d a) ∧ DxO H d ∧ ExcC K D ∧ (∀ u, RelV c u → u = cv) ∧ PySem.W.kitOne K (.ref D) cv = some b ∧ Q (.bl b) H
theorem call_isK {X : Cx} : CallR X (.builtin "isinstance") (rIsK X.K) := by
  intro pins s σ H xs us Q I r h
  obtain ⟨a, D, d, c, cv, b, rfl, ha, hd, C, hc, hk, q⟩ := h
  rcases r with _ | ⟨rx, r⟩
  rcases r with _ | ⟨rt, r⟩
  cases r
  cases rx
  obtain rfl := hc _ rt
  obtain ⟨ox, od, J⟩ := cg_inst I ha hd
  obtain ⟨cd, hcd, _⟩ := PySem.W.any_some C.hd
  exact PySem.W.kia_one (PySem.W.kitx_exc (by rw [hcd]; rfl) C.hg C.hk C.hs C.ha C.hn C.ht C.hm) I.kIn J hk (fun z => nomatch z) fun tk => ⟨.bl b, H, I.kept (t' := tk) fun _ _ z => z, rfl, q⟩
section
variable {X : Cx}
/-- caught.n -/
theorem pe_kf {C0 : Addr} {e : Expr} {te : TE} {pos : Pos} {n : Str} (T1 : XfC X.K C0) (hno : PySem.W.findIn X.K (.ref C0) n = some none) (he : PE X e te) (hb : attributeBase e n X.env (eval e X.env) = eval e X.env := by rfl) :
    PE X (.Attribute e n pos) (fun σ H Q => te σ H fun x H1 => ∃ (a dd : Addr) (fs : List (Str × V)) (v : V), x = .ref a ∧ H1 a = some (CgO (.ref C0) (some dd) a) ∧ H1 dd = some (.xd fs) ∧ fs.lookup n = some v ∧ Q v H1) := by
  refine ⟨fun pins s σ H Q I h => attr_of hb (thn (he.run pins s σ H _ I h) fun u s1 hh => ?_)⟩
  obtain ⟨x, H1, I1, rx, a, dd, fs, v, rfl, ha, hd, l, q⟩ := hh
  cases rx
  obtain ⟨⟨oe, vs, g, z, dv⟩, _⟩ := I1.hok a _ ha
  obtain ⟨mA, hns, hr⟩ : ∃ mA, s1.heap.Ns1 dd mA ∧ ∀ f, RelO (fs.lookup f) (mA f) := I1.hok dd _ hd
  obtain ⟨od, ho, hl⟩ := lookIn_ns hns
  obtain ⟨u2, hu, ru⟩ := RelO.some_of (v := v) (o := mA n) (by rw [← l]; exact hr n)
  have J : PySem.W.InstAt s1.heap a oe C0 (some od) := ⟨g, z.1, by unfold PySem.W.notCls; rw [dv] <;> rfl, by rw [z.2]; exact ho⟩
  exact HandSPX.exc_get I1.kIn J T1.ga T1.gg T1.exC (PySem.W.findObj_own T1.hdC hno rfl (by rw [hl, hu])) (handed_of ru) ⟨v, H1, I1.tok _, ru, q⟩
/-- X(), an own error without a word -/
theorem pmk_own0 {C : Addr} {bmB : List Value} {B newId initId : String} {x : Str} {p pos : Pos} (F : ExcBaseFacts B newId initId bmB) (q : PySem.W.excIn X.K C bmB newId = true) (gC : X.mg x = some (.ref C)) (kC : PySem.W.keepIn X.K (.ref C) = true) (r : Raises X (.ref C)) (hg : Gl X x)
    (hdb : (x == ("__debug__" : Str)) = false := by decide) : PMk X (.Call (.Name x p) [] [] pos) (fun _ H Q => Q (.ref C) none H) := by
  intro pins s σ H Q I h
  refine wpAny_Call_Name_kw (ld_glob I hg gC ?_ hdb)
  refine PySem.W.callWith_K0 I.kIn kC ?_
  obtain ⟨bm, N, nm, qn, bs, hdct, sn, sub, ab, col, dd, k0, k1, k2, k3, k5, mN, hC, hN, hni, T⟩ := exc_obj I.kIn q
  exact wpAny_call_exc_subT F T hC hN hni (fun h' e hm => mk_of I hm r h (I.hok.gone hm.new)) (Nat.zero_le _)
end
end Tl
set_option Elab.async false
set_option linter.all false
set_option maxRecDepth 100000
set_option maxHeartbeats 4000000
set_option Elab.async false
set_option linter.all false
set_option maxRecDepth 100000
set_option maxHeartbeats 4000000
/-! Dicts whose keys are tuples of numbers, nested: kept as one object; the keys' own objects are told of by others. -/
namespace Tl
open PySem PySem.Spec PyProof.Rows L2
/-! ### keys -/
mutual
/-- numbers, and tuples of such -/
def noTxt : NestedKey → Bool
  | .num _ => true
  | .tup ks => noTxts ks
  | _ => false
def noTxts : List NestedKey → Bool
  | [] => true
  | k :: ks => noTxt k && noTxts ks
end
mutual
/-- the value v is the key k -/
inductive KeyV (K : PySem.W.Frag) (H : Hp) : V → NestedKey → Prop
  | int (i : Int) : KeyV K H (.int i) (.num i)
  | tup {a : Addr} {xs : List V} {ks : List NestedKey} (h : SqT K H a xs) (r : KeyVs K H xs ks) : KeyV K H (.ref a) (.tup ks)
inductive KeyVs (K : PySem.W.Frag) (H : Hp) : List V → List NestedKey → Prop
  | nil : KeyVs K H [] []
  | cons {x : V} {k : NestedKey} {xs : List V} {ks : List NestedKey} (h : KeyV K H x k) (r : KeyVs K H xs ks) : KeyVs K H (x :: xs) (k :: ks)
end
/-! ### the object -/
abbrev DU1 := NestedKey × Addr × V
abbrev DU2 := NestedKey × Addr × Value
def RelU (x : DU1) (y : DU2) : Prop := x.1 = y.1 ∧ x.2.1 = y.2.1 ∧ RelV x.2.2 y.2.2
def entU (w : World) (y : DU2) : DictEntry := ⟨y.1.hash w, .ref y.2.1, y.2.2⟩
def phiU (a : Addr) (xs : List DU1) (h : Heap) : Prop := ∃ (ys : List DU2) (o : Obj) (es : Array DictEntry) (ep : Nat), Paired RelU xs ys ∧ h.get? a = some o ∧ o.ExactDict ∧ o.data = .dict es ep ∧ ∀ w : World, es.toList = ys.map (entU w)
def DU (a : Addr) (xs : List DU1) : HO := .ext (phiU a xs)
/-- what else is known of such a dict -/
structure KeysU (K : PySem.W.Frag) (H : Hp) (a : Addr) (xs : List DU1) : Prop where
  sm : (a == sysModules) = false
  sz : xs.length ≤ sizeLine
  nd : (xs.map (·.1)).Nodup
  ks : ∀ x ∈ xs, KeyV K H (.ref x.2.1) x.1 ∧ x.1.depth ≤ 8 ∧ noTxt x.1 = true
/-! ### keys as data -/
mutual
def keyN : PyData → NestedKey
  | .int i => .num i
  | .tuple ds => .tup (keyNs ds)
  | _ => .none
def keyNs : List PyData → List NestedKey
  | [] => []
  | d :: ds => keyN d :: keyNs ds
end
mutual
/-- numbers, and tuples of such -/
def keyOk : PyData → Bool
  | .int _ => true
  | .tuple ds => keyOks ds
  | _ => false
def keyOks : List PyData → Bool
  | [] => true
  | d :: ds => keyOk d && keyOks ds
end
end Tl
set_option Elab.async false
set_option linter.all false
set_option maxRecDepth 100000
set_option maxHeartbeats 4000000
/-! A second layer over the hand layer: values are data or named objects; a memory M tells the objects that may change, all else is data for good. -/
namespace Tl
open PySem L2
mutual
/-- data at v, as F knows it; the empty dict may stand anywhere -/
inductive Dx (K : PySem.W.Frag) (F : Hp) : V → PyData → Prop
  | non : Dx K F .non .none
  | bl (b : Bool) : Dx K F (.bl b) (.bool b)
  | int (i : Int) : Dx K F (.int i) (.int i)
  | str (x : Str) : Dx K F (.str x) (.str x)
  | lst {a : Addr} {xs : List V} {ds : List PyData} : F a = some (.lst xs) → DxL K F xs ds → Dx K F (.ref a) (.list ds)
  | tup {a : Addr} {xs : List V} {ds : List PyData} : SqT K F a xs → DxL K F xs ds → Dx K F (.ref a) (.tuple ds)
  | dic {a : Addr} : F a = some (.dK []) → Dx K F (.ref a) (.dict [])
inductive DxL (K : PySem.W.Frag) (F : Hp) : List V → List PyData → Prop
  | nil : DxL K F [] []
  | cons {v : V} {vs : List V} {d : PyData} {ds : List PyData} : Dx K F v d → DxL K F vs ds → DxL K F (v :: vs) (d :: ds)
end
/-- one of two, by a truth -/
inductive IfB (c : Bool) (A B : Prop) : Prop where
  | t (h : c = true) (q : A) : IfB c A B
  | f (h : c = false) (q : B) : IfB c A B
theorem IfB.ite {c : Bool} {A B : Prop} (h : IfB c A B) : if c = true then A else B := by
  cases h with
  | t h q => rw [if_pos h]; exact q
  | f h q => rw [h, if_neg Bool.false_ne_true]; exact q
theorem IfB.of {c : Bool} {A B : Prop} (h1 : c = true → A) (h2 : c = false → B) : IfB c A B := by
  cases c with
  | true => exact .t rfl (h1 rfl)
  | false => exact .f rfl (h2 rfl)
theorem IfB.d {p A B : Prop} [Decidable p] (h1 : p → A) (h2 : ¬ p → B) : IfB (decide p) A B := IfB.of (fun h => h1 (of_decide_eq_true h)) fun h => h2 (of_decide_eq_false h)
theorem IfB.n {p A B : Prop} [Decidable p] (h1 : ¬ p → B) (h2 : p → A) : IfB (decide p) A B := IfB.d h2 h1
theorem IfB.not {c : Bool} {A B : Prop} (h : IfB c B A) : IfB (!c) A B := by
  cases h with
  | t h q => exact .f (by rw [h]; rfl) q
  | f h q => exact .t (by rw [h]; rfl) q
def ng : Bool → Bool → Bool
  | true, b => !b
  | false, b => b
theorem IfB.ngt {c : Bool} {A B : Prop} (h : IfB c B A) : IfB (ng true c) A B := h.not
theorem IfB.ngf {c : Bool} {A B : Prop} (h : IfB c A B) : IfB (ng false c) A B := h
theorem IfB.yes {p A B : Prop} [Decidable p] (h : p) (q : A) : IfB (decide p) A B := .t (decide_eq_true h) q
theorem IfB.no {p A B : Prop} [Decidable p] (h : ¬ p) (q : B) : IfB (decide p) A B := .f (decide_eq_false h) q
/-- a value -/
inductive W where
  | d (x : PyData)
  | r (a : Addr)
  | o (v : V)
  /-- a caught error: where it stands, its class, its dict, its fields -/
  | x (a C : Addr) (dd : Option Addr) (fs : List (Str × PyData))
/-- an object that may change -/
inductive MO where
  | lst (ws : List W)
  | src (b : Bool)
  | dK (kvs : List (Key × W))
  /-- a dict keyed by numbers in tuples -/
  | dT (kvs : List (PyData × W))
  | ins (C dx : Addr) (fs : List (Str × W))
  | exc (C : Addr) (dd : Option Addr)
  /-- a dict while it is walked -/
  | lkK (ob : Obj) (kv : List (Key × V)) (kvs : List (Key × W))
  /-- the table of a def's own code: what it tells bears the name q -/
  | tab (q : Str)
abbrev Mem := Addr → Option MO
abbrev EnvD := List (Option W)
def mset (M : Mem) (a : Addr) (o : MO) : Mem := fun b => if b = a then some o else M b
def mdel (M : Mem) (a : Addr) : Mem := fun b => if b = a then none else M b
theorem mset_same {M : Mem} {a : Addr} {o : MO} : mset M a o a = some o := if_pos rfl
theorem mset_ne {M : Mem} {a b : Addr} {o : MO} (h : b ≠ a) : mset M a o b = M b := if_neg h
theorem mdel_same {M : Mem} {a : Addr} : mdel M a a = none := if_pos rfl
theorem mdel_ne {M : Mem} {a b : Addr} (h : b ≠ a) : mdel M a b = M b := if_neg h
theorem mset_mset {M : Mem} {a : Addr} {o u : MO} : mset (mset M a o) a u = mset M a u := by
  funext b
  by_cases h : b = a
  · rw [h, mset_same, mset_same]
  · rw [mset_ne h, mset_ne h, mset_ne h]
theorem mdel_mset {M : Mem} {a : Addr} {o : MO} : mdel (mset M a o) a = mdel M a := by
  funext b
  by_cases h : b = a
  · rw [h, mdel_same, mdel_same]
  · rw [mdel_ne h, mdel_ne h, mset_ne h]
theorem mdel_none {M : Mem} {a : Addr} (h : M a = none) : mdel M a = M := by
  funext b; unfold mdel; split
  · rename_i e; rw [e, h]
  · rfl
theorem mset_id {M : Mem} {a : Addr} {o : MO} (h : M a = some o) : mset M a o = M := by
  funext b; unfold mset; split
  · rename_i e; rw [e, h]
  · rfl
mutual
theorem Dx.mono {K : PySem.W.Frag} {H H' : Hp} (e : Same H H') : ∀ (d : PyData) (v : V), Dx K H v d → Dx K H' v d
  | .none, _, h => by cases h; exact .non
  | .bool b, _, h => by cases h; exact .bl b
  | .int i, _, h => by cases h; exact .int i
  | .str x, _, h => by cases h; exact .str x
  | .list ds, _, h => by
    cases h with
    | lst hs ha => exact .lst (e _ _ hs) (DxL.mono e ds _ ha)
  | .tuple ds, _, h => by
    cases h with
    | tup hs ha => exact .tup (same_t e hs) (DxL.mono e ds _ ha)
  | .dict _, _, h => by cases h with | dic h => exact .dic (e _ _ h)
theorem DxL.mono {K : PySem.W.Frag} {H H' : Hp} (e : Same H H') : ∀ (ds : List PyData) (vs : List V), DxL K H vs ds → DxL K H' vs ds
  | [], _, h => by cases h; exact .nil
  | d :: ds, _, h => by
    cases h with
    | cons h1 h2 => exact .cons (Dx.mono e d _ h1) (DxL.mono e ds _ h2)
end
mutual
/-- no list within -/
def noL : PyData → Bool
  | .list _ => false
  | .tuple ds => noLs ds
  | _ => true
def noLs : List PyData → Bool
  | [] => true
  | d :: ds => noL d && noLs ds
end
mutual
theorem Dx.of {K : PySem.W.Frag} {H : Hp} : ∀ (d : PyData) (v : V), Dp K H v d → noL d = true → Dx K H v d
  | .none, _, h, _ => by cases h; exact .non
  | .bool b, _, h, _ => by cases h; exact .bl b
  | .int i, _, h, _ => by cases h; exact .int i
  | .str x, _, h, _ => by cases h; exact .str x
  | .list ds, _, h, n => by rw [noL] at n; cases n
  | .tuple ds, _, h, n => by
    cases h with
    | tup hs ha => exact .tup hs (DxL.of ds _ ha (by rw [noL] at n; exact n))
  | .dict _, _, h, _ => by cases h
theorem DxL.of {K : PySem.W.Frag} {H : Hp} : ∀ (ds : List PyData) (vs : List V), DpAll K H vs ds → noLs ds = true → DxL K H vs ds
  | [], _, h, _ => by cases h; exact .nil
  | d :: ds, _, h, n => by
    rw [noLs, Bool.and_eq_true] at n
    cases h with
    | cons h1 h2 => exact .cons (Dx.of d _ h1 n.1) (DxL.of ds _ h2 n.2)
end
mutual
theorem Dx.dp {K : PySem.W.Frag} {H : Hp} : ∀ (d : PyData) (v : V), Dx K H v d → d.hasDict = false → Dp K H v d
  | .none, _, h, _ => by cases h; exact .non
  | .bool b, _, h, _ => by cases h; exact .bl b
  | .int i, _, h, _ => by cases h; exact .int i
  | .str x, _, h, _ => by cases h; exact .str x
  | .list ds, _, h, n => by
    cases h with
    | lst hs ha => exact .lst (SqL.of hs) (DxL.dp ds _ ha (by rw [PyData.hasDict] at n; exact n))
  | .tuple ds, _, h, n => by
    cases h with
    | tup hs ha => exact .tup hs (DxL.dp ds _ ha (by rw [PyData.hasDict] at n; exact n))
  | .dict _, _, h, n => by rw [PyData.hasDict] at n; cases n
theorem DxL.dp {K : PySem.W.Frag} {H : Hp} : ∀ (ds : List PyData) (vs : List V), DxL K H vs ds → PyData.hasDictAll ds = false → DpAll K H vs ds
  | [], _, h, _ => by cases h; exact .nil
  | d :: ds, _, h, n => by
    rw [PyData.hasDictAll, Bool.or_eq_false_iff] at n
    cases h with
    | cons h1 h2 => exact .cons (Dx.dp d _ h1 n.1) (DxL.dp ds _ h2 n.2)
end
theorem DxL.len {K : PySem.W.Frag} {H : Hp} : ∀ {vs : List V} {ds : List PyData}, DxL K H vs ds → vs.length = ds.length
  | _, _, .nil => rfl
  | _, _, .cons _ h => by rw [List.length_cons, List.length_cons, DxL.len h]
theorem DxL.got {K : PySem.W.Frag} {H : Hp} : ∀ {vs : List V} {ds : List PyData} {i : Nat} {d : PyData}, DxL K H vs ds → ds[i]? = some d → ∃ v, vs[i]? = some v ∧ Dx K H v d
  | _, _, _, _, .nil, e => by simp at e
  | _, _, 0, _, .cons h _, e => by simp at e; subst e; exact ⟨_, rfl, h⟩
  | _, _, i + 1, d, .cons _ h, e => by
    obtain ⟨v, h1, h2⟩ := DxL.got (i := i) (d := d) h (by simpa using e)
    exact ⟨v, by simpa using h1, h2⟩
theorem DxL.get {K : PySem.W.Frag} {H : Hp} : ∀ {vs : List V} {ds : List PyData} {i : Nat} {v : V}, DxL K H vs ds → vs[i]? = some v → ∃ d, ds[i]? = some d ∧ Dx K H v d
  | _, _, _, _, .nil, e => by simp at e
  | _, _, 0, _, .cons h _, e => by simp at e; subst e; exact ⟨_, rfl, h⟩
  | _, _, i + 1, v, .cons _ h, e => by
    obtain ⟨d, h1, h2⟩ := DxL.get (i := i) (v := v) h (by simpa using e)
    exact ⟨d, by simpa using h1, h2⟩
theorem DxL.app {K : PySem.W.Frag} {H : Hp} : ∀ {vs ws : List V} {ds es : List PyData}, DxL K H vs ds → DxL K H ws es → DxL K H (vs ++ ws) (ds ++ es)
  | _, _, _, _, .nil, h => h
  | _, _, _, _, .cons a b, h => .cons a (DxL.app b h)
theorem DxL.take {K : PySem.W.Frag} {H : Hp} : ∀ {vs : List V} {ds : List PyData} (n : Nat), DxL K H vs ds → DxL K H (vs.take n) (ds.take n)
  | _, _, 0, _ => .nil
  | _, _, _ + 1, .nil => .nil
  | _, _, n + 1, .cons a b => .cons a (DxL.take n b)
theorem DxL.drop {K : PySem.W.Frag} {H : Hp} : ∀ {vs : List V} {ds : List PyData} (n : Nat), DxL K H vs ds → DxL K H (vs.drop n) (ds.drop n)
  | _, _, 0, h => h
  | _, _, _ + 1, .nil => .nil
  | _, _, n + 1, .cons a b => DxL.drop n b
theorem DxL.rev {K : PySem.W.Frag} {H : Hp} : ∀ {vs : List V} {ds : List PyData}, DxL K H vs ds → DxL K H vs.reverse ds.reverse
  | _, _, .nil => .nil
  | _, _, .cons a b => by rw [List.reverse_cons, List.reverse_cons]; exact DxL.app (DxL.rev b) (.cons a .nil)
/-- an error's fields stand in its dict -/
def FX (K : PySem.W.Frag) (F : Hp) (d : Option Addr) (fs : List (Str × PyData)) : Prop := match d with
  | none => fs = []
  | some dd => ∃ fv, F dd = some (.xd fv) ∧ fv.map (·.1) = fs.map (·.1) ∧ DxL K F (fv.map (·.2)) (fs.map (·.2))
theorem FX.mono {K : PySem.W.Frag} {F F' : Hp} (e : Same F F') {d : Option Addr} {fs : List (Str × PyData)} (h : FX K F d fs) : FX K F' d fs := by
  cases d with
  | none => exact h
  | some dd =>
    obtain ⟨fv, h1, h2, h3⟩ := h
    exact ⟨fv, e _ _ h1, h2, DxL.mono e _ _ h3⟩
/-- v is the value x -/
inductive RW (K : PySem.W.Frag) (F : Hp) : V → W → Prop
  | d {v : V} {x : PyData} : Dx K F v x → RW K F v (.d x)
  | r (a : Addr) : RW K F (.ref a) (.r a)
  | o (v : V) : RW K F v (.o v)
  | x {a C : Addr} {dd : Option Addr} {fs : List (Str × PyData)} : FX K F dd fs → RW K F (.ref a) (.x a C dd fs)
inductive RWs (K : PySem.W.Frag) (F : Hp) : List V → List W → Prop
  | nil : RWs K F [] []
  | cons {v : V} {vs : List V} {x : W} {xs : List W} : RW K F v x → RWs K F vs xs → RWs K F (v :: vs) (x :: xs)
section
variable {K : PySem.W.Frag} {F F' H H' : Hp}
theorem RW.mono (e : Same F F') {v : V} {x : W} (h : RW K F v x) : RW K F' v x := by
  cases h with
  | d h => exact .d (Dx.mono e _ _ h)
  | r a => exact .r a
  | o v => exact .o v
  | x h => exact .x (h.mono e)
theorem RWs.mono (e : Same F F') : ∀ {vs : List V} {xs : List W}, RWs K F vs xs → RWs K F' vs xs
  | _, _, .nil => .nil
  | _, _, .cons h t => .cons (h.mono e) (t.mono e)
theorem RWs.len : ∀ {vs : List V} {xs : List W}, RWs K F vs xs → vs.length = xs.length
  | _, _, .nil => rfl
  | _, _, .cons _ t => by rw [List.length_cons, List.length_cons, t.len]
theorem RWs.got : ∀ {vs : List V} {xs : List W} {i : Nat} {x : W}, RWs K F vs xs → xs[i]? = some x → ∃ v, vs[i]? = some v ∧ RW K F v x
  | _, _, _, _, .nil, e => by simp at e
  | _, _, 0, _, .cons h _, e => by simp at e; subst e; exact ⟨_, rfl, h⟩
  | _, _, i + 1, x, .cons _ h, e => by
    obtain ⟨v, h1, h2⟩ := RWs.got (i := i) (x := x) h (by simpa using e)
    exact ⟨v, by simpa using h1, h2⟩
theorem RWs.get : ∀ {vs : List V} {xs : List W} {i : Nat} {v : V}, RWs K F vs xs → vs[i]? = some v → ∃ x, xs[i]? = some x ∧ RW K F v x
  | _, _, _, _, .nil, e => by simp at e
  | _, _, 0, _, .cons h _, e => by simp at e; subst e; exact ⟨_, rfl, h⟩
  | _, _, i + 1, v, .cons _ h, e => by
    obtain ⟨x, h1, h2⟩ := RWs.get (i := i) (v := v) h (by simpa using e)
    exact ⟨x, by simpa using h1, h2⟩
theorem RWs.app : ∀ {vs ws : List V} {xs ys : List W}, RWs K F vs xs → RWs K F ws ys → RWs K F (vs ++ ws) (xs ++ ys)
  | _, _, _, _, .nil, h => h
  | _, _, _, _, .cons a b, h => .cons a (RWs.app b h)
theorem RWs.take : ∀ {vs : List V} {xs : List W} (n : Nat), RWs K F vs xs → RWs K F (vs.take n) (xs.take n)
  | _, _, 0, _ => .nil
  | _, _, _ + 1, .nil => .nil
  | _, _, n + 1, .cons a b => .cons a (RWs.take n b)
theorem RWs.drop : ∀ {vs : List V} {xs : List W} (n : Nat), RWs K F vs xs → RWs K F (vs.drop n) (xs.drop n)
  | _, _, 0, h => h
  | _, _, _ + 1, .nil => .nil
  | _, _, n + 1, .cons a b => RWs.drop n b
theorem RWs.rev : ∀ {vs : List V} {xs : List W}, RWs K F vs xs → RWs K F vs.reverse xs.reverse
  | _, _, .nil => .nil
  | _, _, .cons a b => by rw [List.reverse_cons, List.reverse_cons]; exact RWs.app (RWs.rev b) (.cons a .nil)
theorem RWs.set {v : V} {x : W} (h : RW K F v x) : ∀ {vs : List V} {xs : List W} (n : Nat), RWs K F vs xs → RWs K F (vs.set n v) (xs.set n x)
  | _, _, _, .nil => .nil
  | _, _, 0, .cons _ t => .cons h t
  | _, _, n + 1, .cons a t => .cons a (RWs.set h n t)
theorem RWs.dat : ∀ {vs : List V} {ds : List PyData}, DxL K F vs ds → RWs K F vs (ds.map W.d)
  | _, _, .nil => .nil
  | _, _, .cons a b => .cons (.d a) (RWs.dat b)
theorem RWs.undat : ∀ {ds : List PyData} {vs : List V}, RWs K F vs (ds.map W.d) → DxL K F vs ds
  | [], _, h => by cases h; exact .nil
  | d :: ds, _, h => by
    cases h with
    | cons a b =>
      cases a with
      | d a => exact .cons a (RWs.undat b)
end
/-- the law's own source of numbers: its cells, three numbers -/
def SrcV (K : PySem.W.Frag) (F : Hp) (b : Bool) (vs : List V) : Prop := ∃ (c : Addr) (cs : List Int) (i p z : Int), vs = [.ref c, .int i, .int p, .int z] ∧ SqL K F c (cs.map V.int) ∧ cs.length ≤ 63 ∧ (b = true → 0 < cs.length) ∧ 0 ≤ i ∧ 0 ≤ p ∧ 0 ≤ z ∧ z < (if b = true then 2147483647 else 2305843009213693951)
theorem SrcV.mono {K : PySem.W.Frag} {F F' : Hp} (e : Same F F') {b : Bool} {vs : List V} (h : SrcV K F b vs) : SrcV K F' b vs := by
  obtain ⟨c, cs, i, p, z, h1, h2, h3⟩ := h
  exact ⟨c, cs, i, p, z, h1, same_l e h2, h3⟩
def PrR {κ : Type} (K : PySem.W.Frag) (F : Hp) (kv : List (κ × V)) (kw : List (κ × W)) : Prop := kv.map (·.1) = kw.map (·.1) ∧ RWs K F (kv.map (·.2)) (kw.map (·.2))
theorem PrR.mono {κ : Type} {K : PySem.W.Frag} {F F' : Hp} (e : Same F F') {kv : List (κ × V)} {kw : List (κ × W)} (h : PrR K F kv kw) : PrR K F' kv kw := ⟨h.1, h.2.mono e⟩
mutual
theorem KeyV.mono {K : PySem.W.Frag} {F F' : Hp} (e : Same F F') : ∀ (k : NestedKey) (v : V), KeyV K F v k → KeyV K F' v k
  | .num i, _, h => by cases h; exact .int i
  | .tup ks, _, h => by
    cases h with
    | tup hs hr => exact .tup (same_t e hs) (KeyVs.mono e ks _ hr)
  | .none, _, h => by cases h
  | .text _, _, h => by cases h
theorem KeyVs.mono {K : PySem.W.Frag} {F F' : Hp} (e : Same F F') : ∀ (ks : List NestedKey) (vs : List V), KeyVs K F vs ks → KeyVs K F' vs ks
  | [], _, h => by cases h; exact .nil
  | k :: ks, _, h => by
    cases h with
    | cons a b => exact .cons (KeyV.mono e k _ a) (KeyVs.mono e ks _ b)
end
theorem KeysU.mono {K : PySem.W.Frag} {F F' : Hp} (e : Same F F') {a : Addr} {xs : List DU1} (h : KeysU K F a xs) : KeysU K F' a xs :=
  ⟨h.sm, h.sz, h.nd, fun x hx => ⟨KeyV.mono e _ _ (h.ks x hx).1, (h.ks x hx).2⟩⟩
/-- a table of a def's code: each code object in it is data, of the name q -/
def TabO (F : Hp) (u : HO) (q : Str) : Prop := ∃ ps : Array Value, u = .tbl ps ∧ TriplesOk ps.toList ∧
  ∀ (z : Pos) (x : Value), codeAmong z ps.toList = some x → ∃ b, x = .ref b ∧ F b = some (LamX.CodeO b q)
theorem TabO.mono {F F' : Hp} (e : Same F F') {u : HO} {q : Str} (h : TabO F u q) : TabO F' u q := by
  obtain ⟨ps, h1, h2, h3⟩ := h
  refine ⟨ps, h1, h2, fun z x hx => ?_⟩
  obtain ⟨b, e1, e2⟩ := h3 z x hx
  exact ⟨b, e1, e _ _ e2⟩
/-- what stands there is the object o -/
def OR (K : PySem.W.Frag) (F : Hp) (a : Addr) (u : HO) : MO → Prop
  | .lst ws => ∃ vs, u = .lst vs ∧ RWs K F vs ws
  | .src b => ∃ vs, u = .lst vs ∧ SrcV K F b vs
  | .dK kw => ∃ kv, u = .dK kv ∧ PrR K F kv kw
  | .dT kw => ∃ xs : List DU1, u = DU a xs ∧ KeysU K F a xs ∧ xs.map (·.1) = kw.map (fun x => keyN x.1) ∧ (∀ x ∈ kw, keyOk x.1 = true) ∧ RWs K F (xs.map (·.2.2)) (kw.map (·.2))
  | .ins C dx fw => ∃ fv, u = .ins C dx fv ∧ PrR K F fv fw
  | .exc C dd => u = CgO (.ref C) dd a
  | .lkK ob kv kw => u = .frz ob (.dK kv) ∧ PrR K F kv kw
  | .tab q => TabO F u q
theorem OR.mono {K : PySem.W.Frag} {F F' : Hp} (e : Same F F') {a : Addr} {u : HO} {o : MO} (h : OR K F a u o) : OR K F' a u o := by
  cases o with
  | lst ws =>
    obtain ⟨vs, h1, h2⟩ := h
    exact ⟨vs, h1, h2.mono e⟩
  | src b =>
    obtain ⟨vs, h1, h2⟩ := h
    exact ⟨vs, h1, h2.mono e⟩
  | dK kw =>
    obtain ⟨vs, h1, h2⟩ := h
    exact ⟨vs, h1, h2.mono e⟩
  | dT kw =>
    obtain ⟨vs, h1, h2, h3, h4, h5⟩ := h
    exact ⟨vs, h1, h2.mono e, h3, h4, h5.mono e⟩
  | ins C dx fw =>
    obtain ⟨vs, h1, h2⟩ := h
    exact ⟨vs, h1, h2.mono e⟩
  | exc C dd => exact h
  | lkK ob kv kw => exact ⟨h.1, h.2.mono e⟩
  | tab q => exact TabO.mono e h
/-- F: what is data for good; M: what may change; H: what stands there -/
structure Rl (K : PySem.W.Frag) (F H : Hp) (M : Mem) : Prop where
  fh : Same F H
  mf : ∀ a o, M a = some o → F a = none
  at_ : ∀ a o, M a = some o → ∃ u, H a = some u ∧ OR K F a u o
/-- from one state to a later one: what is neither data nor told by M stays as it is -/
structure Gr (F H : Hp) (M : Mem) (F' H' : Hp) (M' : Mem) : Prop where
  ff : Same F F'
  un : ∀ b u, H b = some u → M b = none → H' b = some u ∧ M' b = none
  nf : ∀ b u, H b = some u → M b = none → F b = none → F' b = none
theorem Gr.refl {F H : Hp} {M : Mem} : Gr F H M F H M := ⟨Same.refl _, fun _ _ h n => ⟨h, n⟩, fun _ _ _ _ h => h⟩
theorem Gr.trans {F H F1 H1 F2 H2 : Hp} {M M1 M2 : Mem} (a : Gr F H M F1 H1 M1) (b : Gr F1 H1 M1 F2 H2 M2) : Gr F H M F2 H2 M2 :=
  ⟨a.ff.trans b.ff, fun c u h n => b.un c u (a.un c u h n).1 (a.un c u h n).2, fun c u h n f => b.nf c u (a.un c u h n).1 (a.un c u h n).2 (a.nf c u h n f)⟩
section
variable {K : PySem.W.Frag} {F H : Hp} {M : Mem}
theorem Rl.there (h : Rl K F H M) {a : Addr} {o : MO} (e : M a = some o) : ∃ u, H a = some u := by
  obtain ⟨u, h1, _⟩ := h.at_ a o e
  exact ⟨u, h1⟩
theorem Rl.new (h : Rl K F H M) {p : Addr} (e : H p = none) : M p = none := by
  cases c : M p with
  | none => rfl
  | some o =>
    obtain ⟨u, h1, _⟩ := h.at_ p o c
    rw [e] at h1
    cases h1
theorem Rl.step (h : Rl K F H M) {F' H' : Hp} (ff : Same F F') (fh : Same F' H') (hm : ∀ a o, M a = some o → H' a = H a ∧ F' a = none) : Rl K F' H' M :=
  ⟨fh, fun a o e => (hm a o e).2, fun a o e => by
    obtain ⟨u, h1, h2⟩ := h.at_ a o e
    exact ⟨u, by rw [(hm a o e).1]; exact h1, h2.mono ff⟩⟩
/-- the heap grows by what nobody tells of -/
theorem Rl.same (h : Rl K F H M) {H' : Hp} (e : Same H H') : Rl K F H' M ∧ Gr F H M F H' M := by
  refine ⟨h.step (Same.refl _) (h.fh.trans e) fun a o c => ?_, Same.refl _, fun b u c n => ⟨e b u c, n⟩, fun _ _ _ _ f => f⟩
  obtain ⟨u, hu⟩ := h.there c
  exact ⟨by rw [hu]; exact e a u hu, h.mf a o c⟩
/-- a new thing that stays as it is -/
theorem Rl.fresh (h : Rl K F H M) {p : Addr} {u : HO} (e : H p = none) : Rl K (upd F p u) (upd H p u) M ∧ Gr F H M (upd F p u) (upd H p u) M := by
  have g := Gw.new (o := u) h.fh e
  refine ⟨h.step g.ff g.fh fun a o c => ?_, g.ff, fun b v c n => ⟨g.hh b v c, n⟩, fun b v c n f => ?_⟩
  · obtain ⟨v, hv⟩ := h.there c
    have n : a ≠ p := ne_of_none hv e
    exact ⟨upd_ne n, by rw [upd_ne n]; exact h.mf a o c⟩
  · rw [upd_ne (ne_of_none c e)]
    exact f
/-- a new object that may change -/
theorem Rl.born (h : Rl K F H M) {p : Addr} {u : HO} {o : MO} (e : H p = none) (r : OR K F p u o) : Rl K F (upd H p u) (mset M p o) ∧ Gr F H M F (upd H p u) (mset M p o) := by
  have fp := h.fh.free e
  refine ⟨⟨same_mut h.fh fp, fun a o' c => ?_, fun a o' c => ?_⟩, Same.refl _, fun b v c n => ?_, fun _ _ _ _ f => f⟩
  · by_cases z : a = p
    · rw [z]; exact fp
    · rw [mset_ne z] at c; exact h.mf a o' c
  · by_cases z : a = p
    · subst z
      rw [mset_same] at c
      cases c
      exact ⟨u, upd_same, r⟩
    · rw [mset_ne z] at c
      rw [upd_ne z]
      exact h.at_ a o' c
  · have z : b ≠ p := ne_of_none c e
    rw [upd_ne z, mset_ne z]
    exact ⟨c, n⟩
/-- an object changes -/
theorem Rl.put (h : Rl K F H M) {p : Addr} {u : HO} {o o' : MO} (e : M p = some o') (r : OR K F p u o) : Rl K F (upd H p u) (mset M p o) ∧ Gr F H M F (upd H p u) (mset M p o) := by
  have fp := h.mf p o' e
  refine ⟨⟨same_mut h.fh fp, fun a o' c => ?_, fun a o' c => ?_⟩, Same.refl _, fun b v c n => ?_, fun _ _ _ _ f => f⟩
  · by_cases z : a = p
    · rw [z]; exact fp
    · rw [mset_ne z] at c; exact h.mf a o' c
  · by_cases z : a = p
    · subst z
      rw [mset_same] at c
      cases c
      exact ⟨u, upd_same, r⟩
    · rw [mset_ne z] at c
      rw [upd_ne z]
      exact h.at_ a o' c
  · have z : b ≠ p := fun z => by rw [z, e] at n; cases n
    rw [upd_ne z, mset_ne z]
    exact ⟨c, n⟩
/-- a list of data is data from now on -/
theorem Rl.freeze (h : Rl K F H M) {p : Addr} {ds : List PyData} (e : M p = some (.lst (ds.map W.d))) : ∃ F', Rl K F' H (mdel M p) ∧ Gr F H M F' H (mdel M p) ∧ Dx K F' (.ref p) (.list ds) := by
  obtain ⟨_, h1, vs, rfl, h2⟩ := h.at_ p _ e
  have fp := h.mf p _ e
  have ff : Same F (upd F p (.lst vs)) := same_new fp
  have r : DxL K F vs ds := RWs.undat h2
  refine ⟨upd F p (.lst vs), ⟨fun b u q => ?_, fun a o c => ?_, fun a o c => ?_⟩, ⟨ff, fun b v c n => ⟨c, ?_⟩, fun b v c n f => ?_⟩, .lst upd_same (DxL.mono ff _ _ r)⟩
  · by_cases z : b = p
    · subst z
      rw [upd_same] at q
      rw [h1]
      exact q
    · rw [upd_ne z] at q
      exact h.fh b u q
  · have z : a ≠ p := fun z => by rw [z, mdel_same] at c; cases c
    rw [mdel_ne z] at c
    rw [upd_ne z]
    exact h.mf a o c
  · have z : a ≠ p := fun z => by rw [z, mdel_same] at c; cases c
    rw [mdel_ne z] at c
    obtain ⟨u, g1, g2⟩ := h.at_ a o c
    exact ⟨u, g1, g2.mono ff⟩
  · by_cases z : b = p
    · rw [z]; exact mdel_same
    · rw [mdel_ne z]; exact n
  · have z : b ≠ p := fun z => by rw [z, e] at n; cases n
    rw [upd_ne z]
    exact f
/-- an object that is not looked at any more -/
theorem Rl.drop (h : Rl K F H M) (p : Addr) : Rl K F H (mdel M p) ∧ Gr F H M F H (mdel M p) := by
  refine ⟨⟨h.fh, fun a o c => ?_, fun a o c => ?_⟩, Same.refl _, fun b v c n => ⟨c, ?_⟩, fun b v c n f => f⟩
  · have z : a ≠ p := fun z => by rw [z, mdel_same] at c; cases c
    rw [mdel_ne z] at c
    exact h.mf a o c
  · have z : a ≠ p := fun z => by rw [z, mdel_same] at c; cases c
    rw [mdel_ne z] at c
    exact h.at_ a o c
  · by_cases z : b = p
    · rw [z]; exact mdel_same
    · rw [mdel_ne z]; exact n
/-- the heap of a thing nobody tells of changes (an object made in between, not told by M, not data) -/
theorem Rl.hid (h : Rl K F H M) {p : Addr} {u : HO} (hf : F p = none) (hm : M p = none) : Rl K F (upd H p u) M :=
  h.step (Same.refl _) (same_mut h.fh hf) fun a o c => ⟨upd_ne (fun z => by rw [z, hm] at c; cases c), h.mf a o c⟩
end
/-! ### slots -/
@[reducible] def slot : EnvD → Nat → Option W
  | [], _ => none
  | x :: _, 0 => x
  | _ :: r, n + 1 => slot r n
@[reducible] def put : EnvD → Nat → Option W → EnvD
  | [], _, _ => []
  | _ :: r, 0, w => w :: r
  | x :: r, n + 1, w => x :: put r n w
theorem put_len : ∀ (ρ : EnvD) (i : Nat) (w : Option W), (put ρ i w).length = ρ.length
  | [], _, _ => rfl
  | _ :: r, 0, _ => rfl
  | _ :: r, n + 1, w => congrArg (· + 1) (put_len r n w)
theorem slot_put : ∀ {ρ : EnvD} {i : Nat} {w : Option W} {x : W}, slot (put ρ i w) i = some x → w = some x ∧ i < ρ.length
  | [], _, _, _, h => by cases h
  | _ :: r, 0, _, _, h => ⟨h, Nat.succ_pos _⟩
  | _ :: r, n + 1, w, x, h => by
    obtain ⟨h1, h2⟩ := slot_put (ρ := r) (i := n) h
    exact ⟨h1, Nat.succ_lt_succ h2⟩
theorem slot_put_ne : ∀ {ρ : EnvD} {i j : Nat} {w : Option W}, j ≠ i → slot (put ρ i w) j = slot ρ j
  | [], _, _, _, _ => rfl
  | _ :: r, 0, 0, _, h => absurd rfl h
  | _ :: r, 0, j + 1, _, _ => rfl
  | _ :: r, n + 1, 0, w, h => rfl
  | _ :: r, n + 1, j + 1, w, h => slot_put_ne (ρ := r) fun z => h (by rw [z])
structure RelS (K : PySem.W.Frag) (F : Hp) (σ : L2.St) (ρ : EnvD) : Prop where
  len : σ.length = ρ.length
  at_ : ∀ i x, slot ρ i = some x → ∃ v, σ[i]? = some (some v) ∧ RW K F v x
section
variable {K : PySem.W.Frag} {F F' : Hp} {σ : L2.St} {ρ : EnvD}
theorem RelS.mono (e : Same F F') (h : RelS K F σ ρ) : RelS K F' σ ρ := ⟨h.len, fun i x c => by
  obtain ⟨v, h1, h2⟩ := h.at_ i x c
  exact ⟨v, h1, h2.mono e⟩⟩
theorem RelS.set (h : RelS K F σ ρ) {v : V} {x : W} (r : RW K F v x) (i : Nat) : RelS K F (σ.set i (some v)) (put ρ i (some x)) := by
  refine ⟨by rw [List.length_set, put_len]; exact h.len, fun j y c => ?_⟩
  by_cases z : j = i
  · subst z
    obtain ⟨h1, h2⟩ := slot_put c
    cases h1
    exact ⟨v, by rw [List.getElem?_set_self (by rw [h.len]; exact h2)], r⟩
  · rw [slot_put_ne z] at c
    rw [List.getElem?_set_ne (fun q => z q.symm)]
    exact h.at_ j y c
theorem RelS.del (h : RelS K F σ ρ) (i : Nat) (w : Option V) : RelS K F (σ.set i w) (put ρ i none) := by
  refine ⟨by rw [List.length_set, put_len]; exact h.len, fun j y c => ?_⟩
  by_cases z : j = i
  · subst z
    obtain ⟨h1, h2⟩ := slot_put c
    cases h1
  · rw [slot_put_ne z] at c
    rw [List.getElem?_set_ne (fun q => z q.symm)]
    exact h.at_ j y c
end
end Tl
set_option Elab.async false
set_option linter.all false
set_option maxRecDepth 100000
set_option maxHeartbeats 4000000
/-! Readings at the second layer, and that they hold. -/
namespace Tl
open PySem L2
abbrev TDE := EnvD → Mem → (W → Mem → Prop) → Prop
abbrev TDA := EnvD → Mem → (List W → Mem → Prop) → Prop
abbrev TDT := EnvD → Mem → (Bool → Mem → Prop) → Prop
/-- a thing that is raised: its class, its fields -/
structure Ex where
  cls : Value
  fs : List (Str × PyData)
abbrev REx := Ex → EnvD → Mem → Prop
def XRel (K : PySem.W.Frag) (F : Hp) (cls : Value) (d : Option Addr) (x : Ex) : Prop := cls = x.cls ∧ FX K F d x.fs
def XOk (K : PySem.W.Frag) (F H : Hp) (M : Mem) (Wx : WX) (RE : REx) : Prop :=
  ∀ F' H' M' σ ρ cls d x, Gr F H M F' H' M' → Rl K F' H' M' → RelS K F' σ ρ → XRel K F' cls d x → RE x ρ M' → Wx cls d σ H'
theorem XOk.mono {K : PySem.W.Frag} {F H F' H' : Hp} {M M' : Mem} {Wx : WX} {RE : REx} (x : XOk K F H M Wx RE) (g : Gr F H M F' H' M') : XOk K F' H' M' Wx RE :=
  fun F2 H2 M2 σ ρ cls d e g2 => x F2 H2 M2 σ ρ cls d e (g.trans g2)
/-- what is wanted of a value, there as here -/
abbrev Kt (K : PySem.W.Frag) (F H : Hp) (M : Mem) (R : W → Mem → Prop) (Q : VK) : Prop := ∀ v H' F' M' x, Rl K F' H' M' → Gr F H M F' H' M' → RW K F' v x → R x M' → Q v H'
def SE (K : PySem.W.Frag) (Wx : WX) (RE : REx) (t : TE) (T : TDE) : Prop :=
  ∀ F H M σ ρ R Q, Rl K F H M → XOk K F H M Wx RE → RelS K F σ ρ → T ρ M R → Kt K F H M R Q → t σ H Q
def ST (K : PySem.W.Frag) (Wx : WX) (RE : REx) (t : TT) (T : TDT) : Prop :=
  ∀ F H M σ ρ (R : Bool → Mem → Prop) (Q : Bool → Hp → Prop), Rl K F H M → XOk K F H M Wx RE → RelS K F σ ρ → T ρ M R → (∀ b H' F' M', Rl K F' H' M' → Gr F H M F' H' M' → R b M' → Q b H') → t σ H Q
def SA (K : PySem.W.Frag) (Wx : WX) (RE : REx) (t : TA) (T : TDA) : Prop :=
  ∀ F H M σ ρ (R : List W → Mem → Prop) (Q : List V → Hp → Prop), Rl K F H M → XOk K F H M Wx RE → RelS K F σ ρ → T ρ M R → (∀ vs H' F' M' xs, Rl K F' H' M' → Gr F H M F' H' M' → RWs K F' vs xs → R xs M' → Q vs H') → t σ H Q
abbrev F2 := W → W → Mem → (W → Mem → Prop) → Prop
abbrev FL := List W → Mem → (W → Mem → Prop) → Prop
def SO (K : PySem.W.Frag) (r : R2) (f : F2) : Prop := ∀ F H M v u x y R Q, Rl K F H M → RW K F v x → RW K F u y → f x y M R → Kt K F H M R Q → r v u H Q
def SU (K : PySem.W.Frag) (r : V → Hp → VK → Prop) (f : W → Mem → (W → Mem → Prop) → Prop) : Prop := ∀ F H M v x R Q, Rl K F H M → RW K F v x → f x M R → Kt K F H M R Q → r v H Q
def SC (K : PySem.W.Frag) (r : List V → Hp → VK → Prop) (f : FL) : Prop := ∀ F H M vs xs R Q, Rl K F H M → RWs K F vs xs → f xs M R → Kt K F H M R Q → r vs H Q
inductive gO {α : Type} (o : Option α) (k : α → Prop) : Prop where
  | mk (a : α) (h : o = some a) (q : k a) : gO o k
theorem gO_of {α : Type} {o : Option α} {k : α → Prop} (h : gO o k) : ∃ a, o = some a ∧ k a := by
  cases h with
  | mk a h q => exact ⟨a, h, q⟩
theorem gO_i {α : Type} {o : Option α} {a : α} {k : α → Prop} (h : o = some a) (q : k a) : gO o k := .mk a h q
/-! ### what a value is -/
@[reducible] def gI (x : W) (k : Int → Prop) : Prop := match x with | .d (.int a) => k a | _ => False
@[reducible] def gS (x : W) (k : Str → Prop) : Prop := match x with | .d (.str a) => k a | _ => False
@[reducible] def gB (x : W) (k : Bool → Prop) : Prop := match x with | .d (.bool a) => k a | _ => False
@[reducible] def gT (x : W) (k : List PyData → Prop) : Prop := match x with | .d (.tuple a) => k a | _ => False
@[reducible] def gD (x : W) (k : PyData → Prop) : Prop := match x with | .d a => k a | _ => False
@[reducible] def gR (x : W) (k : Addr → Prop) : Prop := match x with | .r a => k a | _ => False
theorem gI_of {x : W} {k : Int → Prop} (h : gI x k) : ∃ a, x = .d (.int a) ∧ k a := by
  unfold gI at h
  split at h
  · exact ⟨_, rfl, h⟩
  · exact h.elim
theorem gS_of {x : W} {k : Str → Prop} (h : gS x k) : ∃ a, x = .d (.str a) ∧ k a := by
  unfold gS at h
  split at h
  · exact ⟨_, rfl, h⟩
  · exact h.elim
theorem gB_of {x : W} {k : Bool → Prop} (h : gB x k) : ∃ a, x = .d (.bool a) ∧ k a := by
  unfold gB at h
  split at h
  · exact ⟨_, rfl, h⟩
  · exact h.elim
theorem gT_of {x : W} {k : List PyData → Prop} (h : gT x k) : ∃ a, x = .d (.tuple a) ∧ k a := by
  unfold gT at h
  split at h
  · exact ⟨_, rfl, h⟩
  · exact h.elim
theorem gD_of {x : W} {k : PyData → Prop} (h : gD x k) : ∃ a, x = .d a ∧ k a := by
  unfold gD at h
  split at h
  · exact ⟨_, rfl, h⟩
  · exact h.elim
theorem gR_of {x : W} {k : Addr → Prop} (h : gR x k) : ∃ a, x = .r a ∧ k a := by
  unfold gR at h
  split at h
  · exact ⟨_, rfl, h⟩
  · exact h.elim
section
variable {K : PySem.W.Frag} {F H : Hp} {M : Mem} {v : V}
theorem RW.int {a : Int} (h : RW K F v (.d (.int a))) : v = .int a := by cases h with | d h => cases h; rfl
theorem RW.str {a : Str} (h : RW K F v (.d (.str a))) : v = .str a := by cases h with | d h => cases h; rfl
theorem RW.bl {a : Bool} (h : RW K F v (.d (.bool a))) : v = .bl a := by cases h with | d h => cases h; rfl
theorem RW.non (h : RW K F v (.d .none)) : v = .non := by cases h with | d h => cases h; rfl
theorem RW.dx {x : PyData} (h : RW K F v (.d x)) : Dx K F v x := by cases h with | d h => exact h
theorem RW.ref {a : Addr} (h : RW K F v (.r a)) : v = .ref a := by cases h; rfl
theorem RW.tup {ds : List PyData} (h : RW K F v (.d (.tuple ds))) : ∃ a xs, v = .ref a ∧ SqT K F a xs ∧ DxL K F xs ds := by
  cases h with
  | d h => cases h with | tup h1 h2 => exact ⟨_, _, rfl, h1, h2⟩
theorem RW.lst {ds : List PyData} (h : RW K F v (.d (.list ds))) : ∃ a xs, v = .ref a ∧ F a = some (.lst xs) ∧ DxL K F xs ds := by
  cases h with
  | d h => cases h with | lst h1 h2 => exact ⟨_, _, rfl, h1, h2⟩
theorem Rl.lst (h : Rl K F H M) {a : Addr} {ws : List W} (e : M a = some (.lst ws)) : ∃ vs, H a = some (.lst vs) ∧ RWs K F vs ws := by
  obtain ⟨_, h1, vs, rfl, h2⟩ := h.at_ a _ e
  exact ⟨vs, h1, h2⟩
/-- a new tuple of data -/
theorem Rl.tup (h : Rl K F H M) {p : Addr} {xs : List V} {ds : List PyData} (e : H p = none) (r : DxL K F xs ds) : Rl K (upd F p (.tup xs)) (upd H p (.tup xs)) M ∧ Gr F H M (upd F p (.tup xs)) (upd H p (.tup xs)) M ∧ RW K (upd F p (.tup xs)) (.ref p) (.d (.tuple ds)) := by
  obtain ⟨h1, h2⟩ := h.fresh (u := .tup xs) e
  exact ⟨h1, h2, .d (.tup (.inl (.inl upd_same)) (DxL.mono h2.ff _ _ r))⟩
theorem Rl.list (h : Rl K F H M) {p : Addr} {xs : List V} {ds : List PyData} (e : H p = none) (r : DxL K F xs ds) : Rl K (upd F p (.lst xs)) (upd H p (.lst xs)) M ∧ Gr F H M (upd F p (.lst xs)) (upd H p (.lst xs)) M ∧ RW K (upd F p (.lst xs)) (.ref p) (.d (.list ds)) := by
  obtain ⟨h1, h2⟩ := h.fresh (u := .lst xs) e
  exact ⟨h1, h2, .d (.lst upd_same (DxL.mono h2.ff _ _ r))⟩
end
section
variable {K : PySem.W.Frag} {Wx : WX} {RE : REx}
/-! ### names, constants -/
@[reducible] def nmT (i : Nat) : TDE := fun ρ M R => match slot ρ i with | some x => R x M | none => False
@[reducible] def cT (x : W) : TDE := fun _ M R => R x M
theorem se_nm {i : Nat} : SE K Wx RE (tVar i) (nmT i) := fun F H M σ ρ R Q hr hx hs ht k => by
  unfold nmT at ht
  cases c : slot ρ i with
  | none => rw [c] at ht; exact ht.elim
  | some x =>
    rw [c] at ht
    obtain ⟨v, h1, h2⟩ := hs.at_ i x c
    exact ⟨v, h1, k v H F M x hr .refl h2 ht⟩
theorem se_int {i : Int} : SE K Wx RE (tC (.int i)) (cT (.d (.int i))) := fun F H M σ ρ R Q hr hx hs ht k => k _ H F M _ hr .refl (.d (.int i)) ht
theorem se_str {i : Str} : SE K Wx RE (tC (.str i)) (cT (.d (.str i))) := fun F H M σ ρ R Q hr hx hs ht k => k _ H F M _ hr .refl (.d (.str i)) ht
theorem se_bl {i : Bool} : SE K Wx RE (tC (.bl i)) (cT (.d (.bool i))) := fun F H M σ ρ R Q hr hx hs ht k => k _ H F M _ hr .refl (.d (.bl i)) ht
theorem se_non : SE K Wx RE (tC .non) (cT (.d .none)) := fun F H M σ ρ R Q hr hx hs ht k => k _ H F M _ hr .refl (.d .non) ht
theorem se_o {v : V} : SE K Wx RE (tC v) (cT (.o v)) := fun F H M σ ρ R Q hr hx hs ht k => k _ H F M _ hr .refl (.o v) ht
/-- a thing of the module's own that is data -/
theorem se_k {v : V} {x : PyData} (h : ∀ F, Dx K F v x) : SE K Wx RE (tC v) (cT (.d x)) := fun F H M σ ρ R Q hr hx hs ht k => k _ H F M _ hr .refl (.d (h F)) ht
/-! ### operators -/
@[reducible] def opT (f : F2) (Ta Tb : TDE) : TDE := fun ρ M R => Ta ρ M fun x M1 => Tb ρ M1 fun y M2 => f x y M2 R
@[reducible] def unT (f : W → Mem → (W → Mem → Prop) → Prop) (Ta : TDE) : TDE := fun ρ M R => Ta ρ M fun x M1 => f x M1 R
theorem se_op {r : R2} {f : F2} {ta tb : TE} {Ta Tb : TDE} (ho : SO K r f) (ha : SE K Wx RE ta Ta) (hb : SE K Wx RE tb Tb) : SE K Wx RE (tOp r ta tb) (opT f Ta Tb) := fun F H M σ ρ R Q hr hx hs ht k =>
  ha F H M σ ρ _ _ hr hx hs ht fun v H1 F1 M1 x r1 g1 rx ht1 => hb F1 H1 M1 σ ρ _ _ r1 (hx.mono g1) (hs.mono g1.ff) ht1 fun u H2 F2 M2 y r2 g2 ry ht2 =>
    ho F2 H2 M2 v u x y R Q r2 (rx.mono g2.ff) ry ht2 fun w H3 F3 M3 z r3 g3 rz hz => k w H3 F3 M3 z r3 ((g1.trans g2).trans g3) rz hz
theorem se_un {r : V → Hp → VK → Prop} {f : W → Mem → (W → Mem → Prop) → Prop} {ta : TE} {Ta : TDE} (ho : SU K r f) (ha : SE K Wx RE ta Ta) : SE K Wx RE (tUn r ta) (unT f Ta) := fun F H M σ ρ R Q hr hx hs ht k =>
  ha F H M σ ρ _ _ hr hx hs ht fun v H1 F1 M1 x r1 g1 rx ht1 => ho F1 H1 M1 v x R Q r1 rx ht1 fun w H3 F3 M3 z r3 g3 rz hz => k w H3 F3 M3 z r3 (g1.trans g3) rz hz
@[reducible] def fI (g : Int → Int → PyData) : F2 := fun x y M R => gI x fun a => gI y fun b => R (.d (g a b)) M
theorem so_I {gv : Int → Int → V} {g : Int → Int → PyData} (h : ∀ F i j, Dx K F (gv i j) (g i j)) : SO K (rI0 gv) (fI g) := fun F H M v u x y R Q hr rx ry hf k => by
  obtain ⟨a, rfl, hf1⟩ := gI_of hf
  obtain ⟨b, rfl, hf2⟩ := gI_of hf1
  exact ⟨a, b, rx.int, ry.int, k _ H F M _ hr .refl (.d (h F a b)) hf2⟩
@[reducible] def fAdd : F2 := fI fun a b => .int (a + b)
@[reducible] def fSub : F2 := fI fun a b => .int (a - b)
@[reducible] def fLe : F2 := fI fun a b => .bool (decide (a ≤ b))
@[reducible] def fGt : F2 := fI fun a b => .bool (decide (b < a))
@[reducible] def fGe : F2 := fI fun a b => .bool (decide (b ≤ a))
theorem so_add : SO K (rI0 fun i j => .int (i + j)) fAdd := so_I fun _ _ _ => .int _
theorem so_sub : SO K (rI0 fun i j => .int (i - j)) fSub := so_I fun _ _ _ => .int _
theorem so_le : SO K (rI0 fun i j => .bl (decide (i ≤ j))) fLe := so_I fun _ _ _ => .bl _
theorem so_gt : SO K (rI0 fun i j => .bl (decide (j < i))) fGt := so_I fun _ _ _ => .bl _
theorem so_ge : SO K (rI0 fun i j => .bl (decide (j ≤ i))) fGe := so_I fun _ _ _ => .bl _
@[reducible] def fNeg : W → Mem → (W → Mem → Prop) → Prop := fun x M R => gI x fun a => R (.d (.int (-a))) M
theorem su_neg : SU K (rU fun i => .int (-i)) fNeg := fun F H M v x R Q hr rx hf k => by
  obtain ⟨a, rfl, hf⟩ := gI_of hf
  exact ⟨a, rx.int, k _ H F M _ hr .refl (.d (.int _)) hf⟩
/-- texts -/
@[reducible] def fS (g : Str → Str → PyData) : F2 := fun x y M R => gS x fun a => gS y fun b => R (.d (g a b)) M
@[reducible] def fLeS : F2 := fS fun i j => .bool (!decide (j.cps.toList < i.cps.toList))
theorem so_leS : SO K (fun x y H Q => ∃ i j, x = V.str i ∧ y = V.str j ∧ Q (.bl (!decide (j.cps.toList < i.cps.toList))) H) fLeS := fun F H M v u x y R Q hr rx ry hf k => by
  obtain ⟨a, rfl, hf1⟩ := gS_of hf
  obtain ⟨b, rfl, hf2⟩ := gS_of hf1
  exact ⟨a, b, rx.str, ry.str, k _ H F M _ hr .refl (.d (.bl _)) hf2⟩
/-- one sign in a text -/
@[reducible] def gC (x : W) (k : Nat → Prop) : Prop := gS x fun a => ∃ c, a = ⟨#[c]⟩ ∧ k c
/-! ### is None -/
@[reducible] def isN : W → Option Bool
  | .d .none => some true
  | .d _ => some false
  | .r _ => some false
  | .o _ => none
  | .x _ _ _ _ => some false
@[reducible] def fIsN (neg : Bool) : F2 := fun x y M R => y = .d .none ∧ gO (isN x) fun b => R (.d (.bool (ng neg b))) M
theorem isN_of {F : Hp} {v : V} {x : W} {b : Bool} (r : RW K F v x) (h : isN x = some b) : decide (v = .non) = b := by
  cases r with
  | d r => cases r <;> (cases h; simp)
  | r a => cases h; simp
  | o v => cases h
  | x _ => cases h; simp
theorem so_isN : SO K (fun x y H Q => y = V.non ∧ Q (.bl (decide (x = .non))) H) (fIsN false) := fun F H M v u x y R Q hr rx ry hf k => by
  obtain ⟨rfl, hf⟩ := hf
  obtain ⟨b, c, hf⟩ := gO_of hf
  refine ⟨ry.non, ?_⟩
  rw [isN_of rx c]
  exact k _ H F M _ hr .refl (.d (.bl _)) hf
theorem so_notN : SO K (fun x y H Q => y = V.non ∧ Q (.bl (!decide (x = .non))) H) (fIsN true) := fun F H M v u x y R Q hr rx ry hf k => by
  obtain ⟨rfl, hf⟩ := hf
  obtain ⟨b, c, hf⟩ := gO_of hf
  refine ⟨ry.non, ?_⟩
  rw [isN_of rx c]
  exact k _ H F M _ hr .refl (.d (.bl _)) hf
/-! ### == -/
/-- a list of data that may change, or data, as data -/
@[reducible] def asD (M : Mem) (x : W) (k : PyData → Prop) : Prop := match x with
  | .d a => k a
  | .r a => ∃ ds, M a = some (.lst (ds.map W.d)) ∧ k (.list ds)
  | _ => False
theorem asD_of {F H : Hp} {M : Mem} {v : V} {x : W} {k : PyData → Prop} (hr : Rl K F H M) (r : RW K F v x) (h : asD M x k) : ∃ a F', Same F F' ∧ Same F' H ∧ Dx K F' v a ∧ k a := by
  cases x with
  | d a => exact ⟨a, F, Same.refl _, hr.fh, r.dx, h⟩
  | r a =>
    obtain ⟨ds, h1, h2⟩ := h
    obtain ⟨F', r', g', d'⟩ := hr.freeze h1
    rw [r.ref]
    exact ⟨_, F', g'.ff, r'.fh, d', h2⟩
  | o v => exact h.elim
  | x a C dd fs => exact h.elim
def eqOk (d : PyData) : Bool := !d.hasDict && SeqAt.shaped d
theorem eqOk_of {d : PyData} (h : eqOk d = true) : d.hasDict = false ∧ SeqAt.shaped d = true := by
  unfold eqOk at h
  rw [Bool.and_eq_true] at h
  exact ⟨by simpa using h.1, h.2⟩
@[reducible] def fEqD (neg : Bool) : F2 := fun x y M R => asD M x fun a => asD M y fun b => (eqOk a = true ∧ eqOk b = true) ∧ R (.d (.bool (ng neg (PyData.eqv a b)))) M
theorem so_neD : SO K (rNeD K) (fEqD true) := fun F H M v u x y R Q hr rx ry hf k => by
  obtain ⟨a, F1, e1, f1, da, hf⟩ := asD_of hr rx hf
  obtain ⟨b, F2, e2, f2, db, ⟨ha, hb⟩, hf⟩ := asD_of hr ry hf
  exact ⟨a, b, Dx.dp _ _ (Dx.mono f1 _ _ da) (eqOk_of ha).1, Dx.dp _ _ (Dx.mono f2 _ _ db) (eqOk_of hb).1, (eqOk_of ha).2, (eqOk_of hb).2, k _ H F M _ hr .refl (.d (.bl _)) hf⟩
/-- plain values: numbers, texts, truths, None -/
@[reducible] def eqS : PyData → PyData → Option Bool
  | .int a, .int b => some (decide (a = b))
  | .str a, .str b => some (decide (a = b))
  | .bool a, .bool b => some (decide (a = b))
  | .none, .none => some true
  | .none, .int _ => some false
  | .none, .str _ => some false
  | .none, .bool _ => some false
  | .int _, .none => some false
  | .str _, .none => some false
  | .bool _, .none => some false
  | .int _, .str _ => some false
  | .str _, .int _ => some false
  | .bool _, .str _ => some false
  | .str _, .bool _ => some false
  | _, _ => none
@[reducible] def fEqS (neg : Bool) : F2 := fun x y M R => gD x fun a => gD y fun b => gO (eqS a b) fun c => R (.d (.bool (ng neg c))) M
theorem eqS_of {F : Hp} {v u : V} {a b : PyData} {c : Bool} (ra : Dx K F v a) (rb : Dx K F u b) (h : eqS a b = some c) : scal v u = true ∧ decide (v = u) = c := by
  cases ra <;> cases rb <;> first | (cases h; done) | (simp only [eqS, Option.some.injEq] at h; subst h; refine ⟨rfl, ?_⟩; simp)
theorem so_eqS : SO K rEq (fEqS false) := fun F H M v u x y R Q hr rx ry hf k => by
  obtain ⟨a, rfl, hf1⟩ := gD_of hf
  obtain ⟨b, rfl, hf2⟩ := gD_of hf1
  obtain ⟨e, c, hf2⟩ := gO_of hf2
  obtain ⟨h1, h2⟩ := eqS_of rx.dx ry.dx c
  refine ⟨h1, ?_⟩
  rw [h2]
  exact k _ H F M _ hr .refl (.d (.bl _)) hf2
theorem so_neS : SO K rNe (fEqS true) := fun F H M v u x y R Q hr rx ry hf k => by
  obtain ⟨a, rfl, hf1⟩ := gD_of hf
  obtain ⟨b, rfl, hf2⟩ := gD_of hf1
  obtain ⟨e, c, hf2⟩ := gO_of hf2
  obtain ⟨h1, h2⟩ := eqS_of rx.dx ry.dx c
  refine ⟨h1, ?_⟩
  rw [h2]
  exact k _ H F M _ hr .refl (.d (.bl _)) hf2
end
end Tl
set_option Elab.async false
set_option linter.all false
set_option maxRecDepth 100000
set_option maxHeartbeats 4000000
namespace Tl
open PySem L2
section
variable {K : PySem.W.Frag} {Wx : WX} {RE : REx}
/-! ### tests -/
@[reducible] def tbT (T : TDE) : TDT := fun ρ M R => T ρ M fun x M1 => gB x fun c => R c M1
@[reducible] def andT (T U : TDT) : TDT := fun ρ M R => T ρ M fun c M1 => IfB c (U ρ M1 R) (R false M1)
@[reducible] def orT (T U : TDT) : TDT := fun ρ M R => T ρ M fun c M1 => IfB c (R true M1) (U ρ M1 R)
@[reducible] def notT (T : TDT) : TDT := fun ρ M R => T ρ M fun c M1 => R (!c) M1
@[reducible] def andV (T U : TDE) : TDE := fun ρ M R => T ρ M fun x M1 => gB x fun c => IfB c (U ρ M1 R) (R (.d (.bool false)) M1)
@[reducible] def notV (T : TDE) : TDE := fun ρ M R => T ρ M fun x M1 => gB x fun c => R (.d (.bool (!c))) M1
theorem st_val {t : TE} {T : TDE} (h : SE K Wx RE t T) : ST K Wx RE (tB t) (tbT T) := fun F H M σ ρ R Q hr hx hs ht k =>
  h F H M σ ρ _ _ hr hx hs ht fun v H1 F1 M1 x r1 g1 rx h1 => by
    obtain ⟨c, rfl, h2⟩ := gB_of h1
    exact ⟨c, rx.bl, k c H1 F1 M1 r1 g1 h2⟩
theorem st_test {t : TE} {T : TDE} (h : SE K Wx RE t T) : ST K Wx RE (tTest t) (tbT T) := fun F H M σ ρ R Q hr hx hs ht k =>
  h F H M σ ρ _ _ hr hx hs ht fun v H1 F1 M1 x r1 g1 rx h1 => by
    obtain ⟨c, rfl, h2⟩ := gB_of h1
    exact ⟨c, rx.bl, k c H1 F1 M1 r1 g1 h2⟩
theorem st_and {t u : TT} {T U : TDT} (ha : ST K Wx RE t T) (hb : ST K Wx RE u U) : ST K Wx RE (tAnd t u) (andT T U) := fun F H M σ ρ R Q hr hx hs ht k =>
  ha F H M σ ρ _ _ hr hx hs ht fun c H1 F1 M1 r1 g1 h1 => by
    have h1 := h1.ite
    by_cases hc : c = true
    · rw [if_pos hc] at h1 ⊢
      exact hb F1 H1 M1 σ ρ R Q r1 (hx.mono g1) (hs.mono g1.ff) h1 fun b H2 F2 M2 r2 g2 h2 => k b H2 F2 M2 r2 (g1.trans g2) h2
    · rw [if_neg hc] at h1 ⊢
      exact k _ H1 F1 M1 r1 g1 h1
theorem st_or {t u : TT} {T U : TDT} (ha : ST K Wx RE t T) (hb : ST K Wx RE u U) : ST K Wx RE (tOr t u) (orT T U) := fun F H M σ ρ R Q hr hx hs ht k =>
  ha F H M σ ρ _ _ hr hx hs ht fun c H1 F1 M1 r1 g1 h1 => by
    have h1 := h1.ite
    by_cases hc : c = true
    · rw [if_pos hc] at h1 ⊢
      exact k _ H1 F1 M1 r1 g1 h1
    · rw [if_neg hc] at h1 ⊢
      exact hb F1 H1 M1 σ ρ R Q r1 (hx.mono g1) (hs.mono g1.ff) h1 fun b H2 F2 M2 r2 g2 h2 => k b H2 F2 M2 r2 (g1.trans g2) h2
theorem st_not {t : TT} {T : TDT} (ha : ST K Wx RE t T) : ST K Wx RE (tNot t) (notT T) := fun F H M σ ρ R Q hr hx hs ht k =>
  ha F H M σ ρ _ _ hr hx hs ht fun c H1 F1 M1 r1 g1 h1 => k _ H1 F1 M1 r1 g1 h1
theorem se_and {t u : TE} {T U : TDE} (ha : SE K Wx RE t T) (hb : SE K Wx RE u U) : SE K Wx RE (tAndV t u) (andV T U) := fun F H M σ ρ R Q hr hx hs ht k =>
  ha F H M σ ρ _ _ hr hx hs ht fun v H1 F1 M1 x r1 g1 rx h1 => by
    obtain ⟨c, rfl, h2⟩ := gB_of h1
    refine ⟨c, rx.bl, ?_⟩
    have h2 := h2.ite
    by_cases hc : c = true
    · rw [if_pos hc] at h2 ⊢
      exact hb F1 H1 M1 σ ρ R Q r1 (hx.mono g1) (hs.mono g1.ff) h2 fun b H2 F2 M2 x r2 g2 h3 h4 => k b H2 F2 M2 x r2 (g1.trans g2) h3 h4
    · rw [if_neg hc] at h2 ⊢
      exact k _ H1 F1 M1 _ r1 g1 (.d (.bl _)) h2
theorem se_not {t : TE} {T : TDE} (ha : SE K Wx RE t T) : SE K Wx RE (tNotV t) (notV T) := fun F H M σ ρ R Q hr hx hs ht k =>
  ha F H M σ ρ _ _ hr hx hs ht fun v H1 F1 M1 x r1 g1 rx h1 => by
    obtain ⟨c, rfl, h2⟩ := gB_of h1
    exact ⟨c, rx.bl, k _ H1 F1 M1 _ r1 g1 (.d (.bl _)) h2⟩
@[reducible] def chT (f f' : F2) (Ta Tb Tc : TDE) : TDE := fun ρ M R => Ta ρ M fun x M1 => Tb ρ M1 fun y M2 => f x y M2 fun z M3 => gB z fun c => IfB c (Tc ρ M3 fun w M4 => f' y w M4 R) (R (.d (.bool false)) M3)
theorem se_chain {r r' : R2} {f f' : F2} {ta tb tc : TE} {Ta Tb Tc : TDE} (ho : SO K r f) (ho' : SO K r' f') (ha : SE K Wx RE ta Ta) (hb : SE K Wx RE tb Tb) (hc : SE K Wx RE tc Tc) : SE K Wx RE (tChain r r' ta tb tc) (chT f f' Ta Tb Tc) := fun F H M σ ρ R Q hr hx hs ht k =>
  ha F H M σ ρ _ _ hr hx hs ht fun v H1 F1 M1 x r1 g1 rx ht1 => hb F1 H1 M1 σ ρ _ _ r1 (hx.mono g1) (hs.mono g1.ff) ht1 fun u H2 F2 M2 y r2 g2 ry ht2 =>
    ho F2 H2 M2 v u x y _ _ r2 (rx.mono g2.ff) ry ht2 fun w H3 F3 M3 z r3 g3 rz hz => by
      obtain ⟨c, rfl, h2⟩ := gB_of hz
      refine ⟨c, rz.bl, ?_⟩
      have g := (g1.trans g2).trans g3
      have h2 := h2.ite
      by_cases hc' : c = true
      · rw [if_pos hc'] at h2 ⊢
        exact hc F3 H3 M3 σ ρ _ _ r3 (hx.mono g) (hs.mono g.ff) h2 fun w4 H4 F4 M4 z4 r4 g4 rz4 h4 =>
          ho' F4 H4 M4 u w4 y z4 R Q r4 (ry.mono (g3.trans g4).ff) rz4 h4 fun w5 H5 F5 M5 z5 r5 g5 rz5 h5 => k w5 H5 F5 M5 z5 r5 ((g.trans g4).trans g5) rz5 h5
      · rw [if_neg hc'] at h2 ⊢
        exact k _ H3 F3 M3 _ r3 g (.d (.bl _)) h2
/-! ### arguments, displays -/
def SAn (K : PySem.W.Frag) (Wx : WX) (RE : REx) (n : Nat) (t : TA) (T : TDA) : Prop :=
  ∀ F H M σ ρ (R : List W → Mem → Prop) (Q : List V → Hp → Prop), Rl K F H M → XOk K F H M Wx RE → RelS K F σ ρ → T ρ M R → (∀ vs H' F' M' xs, Rl K F' H' M' → Gr F H M F' H' M' → RWs K F' vs xs → xs.length = n → R xs M' → Q vs H') → t σ H Q
@[reducible] def nilA : TDA := fun _ M R => R [] M
@[reducible] def consA (T : TDE) (U : TDA) : TDA := fun ρ M R => T ρ M fun x M1 => U ρ M1 fun xs M2 => R (x :: xs) M2
theorem sa_nil : SAn K Wx RE 0 tNil nilA := fun F H M σ ρ R Q hr hx hs ht k => k [] H F M [] hr .refl .nil rfl ht
theorem sa_cons {n : Nat} {t : TE} {u : TA} {T : TDE} {U : TDA} (ha : SE K Wx RE t T) (hb : SAn K Wx RE n u U) : SAn K Wx RE (n + 1) (tCons t u) (consA T U) := fun F H M σ ρ R Q hr hx hs ht k =>
  ha F H M σ ρ _ _ hr hx hs ht fun v H1 F1 M1 x r1 g1 rx h1 => hb F1 H1 M1 σ ρ _ _ r1 (hx.mono g1) (hs.mono g1.ff) h1 fun vs H2 F2 M2 xs r2 g2 rxs hl h2 =>
    k (v :: vs) H2 F2 M2 (x :: xs) r2 (g1.trans g2) (.cons (rx.mono g2.ff) rxs) (by rw [List.length_cons, hl]) h2
/-- all of them data -/
inductive gDs (xs : List W) (k : List PyData → Prop) : Prop where
  | mk (ds : List PyData) (h : xs = ds.map W.d) (q : k ds)
theorem gDs_of {xs : List W} {k : List PyData → Prop} (h : gDs xs k) : ∃ ds, xs = ds.map W.d ∧ k ds := by
  cases h with
  | mk ds h q => exact ⟨ds, h, q⟩
theorem map_injD {α β : Type} {f : α → β} (hf : ∀ a b, f a = f b → a = b) : ∀ {xs ys : List α}, xs.map f = ys.map f → xs = ys
  | [], [], _ => rfl
  | [], _ :: _, h => by cases h
  | _ :: _, [], h => by cases h
  | x :: xs, y :: ys, h => by
    rw [List.map_cons, List.map_cons] at h
    injection h with h1 h2
    rw [hf _ _ h1, map_injD hf h2]
theorem gDs_map {ds : List PyData} {k : List PyData → Prop} : gDs (ds.map W.d) k = k ds := propext ⟨fun h => by
  obtain ⟨es, e, q⟩ := gDs_of h
  rw [map_injD (fun a b h => by injection h) e]
  exact q, fun q => .mk ds rfl q⟩
theorem gDs_n {k : List PyData → Prop} (q : k []) : gDs [] k := .mk [] rfl q
theorem gDs_c {a : PyData} {r : List W} {k : List PyData → Prop} (h : gDs r fun ds => k (a :: ds)) : gDs (.d a :: r) k := by
  obtain ⟨ds, rfl, q⟩ := gDs_of h
  exact .mk (a :: ds) rfl q
@[reducible] def tupT (T : TDA) : TDE := fun ρ M R => T ρ M fun xs M1 => gDs xs fun ds => R (.d (.tuple ds)) M1
@[reducible] def lsfT (T : TDA) : TDE := fun ρ M R => T ρ M fun xs M1 => gDs xs fun ds => R (.d (.list ds)) M1
@[reducible] def lstT (T : TDA) : TDE := fun ρ M R => T ρ M fun xs M1 => ∀ p, M1 p = none → R (.r p) (mset M1 p (.lst xs))
theorem se_tup {n : Nat} {t : TA} {T : TDA} (h : SAn K Wx RE n t T) (hn : n ≤ 1000 := by decide) : SE K Wx RE (tTup t) (tupT T) := fun F H M σ ρ R Q hr hx hs ht k =>
  h F H M σ ρ _ _ hr hx hs ht fun vs H1 F1 M1 xs r1 g1 rxs hl h1 => by
    obtain ⟨ds, rfl, h2⟩ := gDs_of h1
    refine ⟨by rw [rxs.len, hl]; exact sz1000 hn, fun p hp => ?_⟩
    obtain ⟨r2, g2, rz⟩ := r1.tup hp rxs.undat
    exact k _ _ _ _ _ r2 (g1.trans g2) rz h2
theorem se_lsf {n : Nat} {t : TA} {T : TDA} (h : SAn K Wx RE n t T) (hn : n ≤ 1000 := by decide) : SE K Wx RE (tLst t) (lsfT T) := fun F H M σ ρ R Q hr hx hs ht k =>
  h F H M σ ρ _ _ hr hx hs ht fun vs H1 F1 M1 xs r1 g1 rxs hl h1 => by
    obtain ⟨ds, rfl, h2⟩ := gDs_of h1
    refine ⟨by rw [rxs.len, hl]; exact sz1000 hn, fun p hp => ?_⟩
    obtain ⟨r2, g2, rz⟩ := r1.list hp rxs.undat
    exact k _ _ _ _ _ r2 (g1.trans g2) rz h2
theorem se_lst {n : Nat} {t : TA} {T : TDA} (h : SAn K Wx RE n t T) (hn : n ≤ 1000 := by decide) : SE K Wx RE (tLst t) (lstT T) := fun F H M σ ρ R Q hr hx hs ht k =>
  h F H M σ ρ _ _ hr hx hs ht fun vs H1 F1 M1 xs r1 g1 rxs hl h1 => by
    refine ⟨by rw [rxs.len, hl]; exact sz1000 hn, fun p hp => ?_⟩
    obtain ⟨r2, g2⟩ := r1.born (u := .lst vs) (o := .lst xs) hp ⟨vs, rfl, rxs⟩
    exact k _ _ _ _ _ r2 (g1.trans g2) (.r p) (h1 p (r1.new hp))
/-! ### items -/
/-- the items of a list, data or not -/
@[reducible] def gW (M : Mem) (x : W) (k : List W → Prop) : Prop := match x with
  | .d (.list ds) => k (ds.map W.d)
  | .r a => ∃ ws, M a = some (.lst ws) ∧ k ws
  | _ => False
theorem gW_of {F H : Hp} {M : Mem} {v : V} {x : W} {k : List W → Prop} (hr : Rl K F H M) (r : RW K F v x) (h : gW M x k) : ∃ a vs ws, v = .ref a ∧ H a = some (.lst vs) ∧ RWs K F vs ws ∧ k ws := by
  unfold gW at h
  split at h
  · obtain ⟨a, xs, rfl, h1, h2⟩ := r.lst
    exact ⟨a, xs, _, rfl, hr.fh _ _ h1, .dat h2, h⟩
  · obtain ⟨ws, h1, h2⟩ := h
    obtain ⟨vs, h3, h4⟩ := hr.lst h1
    exact ⟨_, vs, ws, r.ref, h3, h4, h2⟩
  · exact h.elim
theorem atI_map {α β : Type} (f : α → β) (xs : List α) (i : Int) : atI (xs.map f) i = (atI xs i).map f := by
  unfold atI
  rw [List.length_map]
  cases ixN xs.length i with
  | none => rfl
  | some j => simp
theorem atI_rw {F : Hp} {vs : List V} {xs : List W} {i : Int} {x : W} (r : RWs K F vs xs) (h : atI xs i = some x) : ∃ v, atI vs i = some v ∧ RW K F v x := by
  unfold atI at h ⊢
  rw [r.len]
  cases c : ixN xs.length i with
  | none => rw [c] at h; cases h
  | some j => rw [c] at h; exact r.got h
theorem atI_dx {F : Hp} {vs : List V} {ds : List PyData} {i : Int} {d : PyData} (r : DxL K F vs ds) (h : atI ds i = some d) : ∃ v, atI vs i = some v ∧ Dx K F v d := by
  unfold atI at h ⊢
  rw [r.len]
  cases c : ixN ds.length i with
  | none => rw [c] at h; cases h
  | some j => rw [c] at h; exact r.got h
@[reducible] def fIxT : F2 := fun x y M R => gT x fun ds => gI y fun i => gO (atI ds i) fun d => R (.d d) M
@[reducible] def fIxL : F2 := fun x y M R => gW M x fun ws => gI y fun i => gO (atI ws i) fun w => R w M
theorem so_ixT : SO K (rIxT K) fIxT := fun F H M v u x y R Q hr rx ry hf k => by
  obtain ⟨ds, rfl, h1⟩ := gT_of hf
  obtain ⟨i, rfl, h2⟩ := gI_of h1
  obtain ⟨d, h3, h4⟩ := gO_of h2
  obtain ⟨a, xs, rfl, h5, h6⟩ := rx.tup
  obtain ⟨w, h7, h8⟩ := atI_dx h6 h3
  exact ⟨a, xs, i, w, rfl, ry.int, same_t hr.fh h5, h7, k _ H F M _ hr .refl (.d h8) h4⟩
theorem so_ixL : SO K (rIxL K) fIxL := fun F H M v u x y R Q hr rx ry hf k => by
  obtain ⟨a, vs, ws, rfl, h1, h2, h3⟩ := gW_of hr rx hf
  obtain ⟨i, rfl, h4⟩ := gI_of h3
  obtain ⟨w, h5, h6⟩ := gO_of h4
  obtain ⟨u2, h7, h8⟩ := atI_rw h2 h5
  exact ⟨a, vs, i, u2, rfl, ry.int, SqL.of h1, h7, k _ H F M _ hr .refl h8 h6⟩
/-! ### slices -/
@[reducible] def rvF (T : TDE) : TDE := fun ρ M R => T ρ M fun x M1 => gW M1 x fun ws => gDs ws fun ds => R (.d (.list ds.reverse)) M1
theorem se_rvF {t : TE} {T : TDE} (h : SE K Wx RE t T) : SE K Wx RE (tRevL K t) (rvF T) := fun F H M σ ρ R Q hr hx hs ht k =>
  h F H M σ ρ _ _ hr hx hs ht fun v H1 F1 M1 x r1 g1 rx h1 => by
    obtain ⟨a, vs, ws, rfl, h2, h3, h4⟩ := gW_of r1 rx h1
    obtain ⟨ds, rfl, h5⟩ := gDs_of h4
    refine ⟨a, vs, rfl, SqL.of h2, fun p hp => ?_⟩
    obtain ⟨r2, g2, rz⟩ := r1.list hp h3.undat.rev
    exact k _ _ _ _ _ r2 (g1.trans g2) rz h5
/-! ### + and * of rows -/
@[reducible] def fCatT : F2 := fun x y M R => gT x fun a => gT y fun b => a.length + b.length ≤ sizeLine ∧ R (.d (.tuple (a ++ b))) M
theorem so_catT : SO K (rCatA K) fCatT := fun F H M v u x y R Q hr rx ry hf k => by
  obtain ⟨a, rfl, h1⟩ := gT_of hf
  obtain ⟨b, rfl, hz, h2⟩ := gT_of h1
  obtain ⟨p, xs, rfl, h3, h4⟩ := rx.tup
  obtain ⟨q, ys, rfl, h5, h6⟩ := ry.tup
  refine ⟨p, q, xs, ys, rfl, rfl, same_t hr.fh h3, same_t hr.fh h5, by rw [h4.len, h6.len]; exact hz, fun e => ?_, fun _ e => ?_, fun _ _ t ht => ?_⟩
  · have ea : a = [] := by
      apply List.eq_nil_of_length_eq_zero
      rw [← h4.len, e]
      rfl
    subst ea
    exact k _ H F M _ hr .refl ry h2
  · have eb : b = [] := by
      apply List.eq_nil_of_length_eq_zero
      rw [← h6.len, e]
      rfl
    subst eb
    rw [List.append_nil] at h2
    exact k _ H F M _ hr .refl rx h2
  · obtain ⟨r2, g2, rz⟩ := hr.tup ht (h4.app h6)
    exact k _ _ _ _ _ r2 g2 rz h2
/-- list + list: data -/
@[reducible] def fCatF : F2 := fun x y M R => gW M x fun a => gW M y fun b => gDs a fun a => gDs b fun b => a.length + b.length ≤ sizeLine ∧ R (.d (.list (a ++ b))) M
theorem so_catF : SO K rCat fCatF := fun F H M v u x y R Q hr rx ry hf k => by
  obtain ⟨p, vs, ws, rfl, h1, h2, h3⟩ := gW_of hr rx hf
  obtain ⟨q, us, zs, rfl, h4, h5, h6⟩ := gW_of hr ry h3
  obtain ⟨a, rfl, h7⟩ := gDs_of h6
  obtain ⟨b, rfl, hz, h8⟩ := gDs_of h7
  refine ⟨p, q, vs, us, rfl, rfl, h1, h4, by rw [h2.len, h5.len, List.length_map, List.length_map]; exact hz, fun t ht => ?_⟩
  obtain ⟨r2, g2, rz⟩ := hr.list ht (h2.undat.app h5.undat)
  exact k _ _ _ _ _ r2 g2 rz h8
end
end Tl
set_option Elab.async false
set_option linter.all false
set_option maxRecDepth 100000
set_option maxHeartbeats 4000000
namespace Tl
open PySem L2
section
variable {K : PySem.W.Frag} {Wx : WX} {RE : REx}
/-! ### built-in calls -/
@[reducible] def cbT (f : FL) (T : TDA) : TDE := fun ρ M R => T ρ M fun xs M1 => f xs M1 R
theorem se_cb {n : Nat} {r : List V → Hp → VK → Prop} {f : FL} {t : TA} {T : TDA} (ho : SC K r f) (h : SAn K Wx RE n t T) : SE K Wx RE (tCB r t) (cbT f T) := fun F H M σ ρ R Q hr hx hs ht k =>
  h F H M σ ρ _ _ hr hx hs ht fun vs H1 F1 M1 xs r1 g1 rxs hl h1 => ho F1 H1 M1 vs xs R Q r1 rxs h1 fun w H2 F2 M2 z r2 g2 rz hz => k w H2 F2 M2 z r2 (g1.trans g2) rz hz
@[reducible] def g1 (xs : List W) (k : W → Prop) : Prop := match xs with | [x] => k x | _ => False
@[reducible] def g2 (xs : List W) (k : W → W → Prop) : Prop := match xs with | [x, y] => k x y | _ => False
theorem g1_of {xs : List W} {k : W → Prop} (h : g1 xs k) : ∃ x, xs = [x] ∧ k x := by
  unfold g1 at h
  split at h
  · exact ⟨_, rfl, h⟩
  · exact h.elim
theorem g2_of {xs : List W} {k : W → W → Prop} (h : g2 xs k) : ∃ x y, xs = [x, y] ∧ k x y := by
  unfold g2 at h
  split at h
  · exact ⟨_, _, rfl, h⟩
  · exact h.elim
theorem RWs.one {F : Hp} {vs : List V} {x : W} (r : RWs K F vs [x]) : ∃ v, vs = [v] ∧ RW K F v x := by
  cases r with
  | cons a b => cases b; exact ⟨_, rfl, a⟩
theorem RWs.two {F : Hp} {vs : List V} {x y : W} (r : RWs K F vs [x, y]) : ∃ v u, vs = [v, u] ∧ RW K F v x ∧ RW K F u y := by
  cases r with
  | cons a b => cases b with | cons b c => cases c; exact ⟨_, _, rfl, a, b⟩
/-- the length of a row -/
@[reducible] def fLen : FL := fun xs M R => g1 xs fun x => match x with
  | .d (.tuple ds) => R (.d (.int ds.length)) M
  | x => gW M x fun ws => R (.d (.int ws.length)) M
theorem sc_len : SC K (fun xs H Q => ∃ p ys, xs = [V.ref p] ∧ (SqL K H p ys ∨ SqT K H p ys) ∧ Q (.int ys.length) H) fLen := fun F H M vs xs R Q hr rx hf k => by
  obtain ⟨x, rfl, h1⟩ := g1_of hf
  obtain ⟨v, rfl, r⟩ := rx.one
  have hw : (∀ ds, x ≠ .d (.tuple ds)) → gW M x (fun ws => R (.d (.int ws.length)) M) := fun hn => by
    cases x with
    | d a =>
      cases a with
      | tuple ds => exact absurd rfl (hn ds)
      | _ => exact h1
    | r a => exact h1
    | o a => exact h1
    | x a C dd fs => exact h1
  by_cases c : ∃ ds, x = .d (.tuple ds)
  · obtain ⟨ds, rfl⟩ := c
    obtain ⟨a, xs, rfl, h2, h3⟩ := r.tup
    refine ⟨a, xs, rfl, .inr (same_t hr.fh h2), ?_⟩
    rw [h3.len]
    exact k _ H F M _ hr .refl (.d (.int _)) h1
  · obtain ⟨a, us, ws, rfl, h2, h3, h4⟩ := gW_of hr r (hw fun ds e => c ⟨ds, e⟩)
    refine ⟨a, us, rfl, .inl (SqL.of h2), ?_⟩
    rw [h3.len]
    exact k _ H F M _ hr .refl (.d (.int _)) h4
@[reducible] def fLenS : FL := fun xs M R => g1 xs fun x => gS x fun z => z.length ≤ sizeLine ∧ R (.d (.int z.length)) M
theorem sc_lenS : SC K (fun xs H Q => ∃ z, xs = [V.str z] ∧ z.length ≤ sizeLine ∧ Q (.int z.length) H) fLenS := fun F H M vs xs R Q hr rx hf k => by
  obtain ⟨x, rfl, h1⟩ := g1_of hf
  obtain ⟨v, rfl, r⟩ := rx.one
  obtain ⟨z, rfl, hz, h2⟩ := gS_of h1
  exact ⟨z, by rw [r.str], hz, k _ H F M _ hr .refl (.d (.int _)) h2⟩
/-- all truths -/
inductive gBs (xs : List W) (k : List Bool → Prop) : Prop where
  | mk (bs : List Bool) (h : xs = bs.map fun b => W.d (.bool b)) (q : k bs)
theorem gBs_of {xs : List W} {k : List Bool → Prop} (h : gBs xs k) : ∃ bs : List Bool, xs = bs.map (fun b => W.d (.bool b)) ∧ k bs := by
  cases h with
  | mk bs h q => exact ⟨bs, h, q⟩
theorem gBs_map {α : Type} (g : α → Bool) {xs : List α} {k : List Bool → Prop} : gBs (xs.map fun a => W.d (.bool (g a))) k = k (xs.map g) := propext ⟨fun h => by
  obtain ⟨es, e, q⟩ := gBs_of h
  rw [show (xs.map fun a => W.d (.bool (g a))) = (xs.map g).map fun b => W.d (.bool b) by rw [List.map_map]; rfl] at e
  rw [map_injD (fun a b h => by injection h with h; injection h) e]
  exact q, fun q => .mk (xs.map g) (by rw [List.map_map]; rfl) q⟩
theorem gBs_n {k : List Bool → Prop} (q : k []) : gBs [] k := .mk [] rfl q
theorem gBs_c {x : W} {r : List W} {k : List Bool → Prop} (h : gB x fun b => gBs r fun bs => k (b :: bs)) : gBs (x :: r) k := by
  obtain ⟨a, rfl, h⟩ := gB_of h
  obtain ⟨bs, rfl, q⟩ := gBs_of h
  exact .mk (a :: bs) rfl q
inductive gIs (xs : List W) (k : List Int → Prop) : Prop where
  | mk (bs : List Int) (h : xs = bs.map fun b => W.d (.int b)) (q : k bs)
theorem gIs_of {xs : List W} {k : List Int → Prop} (h : gIs xs k) : ∃ bs : List Int, xs = bs.map (fun b => W.d (.int b)) ∧ k bs := by
  cases h with
  | mk bs h q => exact ⟨bs, h, q⟩
theorem gIs_n {k : List Int → Prop} (q : k []) : gIs [] k := .mk [] rfl q
theorem gIs_c {x : W} {r : List W} {k : List Int → Prop} (h : gI x fun b => gIs r fun bs => k (b :: bs)) : gIs (x :: r) k := by
  obtain ⟨a, rfl, h⟩ := gI_of h
  obtain ⟨bs, rfl, q⟩ := gIs_of h
  exact .mk (a :: bs) rfl q
inductive gSs (xs : List W) (k : List Str → Prop) : Prop where
  | mk (bs : List Str) (h : xs = bs.map fun b => W.d (.str b)) (q : k bs)
theorem gSs_of {xs : List W} {k : List Str → Prop} (h : gSs xs k) : ∃ bs : List Str, xs = bs.map (fun b => W.d (.str b)) ∧ k bs := by
  cases h with
  | mk bs h q => exact ⟨bs, h, q⟩
theorem gSs_map {α : Type} (g : α → Str) {xs : List α} {k : List Str → Prop} : gSs (xs.map fun a => W.d (.str (g a))) k = k (xs.map g) := propext ⟨fun h => by
  obtain ⟨es, e, q⟩ := gSs_of h
  rw [show (xs.map fun a => W.d (.str (g a))) = (xs.map g).map fun b => W.d (.str b) by rw [List.map_map]; rfl] at e
  rw [map_injD (fun a b h => by injection h with h; injection h) e]
  exact q, fun q => .mk (xs.map g) (by rw [List.map_map]; rfl) q⟩
theorem gSs_n {k : List Str → Prop} (q : k []) : gSs [] k := .mk [] rfl q
theorem gSs_c {x : W} {r : List W} {k : List Str → Prop} (h : gS x fun b => gSs r fun bs => k (b :: bs)) : gSs (x :: r) k := by
  obtain ⟨a, rfl, h⟩ := gS_of h
  obtain ⟨bs, rfl, q⟩ := gSs_of h
  exact .mk (a :: bs) rfl q
theorem rws_bl {F : Hp} : ∀ {bs : List Bool} {vs : List V}, RWs K F vs (bs.map fun b => W.d (.bool b)) → vs = bs.map V.bl
  | [], _, h => by cases h; rfl
  | b :: bs, _, h => by
    cases h with
    | cons a c => rw [rws_bl c, a.bl]; rfl
@[reducible] def fAll : FL := fun xs M R => g1 xs fun x => gW M x fun ws => gBs ws fun bs => R (.d (.bool (bs.all id))) M
theorem sc_all : SC K (rAll K) fAll := fun F H M vs xs R Q hr rx hf k => by
  obtain ⟨x, rfl, h1⟩ := g1_of hf
  obtain ⟨v, rfl, r⟩ := rx.one
  obtain ⟨a, us, ws, rfl, h2, h3, h4⟩ := gW_of hr r h1
  obtain ⟨bs, rfl, h5⟩ := gBs_of h4
  refine ⟨a, bs, rfl, ?_, k _ H F M _ hr .refl (.d (.bl _)) h5⟩
  rw [← rws_bl h3]
  exact SqL.of h2
@[reducible] def fMax2 : FL := fun xs M R => g2 xs fun x y => gI x fun i => gI y fun j => R (.d (.int (max i j))) M
theorem sc_max2 : SC K (fun xs H Q => ∃ i j, xs = [V.int i, .int j] ∧ Q (.int (if j > i then j else i)) H) fMax2 := fun F H M vs xs R Q hr rx hf k => by
  obtain ⟨x, y, rfl, h1⟩ := g2_of hf
  obtain ⟨v, u, rfl, r, r'⟩ := rx.two
  obtain ⟨i, rfl, h2⟩ := gI_of h1
  obtain ⟨j, rfl, h3⟩ := gI_of h2
  refine ⟨i, j, by rw [r.int, r'.int], ?_⟩
  rw [show (if j > i then j else i) = max i j by omega]
  exact (k _ H F M _ hr .refl (.d (.int _)) h3)
/-- tuple(..) -/
@[reducible] def fTuple : FL := fun xs M R => g1 xs fun x => match x with
  | .d (.tuple ds) => R (.d (.tuple ds)) M
  | x => gW M x fun ws => gDs ws fun ds => R (.d (.tuple ds)) M
theorem sc_tuple : SC K (fun xs H Q => ∃ p ys, xs = [V.ref p] ∧ ((SqL K H p ys ∧ ∀ l, H l = none → Q (.ref l) (upd H l (.tup ys))) ∨ (SqT K H p ys ∧ Q (.ref p) H))) fTuple := fun F H M vs xs R Q hr rx hf k => by
  obtain ⟨x, rfl, h1⟩ := g1_of hf
  obtain ⟨v, rfl, r⟩ := rx.one
  have hw : (∀ ds, x ≠ .d (.tuple ds)) → gW M x (fun ws => gDs ws fun ds => R (.d (.tuple ds)) M) := fun hn => by
    cases x with
    | d a =>
      cases a with
      | tuple ds => exact absurd rfl (hn ds)
      | _ => exact h1
    | r a => exact h1
    | o a => exact h1
    | x a C dd fs => exact h1
  by_cases c : ∃ ds, x = .d (.tuple ds)
  · obtain ⟨ds, rfl⟩ := c
    obtain ⟨a, xs, rfl, h2, h3⟩ := r.tup
    exact ⟨a, xs, rfl, .inr ⟨same_t hr.fh h2, k _ H F M _ hr .refl r h1⟩⟩
  · obtain ⟨a, us, ws, rfl, h2, h3, h4⟩ := gW_of hr r (hw fun ds e => c ⟨ds, e⟩)
    obtain ⟨ds, rfl, h5⟩ := gDs_of h4
    refine ⟨a, us, rfl, .inl ⟨SqL.of h2, fun l hl => ?_⟩⟩
    obtain ⟨r2, g2, rz⟩ := hr.tup hl h3.undat
    exact k _ _ _ _ _ r2 g2 rz h5
/-- repr: the text of data -/
def shOk (d : PyData) : Prop := d.showable = true ∧ d.depth ≤ 100 ∧ d.shown.length ≤ sizeLine
@[reducible] def isList : PyData → Bool
  | .list _ => true
  | _ => false
/-! ### isinstance -/
def tyIs (d : PyData) (n : String) : Option Bool :=
  if n = "int" then some (isInt d) else if n = "bool" then some (isBl d) else if n = "str" then some (isStr d) else if n = "tuple" then some (isTup d) else if n = "list" then some (isList d) else none
theorem kit_lst (d : PyData) : kitB (tyName d) "list" = some (isList d) := by cases d <;> (simp only [tyName, isList]; decide +kernel)
theorem tyIs_kit {d : PyData} {n : String} {b : Bool} (h : tyIs d n = some b) : kitB (tyName d) n = some b := by
  unfold tyIs at h
  split at h
  · rename_i e; subst e; rw [← h]; exact kit_int d
  · split at h
    · rename_i e; subst e; rw [← h]; exact kit_bl d
    · split at h
      · rename_i e; subst e; rw [← h]; exact kit_str d
      · split at h
        · rename_i e; subst e; rw [← h]; exact kit_tup d
        · split at h
          · rename_i e; subst e; rw [← h]; exact kit_lst d
          · cases h
theorem ty_dx {H : Hp} {v : V} {d : PyData} (h : Dx K H v d) : TyX K H v (.type (tyName d)) := by
  cases h with
  | non => exact .base .non
  | bl b => exact .base (.bl b)
  | int i => exact .base (.int i)
  | str x => exact .base (.str x)
  | lst hs _ => exact .base (.lst hs)
  | tup hs _ =>
    rcases hs with (h | ⟨o, h⟩) | ⟨o, its, n, h1, h2, _⟩
    · exact .base (.tup h)
    · exact .fTuple h
    · exact .kTuple h1 h2
  | dic h => exact .base (.dK h)
@[reducible] def fIsi : FL := fun xs M R => g2 xs fun x y => match y with
  | .o (.ty n) => (match x with
    | .d a => gO (tyIs a n) fun b => R (.d (.bool b)) M
    | .r a => ∃ ws, M a = some (.lst ws) ∧ gO (tyIs (.list []) n) fun b => R (.d (.bool b)) M
    | _ => False)
  | _ => False
theorem sc_isi : SC K (rIsi K) fIsi := fun F H M vs xs R Q hr rx hf k => by
  obtain ⟨x, y, rfl, h1⟩ := g2_of hf
  obtain ⟨v, u, rfl, r, r'⟩ := rx.two
  cases y with
  | d a => exact h1.elim
  | r a => exact h1.elim
  | x a C dd fs => exact h1.elim
  | o z =>
    cases r'
    cases u with
    | ty n =>
      cases x with
      | o a => exact h1.elim
      | x a C dd fs => exact h1.elim
      | d a =>
        obtain ⟨b, h2, h3⟩ := gO_of h1
        exact ⟨v, .ty n, _, _, b, rfl, .ty n, ty_dx (Dx.mono hr.fh _ _ r.dx), kit_ty (tyIs_kit h2), k _ H F M _ hr .refl (.d (.bl _)) h3⟩
      | r a =>
        obtain ⟨ws, h0, h2⟩ := h1
        obtain ⟨b, h3, h4⟩ := gO_of h2
        obtain ⟨us, h5, h6⟩ := hr.lst h0
        rw [r.ref]
        have hk : kitB "list" n = some b := tyIs_kit (d := .list []) h3
        exact ⟨.ref a, .ty n, .type "list", _, b, rfl, .ty n, .base (.lst h5), kit_ty hk, k _ H F M _ hr .refl (.d (.bl _)) h4⟩
    | _ => exact h1.elim
/-! ### methods of a list that may change -/
/-- a method of a list -/
def SM (K : PySem.W.Frag) (r : V → List V → Hp → VK → Prop) (f : W → List W → Mem → (W → Mem → Prop) → Prop) : Prop := ∀ F H M v vs x xs R Q, Rl K F H M → RW K F v x → RWs K F vs xs → f x xs M R → Kt K F H M R Q → r v vs H Q
@[reducible] def bmL (f : W → List W → Mem → (W → Mem → Prop) → Prop) (T : TDE) (U : TDA) : TDE := fun ρ M R => T ρ M fun x M1 => gR x fun a => (∃ ws, M1 a = some (.lst ws)) ∧ U ρ M1 fun xs M2 => f (.r a) xs M2 R
theorem se_bmL {n : Nat} {r : V → List V → Hp → VK → Prop} {f : W → List W → Mem → (W → Mem → Prop) → Prop} {to : TE} {t : TA} {T : TDE} {U : TDA} (ho : SM K r f) (h1 : SE K Wx RE to T) (h2 : SAn K Wx RE n t U) :
    SE K Wx RE (tBM K "list" r to t) (bmL f T U) := fun F H M σ ρ R Q hr hx hs ht k =>
  h1 F H M σ ρ _ _ hr hx hs ht fun v H1 F1 M1 x r1 g1 rx q1 => by
    obtain ⟨a, rfl, ⟨ws, hw⟩, q2⟩ := gR_of q1
    rw [rx.ref]
    obtain ⟨vs, h3, h4⟩ := r1.lst hw
    refine ⟨.inl ⟨rfl, _, SqL.of h3⟩, h2 F1 H1 M1 σ ρ _ _ r1 (hx.mono g1) (hs.mono g1.ff) q2 fun us H2 F2 M2 xs r2 g2 rxs hl q3 => ?_⟩
    exact ho F2 H2 M2 _ us _ xs R Q r2 (.r a) rxs q3 fun w H3 F3 M3 z r3 g3 rz hz => k w H3 F3 M3 z r3 ((g1.trans g2).trans g3) rz hz
@[reducible] def fAppend : W → List W → Mem → (W → Mem → Prop) → Prop := fun x xs M R => gR x fun a => g1 xs fun y => ∃ ws, M a = some (.lst ws) ∧ ws.length < sizeLine ∧ R (.d .none) (mset M a (.lst (ws ++ [y])))
theorem sm_append : SM K rAppend fAppend := fun F H M v vs x xs R Q hr rx rxs hf k => by
  obtain ⟨a, rfl, h1⟩ := gR_of hf
  obtain ⟨y, rfl, ws, h2, hz, h3⟩ := g1_of h1
  obtain ⟨u, rfl, ry⟩ := rxs.one
  obtain ⟨us, h4, h5⟩ := hr.lst h2
  rw [rx.ref]
  refine ⟨a, us, u, rfl, rfl, h4, by rw [h5.len]; exact hz, ?_⟩
  obtain ⟨r2, g2⟩ := hr.put (u := .lst (us ++ [u])) (o := .lst (ws ++ [y])) h2 ⟨_, rfl, h5.app (.cons ry .nil)⟩
  exact k _ _ _ _ _ r2 g2 (.d .non) h3
@[reducible] def fExtend : W → List W → Mem → (W → Mem → Prop) → Prop := fun x xs M R => gR x fun a => g1 xs fun y => ∃ ws, M a = some (.lst ws) ∧ gW M y fun zs => ws.length + zs.length ≤ sizeLine ∧ R (.d .none) (mset M a (.lst (ws ++ zs)))
theorem sm_extend : SM K rExtend fExtend := fun F H M v vs x xs R Q hr rx rxs hf k => by
  obtain ⟨a, rfl, h1⟩ := gR_of hf
  obtain ⟨y, rfl, ws, h2, h3⟩ := g1_of h1
  obtain ⟨u, rfl, ry⟩ := rxs.one
  obtain ⟨us, h4, h5⟩ := hr.lst h2
  obtain ⟨b, zv, zs, rfl, h6, h7, hz, h8⟩ := gW_of hr ry h3
  rw [rx.ref]
  refine ⟨a, b, us, zv, rfl, rfl, h4, h6, by rw [h5.len, h7.len]; exact hz, ?_⟩
  obtain ⟨r2, g2⟩ := hr.put (u := .lst (us ++ zv)) (o := .lst (ws ++ zs)) h2 ⟨_, rfl, h5.app h7⟩
  exact k _ _ _ _ _ r2 g2 (.d .non) h8
/-! ### calls of defs -/
abbrev TF := List W → Mem → (W → Mem → Prop) → (Ex → Mem → Prop) → Prop
/-- the promise of a def by the second layer -/
def spD (K : PySem.W.Frag) (n : Nat) (f : TF) : Sp := fun vs H Q E => ∃ F M ws R RX, Rl K F H M ∧ RWs K F vs ws ∧ ws.length = n ∧ f ws M R RX ∧ Kt K F H M R Q ∧
  ∀ cls d H' F' M' x, Rl K F' H' M' → Gr F H M F' H' M' → XRel K F' cls d x → RX x M' → E cls d H'
@[reducible] def callT (f : TF) (T : TDA) : TDE := fun ρ M R => T ρ M fun xs M1 => f xs M1 R fun _ _ => False
@[reducible] def callX (RE : REx) (f : TF) (T : TDA) : TDE := fun ρ M R => T ρ M fun xs M1 => f xs M1 R fun x M' => RE x ρ M'
theorem se_call {n : Nat} {f : TF} {E : XK} {t : TA} {T : TDA} (h : SAn K Wx RE n t T) : SE K Wx RE (tCall (spD K n f) [] E t) (callT f T) := fun F H M σ ρ R Q hr hx hs ht k =>
  h F H M σ ρ _ _ hr hx hs ht fun vs H1 F1 M1 xs r1 g1 rxs hl h1 => by
    show spD K n f (vs ++ []) H1 Q E
    rw [List.append_nil]
    exact ⟨F1, M1, xs, R, _, r1, rxs, hl, h1, fun w H2 F2 M2 z r2 g2 rz hz => k w H2 F2 M2 z r2 (g1.trans g2) rz hz, fun cls d H' F' M' x _ _ _ z => z.elim⟩
theorem se_callX {n : Nat} {f : TF} {t : TA} {T : TDA} (h : SAn K Wx RE n t T) : SE K Wx RE (tCallS (spD K n f) (WE Wx) t) (callX RE f T) := fun F H M σ ρ R Q hr hx hs ht k =>
  h F H M σ ρ _ _ hr hx hs ht fun vs H1 F1 M1 xs r1 g1 rxs hl h1 =>
    ⟨F1, M1, xs, R, _, r1, rxs, hl, h1, fun w H2 F2 M2 z r2 g2 rz hz => k w H2 F2 M2 z r2 (g1.trans g2) rz hz, fun cls d H' F' M' x r2 g2 xr z => hx F' H' M' σ ρ cls d x (g1.trans g2) r2 (hs.mono (g1.trans g2).ff) xr z⟩
end
end Tl
set_option Elab.async false
set_option linter.all false
set_option maxRecDepth 100000
set_option maxHeartbeats 4000000
namespace Tl
open PySem L2
/-! ### what is walked -/
/-- one turn's item: one thing as it stands, or a pair that is made for it -/
def Yd (K : PySem.W.Frag) (F H : Hp) (x : V) (H' : Hp) (row : List W) (pair : Bool) : Prop :=
  if pair = true then ∃ T v1 v2 w1 w2, row = [w1, w2] ∧ x = .ref T ∧ H T = none ∧ H' = upd H T (.tup [v1, v2]) ∧ RW K F v1 w1 ∧ RW K F v2 w2
  else ∃ w, row = [w] ∧ H' = H ∧ RW K F x w
def ItOk (K : PySem.W.Frag) (F H : Hp) (M : Mem) (J : It) (rows : List (List W)) (keep : Mem → Prop) (pair : Bool) : Prop :=
  ∃ (G : Hp → Prop) (Y : Nat → Hp → V → Hp → Prop), Walk J rows.length G Y ∧ (∀ F2 H2 M2, Rl K F2 H2 M2 → Gr F H M F2 H2 M2 → keep M2 → G H2) ∧
    ∀ i x H2 H3 F2 M2 row, rows[i]? = some row → Rl K F2 H2 M2 → Gr F H M F2 H2 M2 → keep M2 → Y i H2 x H3 → Yd K F2 H2 x H3 row pair
theorem ItOk.of {K : PySem.W.Frag} {F H : Hp} {M : Mem} {J : It} {rows : List (List W)} {keep : Mem → Prop} {pair : Bool} {n : Nat} {G : Hp → Prop} {Y : Nat → Hp → V → Hp → Prop} (wk : Walk J n G Y) (hn : rows.length = n)
    (hG : ∀ F2 H2 M2, Rl K F2 H2 M2 → Gr F H M F2 H2 M2 → keep M2 → G H2) (hY : ∀ i x H2 H3 F2 M2 row, rows[i]? = some row → Rl K F2 H2 M2 → Gr F H M F2 H2 M2 → keep M2 → Y i H2 x H3 → Yd K F2 H2 x H3 row pair) : ItOk K F H M J rows keep pair :=
  ⟨G, Y, by rw [hn]; exact wk, hG, hY⟩
abbrev TDI := EnvD → Mem → (List (List W) → (Mem → Prop) → Mem → Prop) → Prop
def SI (K : PySem.W.Frag) (Wx : WX) (RE : REx) (wi : TI) (pair : Bool) (T : TDI) : Prop :=
  ∀ F H M σ ρ (R : List (List W) → (Mem → Prop) → Mem → Prop) (Q : It → Hp → Prop), Rl K F H M → XOk K F H M Wx RE → RelS K F σ ρ → T ρ M R →
    (∀ J H' F' M' rows keep, Rl K F' H' M' → Gr F H M F' H' M' → ItOk K F' H' M' J rows keep pair → R rows keep M' → Q J H') → wi σ H Q
abbrev TDG := List W → EnvD → Mem → (EnvD → Mem → Prop) → Prop
/-- binding a turn's item: the slots vs alone are changed -/
def SG (K : PySem.W.Frag) (g : TG) (pair : Bool) (vs : List Nat) (b : TDG) : Prop :=
  ∀ F H M x H' row σ ρ (R : EnvD → Mem → Prop) (Q : L2.St → Hp → Prop), Rl K F H M → Yd K F H x H' row pair → RelS K F σ ρ → b row ρ M R →
    (∀ σ' H2 F2 M2 ρ', Rl K F2 H2 M2 → Gr F H M F2 H2 M2 → RelS K F2 σ' ρ' → (wipe σ' vs = wipe σ vs) → R ρ' M2 → Q σ' H2) → g x σ H' Q
section
variable {K : PySem.W.Frag} {Wx : WX} {RE : REx}
@[reducible] def any1 : Mem → Prop := fun _ => True
@[reducible] def rows1 (ws : List W) : List (List W) := ws.map fun w => [w]
/-- over a tuple -/
@[reducible] def itTup (T : TDE) : TDI := fun ρ M R => T ρ M fun x M1 => gT x fun ds => R (rows1 (ds.map W.d)) any1 M1
/-- over a list of data -/
@[reducible] def itLst (T : TDE) : TDI := fun ρ M R => T ρ M fun x M1 => match x with
  | .d (.list ds) => R (rows1 (ds.map W.d)) any1 M1
  | .r a => ∃ ws, M1 a = some (.lst ws) ∧ R (rows1 ws) (fun M => M a = some (.lst ws)) M1
  | _ => False
theorem rows1_get {ws : List W} {i : Nat} {row : List W} (h : (rows1 ws)[i]? = some row) : ∃ w, ws[i]? = some w ∧ row = [w] := by
  unfold rows1 at h
  rw [List.getElem?_map] at h
  obtain ⟨w, h1, h2⟩ := Option.map_eq_some_iff.mp h
  exact ⟨w, h1, h2.symm⟩
theorem si_tup {t : TE} {T : TDE} (h : SE K Wx RE t T) : SI K Wx RE (iTup K t) false (itTup T) := fun F H M σ ρ R Q hr hx hs ht k =>
  h F H M σ ρ _ _ hr hx hs ht fun v H1 F1 M1 x r1 g1 rx h1 => by
    obtain ⟨ds, rfl, h2⟩ := gT_of h1
    obtain ⟨a, xs, rfl, h3, h4⟩ := rx.tup
    refine ⟨a, rfl, ⟨xs, same_t r1.fh h3⟩, k _ H1 F1 M1 _ _ r1 g1 ?_ h2⟩
    refine ItOk.of (walk_tup (K := K) (a := a) (xs := xs)) (by unfold rows1; rw [List.length_map, List.length_map, h4.len]) (fun F2 H2 M2 r2 g2 _ => same_t (g2.ff.trans r2.fh) h3) (fun i x H2 H3 F2 M2 row hrow r2 g2 _ y => ?_)
    · obtain ⟨w, hw, rfl⟩ := rows1_get hrow
      rw [List.getElem?_map] at hw
      obtain ⟨d, hd, rfl⟩ := Option.map_eq_some_iff.mp hw
      obtain ⟨v, hv, dv⟩ := h4.got hd
      obtain ⟨rfl, hy⟩ := y
      rw [hv] at hy
      cases hy
      exact ⟨_, rfl, rfl, .d (Dx.mono g2.ff _ _ dv)⟩
theorem si_lst {t : TE} {T : TDE} (h : SE K Wx RE t T) : SI K Wx RE (iList K t) false (itLst T) := fun F H M σ ρ R Q hr hx hs ht k =>
  h F H M σ ρ _ _ hr hx hs ht fun v H1 F1 M1 x r1 g1 rx h1 => by
    cases x with
    | o a => exact h1.elim
    | x a C dd fs => exact h1.elim
    | d a =>
      cases a with
      | list ds =>
        obtain ⟨a, xs, rfl, h3, h4⟩ := rx.lst
        refine ⟨a, rfl, ⟨xs, SqL.of (r1.fh _ _ h3)⟩, k _ H1 F1 M1 _ _ r1 g1 ?_ h1⟩
        refine ItOk.of (walk_list (K := K) (a := a) (xs := xs)) (by unfold rows1; rw [List.length_map, List.length_map, h4.len]) (fun F2 H2 M2 r2 g2 _ => SqL.of ((g2.ff.trans r2.fh) _ _ h3)) (fun i x H2 H3 F2 M2 row hrow r2 g2 _ y => ?_)
        · obtain ⟨w, hw, rfl⟩ := rows1_get hrow
          rw [List.getElem?_map] at hw
          obtain ⟨d, hd, rfl⟩ := Option.map_eq_some_iff.mp hw
          obtain ⟨v, hv, dv⟩ := h4.got hd
          obtain ⟨rfl, hy⟩ := y
          rw [hv] at hy
          cases hy
          exact ⟨_, rfl, rfl, .d (Dx.mono g2.ff _ _ dv)⟩
      | _ => exact h1.elim
    | r a =>
      obtain ⟨ws, hw, h2⟩ := h1
      rw [rx.ref]
      obtain ⟨xs, h3, h4⟩ := r1.lst hw
      refine ⟨a, rfl, ⟨xs, SqL.of h3⟩, k _ H1 F1 M1 _ _ r1 g1 ?_ h2⟩
      refine ⟨fun H => ∃ vs, H a = some (.lst vs) ∧ vs.length = ws.length, fun i H x H' => H' = H ∧ ∀ vs, H a = some (.lst vs) → vs[i]? = some x, ?_, fun F2 H2 M2 r2 g2 hk => ?_, fun i x H2 H3 F2 M2 row hrow r2 g2 hk y => ?_⟩
      · have el : (rows1 ws).length = ws.length := by unfold rows1; rw [List.length_map]
        rw [el]
        refine ⟨fun i H hi ⟨vs, q1, q2⟩ => ⟨vs, vs[i]'(by omega), SqL.of q1, List.getElem?_eq_getElem _⟩, fun H ⟨vs, q1, q2⟩ => ⟨vs, SqL.of q1, by omega⟩, fun i H x H' hi ⟨vs, q1, q2⟩ y => ⟨y.1, fun us hu => y.2 us (SqL.of hu)⟩⟩
      · obtain ⟨vs, q1, q2⟩ := r2.lst hk
        exact ⟨vs, q1, q2.len⟩
      · obtain ⟨w, hw, rfl⟩ := rows1_get hrow
        obtain ⟨vs, q1, q2⟩ := r2.lst hk
        obtain ⟨v, hv, rv⟩ := q2.got hw
        obtain ⟨rfl, hy⟩ := y
        have := hy vs q1
        rw [hv] at this
        cases this
        exact ⟨_, rfl, rfl, rv⟩
/-- over a text -/
def signs (z : Str) : List W := z.cps.toList.map fun c => W.d (.str ⟨#[c]⟩)
@[reducible] def itStr (T : TDE) : TDI := fun ρ M R => T ρ M fun x M1 => gS x fun z => R (rows1 (signs z)) any1 M1
theorem si_str {t : TE} {T : TDE} (h : SE K Wx RE t T) : SI K Wx RE (iStr t) false (itStr T) := fun F H M σ ρ R Q hr hx hs ht k =>
  h F H M σ ρ _ _ hr hx hs ht fun v H1 F1 M1 x r1 g1 rx h1 => by
    obtain ⟨z, rfl, h2⟩ := gS_of h1
    refine ⟨z, rx.str, k _ H1 F1 M1 _ _ r1 g1 ?_ h2⟩
    refine ItOk.of (walk_str (z := z)) (by unfold rows1 signs; rw [List.length_map, List.length_map]; rfl) (fun F2 H2 M2 r2 g2 _ => True.intro) (fun i x H2 H3 F2 M2 row hrow r2 g2 _ y => ?_)
    · obtain ⟨w, hw, rfl⟩ := rows1_get hrow
      unfold signs at hw
      rw [List.getElem?_map] at hw
      obtain ⟨c, hc, rfl⟩ := Option.map_eq_some_iff.mp hw
      obtain ⟨rfl, c', hc', rfl⟩ := y
      rw [Array.getElem?_toList, hc'] at hc
      cases hc
      exact ⟨_, rfl, rfl, .d (.str _)⟩
/-- over a range -/
def rng (lo : Int) (n : Nat) : List W := (List.range n).map fun i => W.d (.int (lo + (i : Nat)))
def rngC (lo c : Int) (n : Nat) : List W := (List.range n).map fun i => W.d (.int (lo + (i : Nat) * c))
/-- small enough for a range -/
def Sm (i : Int) : Prop := -(2 ^ 62) ≤ i ∧ i < 2 ^ 62
theorem sm_of {i : Int} (h1 : -1000000000 ≤ i) (h2 : i ≤ 1000000000) : Sm i := ⟨by omega, by omega⟩
@[reducible] def itR1 (T : TDA) : TDI := fun ρ M R => T ρ M fun xs M1 => g1 xs fun x => gI x fun j => Sm j ∧ R (rows1 (rng 0 j.toNat)) any1 M1
@[reducible] def itR2 (T : TDA) : TDI := fun ρ M R => T ρ M fun xs M1 => g2 xs fun x y => gI x fun i => gI y fun j => (Sm i ∧ Sm j) ∧ R (rows1 (rng i (j - i).toNat)) any1 M1
theorem rng_ok {F H : Hp} {M : Mem} {lo : Int} {n : Nat} : ItOk K F H M (Itr lo n) (rows1 (rng lo n)) any1 false := by
  refine ItOk.of (walk_range (lo := lo) (n := n)) (by unfold rows1 rng; rw [List.length_map, List.length_map, List.length_range]) (fun F2 H2 M2 r2 g2 _ => True.intro) (fun i x H2 H3 F2 M2 row hrow r2 g2 _ y => ?_)
  · obtain ⟨w, hw, rfl⟩ := rows1_get hrow
    unfold rng at hw
    rw [List.getElem?_map] at hw
    obtain ⟨c, hc, rfl⟩ := Option.map_eq_some_iff.mp hw
    have e : c = i := by
      obtain ⟨h1, h2⟩ := List.getElem?_eq_some_iff.mp hc
      rw [← h2]
      simp
    subst e
    obtain ⟨rfl, rfl⟩ := y
    exact ⟨_, rfl, rfl, .d (.int _)⟩
theorem si_r1 {t : TA} {T : TDA} {n : Nat} (h : SAn K Wx RE n t T) : SI K Wx RE (iRng1 t) false (itR1 T) := fun F H M σ ρ R Q hr hx hs ht k =>
  h F H M σ ρ _ _ hr hx hs ht fun vs H1 F1 M1 xs r1 g1 rxs hl h1 => by
    obtain ⟨x, rfl, h2⟩ := g1_of h1
    obtain ⟨j, rfl, ⟨c1, c2⟩, h3⟩ := gI_of h2
    obtain ⟨v, rfl, rv⟩ := rxs.one
    exact ⟨j, by rw [rv.int], c1, c2, k _ H1 F1 M1 _ _ r1 g1 rng_ok h3⟩
theorem si_r2 {t : TA} {T : TDA} {n : Nat} (h : SAn K Wx RE n t T) : SI K Wx RE (iRng2 t) false (itR2 T) := fun F H M σ ρ R Q hr hx hs ht k =>
  h F H M σ ρ _ _ hr hx hs ht fun vs H1 F1 M1 xs r1 g1 rxs hl h1 => by
    obtain ⟨x, y, rfl, h2⟩ := g2_of h1
    obtain ⟨i, rfl, h3⟩ := gI_of h2
    obtain ⟨j, rfl, c, h4⟩ := gI_of h3
    obtain ⟨v, u, rfl, rv, ru⟩ := rxs.two
    exact ⟨i, j, by rw [rv.int, ru.int], ⟨c.1.1, c.1.2, c.2.1, c.2.2⟩, k _ H1 F1 M1 _ _ r1 g1 rng_ok h4⟩
/-- enumerate(..) -/
def enumR (n : Nat) : List W → List (List W)
  | [] => []
  | w :: r => [.d (.int (n : Nat)), w] :: enumR (n + 1) r
theorem enumR_len : ∀ (n : Nat) (ws : List W), (enumR n ws).length = ws.length
  | _, [] => rfl
  | n, w :: r => by rw [enumR, List.length_cons, enumR_len (n + 1) r, List.length_cons]
theorem enumR_get : ∀ {n : Nat} {ws : List W} {i : Nat} {row : List W}, (enumR n ws)[i]? = some row → ∃ w, ws[i]? = some w ∧ row = [.d (.int ((n + i : Nat) : Int)), w]
  | _, [], _, _, h => by simp [enumR] at h
  | n, w :: r, 0, row, h => ⟨w, rfl, by simp [enumR] at h; exact h.symm⟩
  | n, w :: r, i + 1, row, h => by
    obtain ⟨w', h1, h2⟩ := enumR_get (n := n + 1) (ws := r) (i := i) (row := row) (by simpa [enumR] using h)
    exact ⟨w', by simpa using h1, by rw [h2, show n + 1 + i = n + (i + 1) by omega]⟩
@[reducible] def itEnT (T : TDA) : TDI := fun ρ M R => T ρ M fun xs M1 => g1 xs fun x => gT x fun ds => R (enumR 0 (ds.map W.d)) any1 M1
@[reducible] def itEnL (T : TDA) : TDI := fun ρ M R => T ρ M fun xs M1 => g1 xs fun x => match x with
  | .d (.list ds) => R (enumR 0 (ds.map W.d)) any1 M1
  | .r a => ∃ ws, M1 a = some (.lst ws) ∧ R (enumR 0 ws) (fun M => M a = some (.lst ws)) M1
  | _ => False
theorem si_enT {n : Nat} {t : TA} {T : TDA} (h : SAn K Wx RE n t T) : SI K Wx RE (iEnumT K t) true (itEnT T) := fun F H M σ ρ R Q hr hx hs ht k =>
  h F H M σ ρ _ _ hr hx hs ht fun vs H1 F1 M1 xs r1 g1 rxs hl h1 => by
    obtain ⟨x, rfl, h2⟩ := g1_of h1
    obtain ⟨v, rfl, rx⟩ := rxs.one
    obtain ⟨ds, rfl, h5⟩ := gT_of h2
    obtain ⟨a, xs, rfl, h3, h4⟩ := rx.tup
    refine ⟨a, xs, rfl, same_t r1.fh h3, k _ H1 F1 M1 _ _ r1 g1 ?_ h5⟩
    refine ItOk.of (walk_enumT (K := K) (a := a) (xs := xs)) (by rw [enumR_len, List.length_map, ← h4.len]) (fun F2 H2 M2 r2 g2 _ => same_t (g2.ff.trans r2.fh) h3) (fun i x H2 H3 F2 M2 row hrow r2 g2 _ y => ?_)
    · obtain ⟨w, hw, rfl⟩ := enumR_get hrow
      rw [List.getElem?_map] at hw
      obtain ⟨d, hd, rfl⟩ := Option.map_eq_some_iff.mp hw
      obtain ⟨v, hv, dv⟩ := h4.got hd
      obtain ⟨T', x', rfl, hT, rfl, hy⟩ := y
      rw [hv] at hy
      cases hy
      refine ⟨T', _, _, _, _, rfl, rfl, hT, rfl, ?_, .d (Dx.mono g2.ff _ _ dv)⟩
      rw [Nat.zero_add]
      exact .d (.int _)
theorem si_enL {n : Nat} {t : TA} {T : TDA} (h : SAn K Wx RE n t T) : SI K Wx RE (iEnum K t) true (itEnL T) := fun F H M σ ρ R Q hr hx hs ht k =>
  h F H M σ ρ _ _ hr hx hs ht fun vs H1 F1 M1 xs r1 g1 rxs hl h1 => by
    obtain ⟨x, rfl, h2⟩ := g1_of h1
    obtain ⟨v, rfl, rx⟩ := rxs.one
    have wk : ∀ (a : Addr) (n : Nat), Walk (Ite K a) n (fun H => ∃ vs, H a = some (.lst vs) ∧ vs.length = n) (fun i H v H' => ∃ T x, v = .ref T ∧ H T = none ∧ H' = upd H T (.tup [.int (i : Nat), x]) ∧ ∀ vs, H a = some (.lst vs) → vs[i]? = some x) := fun a n =>
      ⟨fun i H hi ⟨vs, q1, q2⟩ => ⟨vs, vs[i]'(by omega), SqL.of q1, List.getElem?_eq_getElem _⟩, fun H ⟨vs, q1, q2⟩ => ⟨vs, SqL.of q1, by omega⟩, fun i H x H' hi ⟨vs, q1, q2⟩ y => by
        obtain ⟨T, x', e1, e2, e3, e4⟩ := y
        exact ⟨T, x', e1, e2, e3, fun us hu => e4 us (SqL.of hu)⟩⟩
    cases x with
    | o a => exact h2.elim
    | x a C dd fs => exact h2.elim
    | d a =>
      cases a with
      | list ds =>
        obtain ⟨a, xs, rfl, h3, h4⟩ := rx.lst
        refine ⟨a, xs, rfl, SqL.of (r1.fh _ _ h3), k _ H1 F1 M1 _ _ r1 g1 ?_ h2⟩
        refine ItOk.of (wk a ds.length) (by rw [enumR_len, List.length_map]) (fun F2 H2 M2 r2 g2 _ => ⟨xs, (g2.ff.trans r2.fh) _ _ h3, h4.len⟩) (fun i x H2 H3 F2 M2 row hrow r2 g2 _ y => ?_)
        obtain ⟨w, hw, rfl⟩ := enumR_get hrow
        rw [List.getElem?_map] at hw
        obtain ⟨d, hd, rfl⟩ := Option.map_eq_some_iff.mp hw
        obtain ⟨v, hv, dv⟩ := h4.got hd
        obtain ⟨T', x', rfl, hT, rfl, hy⟩ := y
        have := hy xs ((g2.ff.trans r2.fh) _ _ h3)
        rw [hv] at this
        cases this
        refine ⟨T', _, _, _, _, rfl, rfl, hT, rfl, ?_, .d (Dx.mono g2.ff _ _ dv)⟩
        rw [Nat.zero_add]
        exact .d (.int _)
      | _ => exact h2.elim
    | r a =>
      obtain ⟨ws, hw, h3⟩ := h2
      rw [rx.ref]
      obtain ⟨xs, h4, h5⟩ := r1.lst hw
      refine ⟨a, xs, rfl, SqL.of h4, k _ H1 F1 M1 _ _ r1 g1 ?_ h3⟩
      refine ItOk.of (wk a ws.length) (by rw [enumR_len]) (fun F2 H2 M2 r2 g2 hk => ?_) (fun i x H2 H3 F2 M2 row hrow r2 g2 hk y => ?_)
      · obtain ⟨vs, q1, q2⟩ := r2.lst hk
        exact ⟨vs, q1, q2.len⟩
      · obtain ⟨w, hw, rfl⟩ := enumR_get hrow
        obtain ⟨vs, q1, q2⟩ := r2.lst hk
        obtain ⟨v, hv, rv⟩ := q2.got hw
        obtain ⟨T', x', rfl, hT, rfl, hy⟩ := y
        have := hy vs q1
        rw [hv] at this
        cases this
        refine ⟨T', _, _, _, _, rfl, rfl, hT, rfl, ?_, rv⟩
        rw [Nat.zero_add]
        exact .d (.int _)
/-! ### binding -/
@[reducible] def bName (i : Nat) : TDG := fun row ρ M R => match row with | [w] => R (put ρ i (some w)) M | _ => False
theorem sg_name {i : Nat} : SG K (gName i) false [i] (bName i) := fun F H M x H' row σ ρ R Q hr hy hs hb k => by
  obtain ⟨w, rfl, rfl, rx⟩ := hy
  refine k _ _ F M _ hr .refl (hs.set rx i) ?_ hb
  show (σ.set i (some x)).set i none = σ.set i none
  rw [List.set_set]
/-- a pair that is made for the turn -/
@[reducible] def bPair (i j : Nat) : TDG := fun row ρ M R => match row with | [w1, w2] => R (put (put ρ i (some w1)) j (some w2)) M | _ => False
theorem wipe2 {σ : L2.St} {i j : Nat} {a b : Option V} : wipe ((σ.set i a).set j b) [i, j] = wipe σ [i, j] := by
  show (((σ.set i a).set j b).set j none).set i none = (σ.set j none).set i none
  rw [List.set_set]
  by_cases h : i = j
  · subst h
    rw [List.set_set, List.set_set, List.set_set]
  · rw [List.set_comm _ _ h, List.set_set]
theorem sg_pair {i j : Nat} : SG K (gTup K 2 (gCons (gName i) (gCons (gName j) gNil))) true [i, j] (bPair i j) := fun F H M x H' row σ ρ R Q hr hy hs hb k => by
  obtain ⟨T, v1, v2, w1, w2, rfl, rfl, hT, rfl, q1, q2⟩ := hy
  obtain ⟨r2, g2⟩ := hr.same (same_new (o := .tup [v1, v2]) hT)
  refine ⟨T, [v1, v2], rfl, .inl (.inl upd_same), rfl, v1, [v2], rfl, v2, [], rfl, rfl, ?_⟩
  exact k _ _ F M _ r2 g2 ((hs.set q1 i).set q2 j) wipe2 hb
/-- a tuple that stands there: two names -/
@[reducible] def bTup2 (i j : Nat) : TDG := fun row ρ M R => match row with | [w] => gT w fun ds => (match ds with | [a, b] => R (put (put ρ i (some (.d a))) j (some (.d b))) M | _ => False) | _ => False
theorem sg_tup2 {i j : Nat} : SG K (gTup K 2 (gCons (gName i) (gCons (gName j) gNil))) false [i, j] (bTup2 i j) := fun F H M x H' row σ ρ R Q hr hy hs hb k => by
  obtain ⟨w, rfl, rfl, rx⟩ := hy
  obtain ⟨ds, rfl, h1⟩ := gT_of hb
  obtain ⟨a, xs, rfl, h2, h3⟩ := rx.tup
  split at h1
  · rename_i c d
    cases h3 with
    | cons q1 h3 =>
    cases h3 with
    | cons q2 h3 =>
    cases h3
    refine ⟨a, _, rfl, same_t hr.fh h2, rfl, _, _, rfl, _, [], rfl, rfl, ?_⟩
    exact k _ _ F M _ hr .refl ((hs.set (.d q1) i).set (.d q2) j) wipe2 h1
  · exact h1.elim
/-! ### list comprehensions -/
/-- one after another; behind all the new list -/
def lcGo (b : TDG) (keep : Mem → Prop) (tt : TDT) (te : TDE) (ρ : EnvD) (fin : List W → Mem → Prop) : List (List W) → List W → Mem → Prop
  | [], acc, M => keep M ∧ fin acc M
  | row :: rest, acc, M => keep M ∧ b row ρ M fun ρ1 M1 => tt ρ1 M1 fun c M2 => IfB c (te ρ1 M2 fun y M3 => acc.length < sizeLine ∧ lcGo b keep tt te ρ fin rest (acc ++ [y]) M3) (lcGo b keep tt te ρ fin rest acc M2)
theorem wipe_wipe : ∀ (vs : List Nat) (σ : L2.St), vs.length ≤ 2 → wipe (wipe σ vs) vs = wipe σ vs
  | [], σ, _ => rfl
  | [a], σ, _ => by
    show (σ.set a none).set a none = σ.set a none
    rw [List.set_set]
  | [a, b], σ, _ => by
    show (((σ.set b none).set a none).set b none).set a none = (σ.set b none).set a none
    by_cases h : a = b
    · subst h
      rw [List.set_set, List.set_set, List.set_set]
    · rw [List.set_comm _ _ h, List.set_set, List.set_set]
  | _ :: _ :: _ :: _, _, h => by simp at h
theorem RelS.wipe {F : Hp} {σ : L2.St} {ρ : EnvD} (h : RelS K F σ ρ) : ∀ (vs : List Nat), (∀ i ∈ vs, slot ρ i = none) → RelS K F (L2.wipe σ vs) ρ
  | [], _ => h
  | v :: vs, hn => by
    have ih := h.wipe vs fun i hi => hn i (.tail _ hi)
    refine ⟨by rw [wipe_length]; exact h.len, fun i x c => ?_⟩
    obtain ⟨u, h1, h2⟩ := ih.at_ i x c
    refine ⟨u, ?_, h2⟩
    show ((L2.wipe σ vs).set v none)[i]? = _
    rw [List.getElem?_set_ne fun z => by rw [z] at hn; have := hn i (.head _); rw [c] at this; cases this]
    exact h1
/-- the slots of a comprehension's own names forgotten -/
@[reducible] def hide (ρ : EnvD) : List Nat → EnvD
  | [] => ρ
  | v :: vs => put (hide ρ vs) v none
theorem hide_rel {F : Hp} {σ : L2.St} {ρ : EnvD} (h : RelS K F σ ρ) : ∀ vs, RelS K F (L2.wipe σ vs) (hide ρ vs)
  | [] => h
  | v :: vs => (hide_rel h vs).del v none
theorem lc_core {wi : TI} {g : TG} {tt : TT} {te : TE} {vs : List Nat} {pair : Bool} {it : TDI} {b : TDG} {Tt : TDT} {Te : TDE} (hi : SI K Wx RE wi pair it) (hg : SG K g pair vs b) (ht : ST K (fun _ _ _ _ => False) (fun _ _ _ => False) tt Tt) (he : SE K (fun _ _ _ _ => False) (fun _ _ _ => False) te Te) (hv : vs.length ≤ 2)
    (fin : (W → Mem → Prop) → List W → Mem → Prop)
    (hf : ∀ F H M R Q D acc vl, Rl K F H M → H D = some (.lst vl) → F D = none → M D = none → RWs K F vl acc → fin R acc M → (∀ F0 H0 M0, Gr F0 H0 M0 F H M → H0 D = none → Kt K F0 H0 M0 R Q → Q (.ref D) H)) :
    SE K Wx RE (tLc wi g tt te vs) (fun ρ M R => it ρ M fun rows keep M1 => lcGo b keep Tt Te (hide ρ vs) (fin R) rows [] M1) := fun F H M σ ρ R Q hr hx hs hT k =>
  hi F H M σ ρ _ _ hr hx hs hT fun J H1 F1 M1 rows keep r1 g1 iok h1 D hD => by
    obtain ⟨G, Y, wk, hG, hY⟩ := iok
    have x0 : ∀ (F H : Hp) (M : Mem), XOk K F H M (fun _ _ _ _ => False) (fun _ _ _ => False) := fun F H M F' H' M' σ ρ cls d x _ _ _ _ z => z
    refine lc_it wk (fun i H2 => ∃ F2 M2 acc vl, Rl K F2 H2 M2 ∧ Gr F1 H1 M1 F2 H2 M2 ∧ H2 D = some (.lst vl) ∧ F2 D = none ∧ M2 D = none ∧ RWs K F2 vl acc ∧ lcGo b keep Tt Te (hide ρ vs) (fin R) (rows.drop i) acc M2)
      ⟨F1, M1, [], [], (r1.hid (r1.fh.free hD) (r1.new hD)), ⟨Same.refl _, fun c u q n => ⟨by rw [upd_ne (ne_of_none q hD)]; exact q, n⟩, fun _ _ _ _ f => f⟩, upd_same, r1.fh.free hD, r1.new hD, .nil, h1⟩
      (fun i H2 hi2 ⟨F2, M2, acc, vl, r2, g2, d1, d2, d3, d4, q⟩ => ?_) (fun i x H2 H3 hi2 ⟨F2, M2, acc, vl, r2, g2, d1, d2, d3, d4, q⟩ y => ?_) (fun H2 ⟨F2, M2, acc, vl, r2, g2, d1, d2, d3, d4, q⟩ => ?_)
    · have hk : keep M2 := by
        cases hd : rows.drop i with
        | nil => rw [hd] at q; exact q.1
        | cons a b => rw [hd] at q; exact q.1
      exact hG F2 H2 M2 r2 g2 hk
    · rw [List.drop_eq_getElem_cons hi2] at q
      obtain ⟨hk, q⟩ := q
      have hrow : rows[i]? = some rows[i] := List.getElem?_eq_getElem hi2
      have yd := hY i x H2 H3 F2 M2 _ hrow r2 g2 hk y
      have rel := (hs.mono (g1.trans g2).ff)
      refine hg F2 H2 M2 x H3 _ (wipe σ vs) (hide ρ vs) _ _ r2 yd (hide_rel rel vs) q fun σ4 H4 F4 M4 ρ4 r4 g4 s4 w4 q4 => ⟨by rw [w4]; exact wipe_wipe vs σ hv, ?_⟩
      have D4 : H4 D = some (.lst vl) ∧ M4 D = none := g4.un D _ d1 d3
      have F4D : F4 D = none := g4.nf D _ d1 d3 d2
      refine ht F4 H4 M4 σ4 ρ4 _ _ r4 (x0 _ _ _) s4 q4 fun c H5 F5 M5 r5 g5 q5 => ?_
      have D5 := g5.un D _ D4.1 D4.2
      have F5D := g5.nf D _ D4.1 D4.2 F4D
      have q5 := q5.ite
      by_cases hc : c = true
      · rw [if_pos hc] at q5 ⊢
        refine he F5 H5 M5 σ4 ρ4 _ _ r5 (x0 _ _ _) (s4.mono g5.ff) q5 fun v6 H6 F6 M6 z6 r6 g6 rz6 q6 => ?_
        have D6 := g6.un D _ D5.1 D5.2
        have F6D := g6.nf D _ D5.1 D5.2 F5D
        have gg := ((g4.trans g5).trans g6)
        refine ⟨vl, D6.1, by rw [d4.len]; exact q6.1, F6, M6, acc ++ [z6], vl ++ [v6], r6.hid F6D D6.2, ?_, upd_same, F6D, D6.2, (d4.mono gg.ff).app (.cons rz6 .nil), q6.2⟩
        have g7 := g2.trans gg
        refine ⟨g7.ff, fun c u q n => ?_, g7.nf⟩
        have z : c ≠ D := ne_of_none q hD
        rw [upd_ne z]
        exact g7.un c u q n
      · rw [if_neg hc] at q5 ⊢
        exact ⟨F5, M5, acc, vl, r5, (g2.trans (g4.trans g5)), D5.1, F5D, D5.2, d4.mono (g4.trans g5).ff, q5⟩
    · rw [List.drop_length] at q
      exact hf F2 H2 M2 R Q D acc vl r2 d1 d2 d3 d4 q.2 F1 H1 M1 g2 hD fun v H' F' M' x a b c d => k v H' F' M' x a (g1.trans b) c d
/-- a list that is data -/
@[reducible] def lcF (it : TDI) (b : TDG) (tt : TDT) (te : TDE) (vs : List Nat) : TDE := fun ρ M R => it ρ M fun rows keep M1 => lcGo b keep tt te (hide ρ vs) (fun acc M2 => gDs acc fun ds => R (.d (.list ds)) M2) rows [] M1
/-- a list that may change -/
@[reducible] def lcL (it : TDI) (b : TDG) (tt : TDT) (te : TDE) (vs : List Nat) : TDE := fun ρ M R => it ρ M fun rows keep M1 => lcGo b keep tt te (hide ρ vs) (fun acc M2 => ∀ p, M2 p = none → R (.r p) (mset M2 p (.lst acc))) rows [] M1
theorem se_lcF {wi : TI} {g : TG} {tt : TT} {te : TE} {vs : List Nat} {pair : Bool} {it : TDI} {b : TDG} {Tt : TDT} {Te : TDE} (hi : SI K Wx RE wi pair it) (hg : SG K g pair vs b) (ht : ST K (fun _ _ _ _ => False) (fun _ _ _ => False) tt Tt) (he : SE K (fun _ _ _ _ => False) (fun _ _ _ => False) te Te) (hv : vs.length ≤ 2 := by decide) :
    SE K Wx RE (tLc wi g tt te vs) (lcF it b Tt Te vs) :=
  lc_core hi hg ht he hv (fun R acc M2 => gDs acc fun ds => R (.d (.list ds)) M2) fun F H M R Q D acc vl hr h1 h2 h3 h4 hq F0 H0 M0 g hD k => by
    obtain ⟨ds, rfl, h5⟩ := gDs_of hq
    have e : Same F (upd F D (.lst vl)) := same_new h2
    have r' : Rl K (upd F D (.lst vl)) H M := by
      refine ⟨fun b u q => ?_, fun a o c => ?_, fun a o c => ?_⟩
      · by_cases z : b = D
        · subst z
          rw [upd_same] at q
          rw [h1]
          exact q
        · rw [upd_ne z] at q
          exact hr.fh b u q
      · rw [upd_ne (fun z => by rw [z, h3] at c; cases c)]
        exact hr.mf a o c
      · obtain ⟨u, q1, q2⟩ := hr.at_ a o c
        exact ⟨u, q1, q2.mono e⟩
    refine k _ H _ M _ r' ⟨g.ff.trans e, g.un, fun b u q n f => ?_⟩ (.d (.lst upd_same (DxL.mono e _ _ h4.undat))) h5
    rw [upd_ne (ne_of_none q hD)]
    exact g.nf b u q n f
theorem se_lcL {wi : TI} {g : TG} {tt : TT} {te : TE} {vs : List Nat} {pair : Bool} {it : TDI} {b : TDG} {Tt : TDT} {Te : TDE} (hi : SI K Wx RE wi pair it) (hg : SG K g pair vs b) (ht : ST K (fun _ _ _ _ => False) (fun _ _ _ => False) tt Tt) (he : SE K (fun _ _ _ _ => False) (fun _ _ _ => False) te Te) (hv : vs.length ≤ 2 := by decide) :
    SE K Wx RE (tLc wi g tt te vs) (lcL it b Tt Te vs) :=
  lc_core hi hg ht he hv (fun R acc M2 => ∀ p, M2 p = none → R (.r p) (mset M2 p (.lst acc))) fun F H M R Q D acc vl hr h1 h2 h3 h4 hq F0 H0 M0 g hD k => by
    have r' : Rl K F H (mset M D (.lst acc)) := by
      refine ⟨hr.fh, fun a o c => ?_, fun a o c => ?_⟩
      · by_cases z : a = D
        · rw [z]; exact h2
        · rw [mset_ne z] at c; exact hr.mf a o c
      · by_cases z : a = D
        · subst z
          rw [mset_same] at c
          cases c
          exact ⟨_, h1, vl, rfl, h4⟩
        · rw [mset_ne z] at c; exact hr.at_ a o c
    refine k _ H _ _ _ r' ⟨g.ff, fun b u q n => ?_, g.nf⟩ (.r D) (hq D h3)
    rw [mset_ne (ne_of_none q hD)]
    exact g.un b u q n
end
end Tl
set_option Elab.async false
set_option linter.all false
set_option maxRecDepth 100000
set_option maxHeartbeats 4000000
namespace Tl
open PySem L2
/-! ### statements -/
structure EndD where
  nx : EnvD → Mem → Prop
  rt : W → Mem → Prop
  bk : EnvD → Mem → Prop := fun _ _ => False
  ct : EnvD → Mem → Prop := fun _ _ => False
abbrev TDS := EndD → EnvD → Mem → Prop
abbrev Nk (K : PySem.W.Frag) (F H : Hp) (M : Mem) (R : EnvD → Mem → Prop) (Q : L2.St → Hp → Prop) : Prop := ∀ σ' H' F' M' ρ', Rl K F' H' M' → Gr F H M F' H' M' → RelS K F' σ' ρ' → R ρ' M' → Q σ' H'
structure EK (K : PySem.W.Frag) (F H : Hp) (M : Mem) (D : EndD) (E : Ends) : Prop where
  nx : Nk K F H M D.nx E.nx
  rt : Kt K F H M D.rt E.rt
  bk : Nk K F H M D.bk E.bk
  ct : Nk K F H M D.ct E.ct
theorem EK.mono {K : PySem.W.Frag} {F H F' H' : Hp} {M M' : Mem} {D : EndD} {E : Ends} (k : EK K F H M D E) (g : Gr F H M F' H' M') : EK K F' H' M' D E :=
  ⟨fun σ H2 F2 M2 ρ r g2 => k.nx σ H2 F2 M2 ρ r (g.trans g2), fun v H2 F2 M2 x r g2 => k.rt v H2 F2 M2 x r (g.trans g2), fun σ H2 F2 M2 ρ r g2 => k.bk σ H2 F2 M2 ρ r (g.trans g2), fun σ H2 F2 M2 ρ r g2 => k.ct σ H2 F2 M2 ρ r (g.trans g2)⟩
def SSt (K : PySem.W.Frag) (Wx : WX) (RE : REx) (t : TS) (T : TDS) : Prop :=
  ∀ F H M σ ρ D E, Rl K F H M → XOk K F H M Wx RE → RelS K F σ ρ → T D ρ M → EK K F H M D E → t E σ H
section
variable {K : PySem.W.Frag} {Wx : WX} {RE : REx}
@[reducible] def nextS : TDS := fun D ρ M => D.nx ρ M
@[reducible] def seqS (T U : TDS) : TDS := fun D ρ M => T { D with nx := U D } ρ M
@[reducible] def retS (T : TDE) : TDS := fun D ρ M => T ρ M D.rt
@[reducible] def dropS (T : TDE) : TDS := fun D ρ M => T ρ M fun _ M1 => D.nx ρ M1
@[reducible] def ifS (c : TDT) (T U : TDS) : TDS := fun D ρ M => c ρ M fun b M1 => IfB b (T D ρ M1) (U D ρ M1)
@[reducible] def setS (i : Nat) (T : TDE) : TDS := fun D ρ M => T ρ M fun x M1 => D.nx (put ρ i (some x)) M1
theorem ss_nil : SSt K Wx RE tNext nextS := fun F H M σ ρ D E hr hx hs ht k => k.nx σ H F M ρ hr .refl hs ht
theorem ss_cons {t u : TS} {T U : TDS} (h1 : SSt K Wx RE t T) (h2 : SSt K Wx RE u U) : SSt K Wx RE (tSeq t u) (seqS T U) := fun F H M σ ρ D E hr hx hs ht k =>
  h1 F H M σ ρ { D with nx := U D } { E with nx := u E } hr hx hs ht ⟨fun σ' H' F' M' ρ' r g s q => h2 F' H' M' σ' ρ' D E r (hx.mono g) s q (k.mono g), k.rt, k.bk, k.ct⟩
theorem ss_ret {t : TE} {T : TDE} (h : SE K Wx RE t T) : SSt K Wx RE (tRet t) (retS T) := fun F H M σ ρ D E hr hx hs ht k => h F H M σ ρ _ _ hr hx hs ht k.rt
theorem ss_drop {t : TE} {T : TDE} (h : SE K Wx RE t T) : SSt K Wx RE (tDrop t) (dropS T) := fun F H M σ ρ D E hr hx hs ht k =>
  h F H M σ ρ _ _ hr hx hs ht fun v H1 F1 M1 x r1 g1 rx h1 => k.nx σ H1 F1 M1 ρ r1 g1 (hs.mono g1.ff) h1
theorem ss_if {c : TT} {t u : TS} {C : TDT} {T U : TDS} (hc : ST K Wx RE c C) (h1 : SSt K Wx RE t T) (h2 : SSt K Wx RE u U) : SSt K Wx RE (tIfS c t u) (ifS C T U) := fun F H M σ ρ D E hr hx hs ht k =>
  hc F H M σ ρ _ _ hr hx hs ht fun b H1 F1 M1 r1 g1 q1 => by
    have q1 := q1.ite
    by_cases hb : b = true
    · rw [if_pos hb] at q1 ⊢
      exact h1 F1 H1 M1 σ ρ D E r1 (hx.mono g1) (hs.mono g1.ff) q1 (k.mono g1)
    · rw [if_neg hb] at q1 ⊢
      exact h2 F1 H1 M1 σ ρ D E r1 (hx.mono g1) (hs.mono g1.ff) q1 (k.mono g1)
theorem ss_set {i : Nat} {t : TE} {T : TDE} (h : SE K Wx RE t T) : SSt K Wx RE (tAsg t (gName i)) (setS i T) := fun F H M σ ρ D E hr hx hs ht k =>
  h F H M σ ρ _ _ hr hx hs ht fun v H1 F1 M1 x r1 g1 rx h1 => k.nx _ H1 F1 M1 _ r1 g1 ((hs.mono g1.ff).set rx i) h1
/-- xs[i] = e, xs a list that may change -/
@[reducible] def setIx (T O I : TDE) : TDS := fun D ρ M => T ρ M fun y M1 => O ρ M1 fun x M2 => I ρ M2 fun i M3 => gR x fun a => gI i fun n => ∃ ws, M3 a = some (.lst ws) ∧ gO (ixN ws.length n) fun j => D.nx ρ (mset M3 a (.lst (ws.set j y)))
/-- for -/
def forGo (b : TDG) (keep : Mem → Prop) (body : TDS) (D : EndD) : List (List W) → EnvD → Mem → Prop
  | [], ρ, M => keep M ∧ D.nx ρ M
  | row :: rest, ρ, M => keep M ∧ b row ρ M fun ρ1 M1 => body ⟨forGo b keep body D rest, D.rt, D.nx, forGo b keep body D rest⟩ ρ1 M1
@[reducible] def forS (it : TDI) (b : TDG) (body : TDS) : TDS := fun D ρ M => it ρ M fun rows keep M1 => forGo b keep body D rows ρ M1
theorem ss_for {wi : TI} {g : TG} {tb : TS} {pair : Bool} {vs : List Nat} {it : TDI} {b : TDG} {Tb : TDS} (hi : SI K Wx RE wi pair it) (hg : SG K g pair vs b) (hb : SSt K Wx RE tb Tb) : SSt K Wx RE (tFor wi g tb) (forS it b Tb) := fun F H M σ ρ D E hr hx hs ht k =>
  hi F H M σ ρ _ _ hr hx hs ht fun J H1 F1 M1 rows keep r1 g1 iok h1 => by
    obtain ⟨G, Y, wk, hG, hY⟩ := iok
    refine for_it wk (fun i σ2 H2 => ∃ F2 M2 ρ2, Rl K F2 H2 M2 ∧ Gr F1 H1 M1 F2 H2 M2 ∧ RelS K F2 σ2 ρ2 ∧ forGo b keep Tb D (rows.drop i) ρ2 M2)
      ⟨F1, M1, ρ, r1, .refl, hs.mono g1.ff, h1⟩ (fun i σ2 H2 hi2 ⟨F2, M2, ρ2, r2, g2, s2, q⟩ => ?_) (fun i x σ2 H2 H3 hi2 ⟨F2, M2, ρ2, r2, g2, s2, q⟩ y => ?_) (fun σ2 H2 ⟨F2, M2, ρ2, r2, g2, s2, q⟩ => ?_)
    · have hk : keep M2 := by
        cases hd : rows.drop i with
        | nil => rw [hd] at q; exact q.1
        | cons a b => rw [hd] at q; exact q.1
      exact hG F2 H2 M2 r2 g2 hk
    · rw [List.drop_eq_getElem_cons hi2] at q
      obtain ⟨hk, q⟩ := q
      have yd := hY i x H2 H3 F2 M2 _ (List.getElem?_eq_getElem hi2) r2 g2 hk y
      refine hg F2 H2 M2 x H3 _ σ2 ρ2 _ _ r2 yd s2 q fun σ4 H4 F4 M4 ρ4 r4 g4 s4 _ q4 => ?_
      have gg := g2.trans g4
      refine hb F4 H4 M4 σ4 ρ4 _ _ r4 (hx.mono (g1.trans gg)) s4 q4 ⟨fun σ5 H5 F5 M5 ρ5 r5 g5 s5 q5 => ⟨F5, M5, ρ5, r5, gg.trans g5, s5, q5⟩, fun v H5 F5 M5 x5 r5 g5 => k.rt v H5 F5 M5 x5 r5 ((g1.trans gg).trans g5), fun σ5 H5 F5 M5 ρ5 r5 g5 => k.nx σ5 H5 F5 M5 ρ5 r5 ((g1.trans gg).trans g5), fun σ5 H5 F5 M5 ρ5 r5 g5 s5 q5 => ⟨F5, M5, ρ5, r5, gg.trans g5, s5, q5⟩⟩
    · rw [List.drop_length] at q
      exact k.nx σ2 H2 F2 M2 ρ2 r2 (g1.trans g2) s2 q.2
/-- raise -/
@[reducible] def raiseS (RE : REx) (x : Ex) : TDS := fun _ ρ M => RE x ρ M
theorem ss_raise0 {C : Addr} : SSt K Wx RE (fun _ σ H => (fun _ H Q => Q (.ref C) none H : L2.St → Hp → XK → Prop) σ H fun cls d H' => Wx cls d σ H') (raiseS RE ⟨.ref C, []⟩) := fun F H M σ ρ D E hr hx hs ht k =>
  hx F H M σ ρ _ _ ⟨.ref C, []⟩ .refl hr hs ⟨rfl, rfl⟩ ht
/-- a store xs[i] = e -/
theorem ss_setIx {t to ti : TE} {T O I : TDE} (h1 : SE K Wx RE t T) (h2 : SE K Wx RE to O) (h3 : SE K Wx RE ti I) {ts : TSet}
    (hts : ∀ {a : Addr} {vs : List V} {i : Int} {j : Nat} {y : V} {H : Hp} {Q : Hp → Prop}, H a = some (.lst vs) → ixN vs.length i = some j → Q (upd H a (.lst (vs.set j y))) → ts (.ref a) (.int i) y H Q) : SSt K Wx RE (tAsg t (gSub to ti ts)) (setIx T O I) := fun F H M σ ρ D E hr hx hs ht k =>
  h1 F H M σ ρ _ _ hr hx hs ht fun v H1 F1 M1 x r1 g1 rx q1 => h2 F1 H1 M1 σ ρ _ _ r1 (hx.mono g1) (hs.mono g1.ff) q1 fun v2 H2 F2 M2 x2 r2 g2 rx2 q2 =>
    h3 F2 H2 M2 σ ρ _ _ r2 (hx.mono (g1.trans g2)) (hs.mono (g1.trans g2).ff) q2 fun v3 H3 F3 M3 x3 r3 g3 rx3 q3 => by
      obtain ⟨a, rfl, q4⟩ := gR_of q3
      obtain ⟨n, rfl, ws, hw, q5⟩ := gI_of q4
      obtain ⟨j, hj, q6⟩ := gO_of q5
      obtain ⟨vs, e1, e2⟩ := r3.lst hw
      have rv := rx.mono (g2.trans g3).ff
      obtain ⟨r4, g4⟩ := r3.put (u := .lst (vs.set j v)) (o := .lst (ws.set j x)) hw ⟨_, rfl, e2.set rv j⟩
      have e3 := (rx2.mono g3.ff).ref
      rw [e3, rx3.int]
      refine hts e1 (by rw [e2.len]; exact hj) ?_
      have g := ((g1.trans g2).trans g3).trans g4
      exact k.nx σ _ _ _ ρ r4 g (hs.mono g.ff) q6
theorem ts_list {a : Addr} {vs : List V} {i : Int} {j : Nat} {y : V} {H : Hp} {Q : Hp → Prop} (h1 : H a = some (.lst vs)) (h2 : ixN vs.length i = some j) (q : Q (upd H a (.lst (vs.set j y)))) : ∃ p xs i' k, (V.ref a) = .ref p ∧ (V.int i) = .int i' ∧ H p = some (.lst xs) ∧ ixN xs.length i' = some k ∧ Q (upd H p (.lst (xs.set k y))) := ⟨a, vs, i, j, rfl, rfl, h1, h2, q⟩
end
/-! ### defs -/
section
variable {P : Program} {w : World} {K : PySem.W.Frag} {mg : Str → Option Value} {base : Heap}
/-- the slots as a def begins -/
@[reducible] def start0 (n : Nat) (ws : List W) : EnvD := ws.map some ++ List.replicate (n - ws.length) none
theorem slot_rep (m i : Nat) : slot (List.replicate m none) i = none := by
  induction m generalizing i with
  | zero => rfl
  | succ m ih =>
    rw [List.replicate_succ]
    cases i with
    | zero => rfl
    | succ i => exact ih i
theorem slot_start : ∀ {ws : List W} {m i : Nat} {x : W}, slot (ws.map some ++ List.replicate m none) i = some x → ws[i]? = some x
  | [], m, i, x, h => by
    rw [List.map_nil, List.nil_append, slot_rep] at h
    cases h
  | w :: ws, m, 0, x, h => h
  | w :: ws, m, i + 1, x, h => by
    have := slot_start (ws := ws) (m := m) (i := i) h
    simpa using this
theorem rel_start {F : Hp} {N : List Str} {vs : List V} {ws : List W} (r : RWs K F vs ws) : RelS K F (L2.start N vs) (start0 N.length ws) := by
  refine ⟨?_, fun i x c => ?_⟩
  · unfold L2.start start0
    rw [List.length_append, List.length_append, List.length_map, List.length_map, List.length_replicate, List.length_replicate, r.len]
  · obtain ⟨v, h1, h2⟩ := r.got (slot_start c)
    refine ⟨v, ?_, h2⟩
    unfold L2.start
    rw [List.getElem?_append_left (by rw [List.length_map]; exact (List.getElem?_eq_some_iff.mp h1).1), List.getElem?_map, h1]
    rfl
/-- what is wanted behind a def -/
abbrev endD (R : W → Mem → Prop) : EndD := ⟨fun _ M => R (.d .none) M, R, fun _ _ => False, fun _ _ => False⟩
theorem ek_def {F H : Hp} {M : Mem} {R : W → Mem → Prop} {Q : VK} (k : Kt K F H M R Q) : EK K F H M (endD R) { nx := fun _ H' => Q .non H', rt := Q } :=
  ⟨fun σ H' F' M' ρ r g s q => k _ H' F' M' _ r g (.d .non) q, k, fun _ _ _ _ _ _ _ _ z => z.elim, fun _ _ _ _ _ _ _ _ z => z.elim⟩
/-- a def that lets nothing out -/
theorem okD {f : Addr} {fd : FuncData} {k n : Nat} {x qual : Str} {st : Stmt} {N ps : List Str} {tf : TF} (F : Fun K x qual st f fd) (S : FnScope N ps (defScope st)) (hp : ps.length = n)
    (hb : ∀ (cdv : Value) (A : Around) (outer : List Env) (s : Shared) (H : Hp) (E : XK), Room k (A.deeper (PyProof.Rows.envOfC qual (defScope st) s.heap.objs.size f cdv)) →
      ∃ (t : TS) (T : TDS), PSs (cxOf CX0 P w K mg base N qual (defScope st) f cdv A outer s H E).nox (defBody st) t ∧ SSt K (fun _ _ _ _ => False) (fun _ _ _ => False) t T ∧
        ∀ ws M R RX, ws.length = n → tf ws M R RX → T (endD R) (start0 N.length ws) M) : FnOk P w K mg base CX0 (k + 1) f fd ps (spD K n tf) := by
  refine F.ok S (fun vs H Q E h => ?_) (fun cdv A outer s H vs Q E hr h => ?_)
  · obtain ⟨F0, M, ws, R, RX, r, rs, hl, _⟩ := h
    rw [rs.len, hl, hp]
  · obtain ⟨F0, M, ws, R, RX, r, rs, hl, hf, hk, _⟩ := h
    obtain ⟨t, T, h1, h2, h3⟩ := hb cdv A outer s H E hr
    refine ⟨t, h1, h2 F0 H M _ _ _ _ r (fun F' H' M' σ ρ cls d x _ _ _ _ z => z) (rel_start rs) (h3 ws M R RX hl hf) (ek_def hk)⟩
/-- a def that errors may leave -/
theorem okDX {f : Addr} {fd : FuncData} {k n : Nat} {x qual : Str} {st : Stmt} {N ps : List Str} {tf : TF} (F : Fun K x qual st f fd) (S : FnScope N ps (defScope st)) (hp : ps.length = n)
    (hb : ∀ (cdv : Value) (A : Around) (outer : List Env) (s : Shared) (H : Hp) (E : XK), Room k (A.deeper (PyProof.Rows.envOfC qual (defScope st) s.heap.objs.size f cdv)) →
      ∃ (t : TS) (T : REx → TDS), PSs (cxOf (L2.CX P w) P w K mg base N qual (defScope st) f cdv A outer s H E) (defBody st) t ∧ (∀ RE, SSt K (fun cls d _ H => E cls d H) RE t (T RE)) ∧
        ∀ ws M R RX, ws.length = n → tf ws M R RX → T (fun x _ M => RX x M) (endD R) (start0 N.length ws) M) : FnOk P w K mg base (L2.CX P w) (k + 1) f fd ps (spD K n tf) := by
  refine F.okX S (fun vs H Q E h => ?_) (fun cdv A outer s H vs Q E hr h => ?_)
  · obtain ⟨F0, M, ws, R, RX, r, rs, hl, _⟩ := h
    rw [rs.len, hl, hp]
  · obtain ⟨F0, M, ws, R, RX, r, rs, hl, hf, hk, hx⟩ := h
    obtain ⟨t, T, h1, h2, h3⟩ := hb cdv A outer s H E hr
    refine ⟨t, h1, h2 (fun x _ M => RX x M) F0 H M _ _ _ _ r (fun F' H' M' σ ρ cls d x g r' _ xr z => hx cls d H' F' M' x r' g xr z) (rel_start rs) (h3 ws M R RX hl hf) (ek_def hk)⟩
end
end Tl
set_option Elab.async false
set_option linter.all false
set_option maxRecDepth 100000
set_option maxHeartbeats 4000000
namespace Tl
open PySem L2 RZ
theorem PS.nox {X : Cx} {st : Stmt} {t : TS} (h : PS X.nox st t) : PS X st t := ⟨fun pins s σ H D I hw =>
  wpAny_mono (h.run pins s σ H D (I.wish _) hw) (fun _ _ q => q.unwish) fun _ _ z => False.elim z⟩
section
variable {K : PySem.W.Frag} {Wx : WX} {RE : REx}
@[reducible] def yesT : TDT := fun _ M R => R true M
theorem st_yes : ST K Wx RE tYes yesT := fun F H M σ ρ R Q hr hx hs ht k => k true H F M hr .refl ht
/-- zip of two rows -/
def zipR : List W → List W → List (List W)
  | a :: x, b :: y => [a, b] :: zipR x y
  | _, _ => []
theorem zipR_len : ∀ (x y : List W), (zipR x y).length = min x.length y.length
  | [], _ => by simp [zipR]
  | _ :: _, [] => by simp [zipR]
  | a :: x, b :: y => by rw [zipR, List.length_cons, zipR_len x y, List.length_cons, List.length_cons]; omega
theorem zipR_get : ∀ {x y : List W} {i : Nat} {row : List W}, (zipR x y)[i]? = some row → ∃ a b, x[i]? = some a ∧ y[i]? = some b ∧ row = [a, b]
  | [], _, _, _, h => by simp [zipR] at h
  | _ :: _, [], _, _, h => by simp [zipR] at h
  | a :: x, b :: y, 0, row, h => ⟨a, b, rfl, rfl, by simp [zipR] at h; exact h.symm⟩
  | a :: x, b :: y, i + 1, row, h => by
    obtain ⟨c, d, h1, h2, h3⟩ := zipR_get (x := x) (y := y) (i := i) (row := row) (by simpa [zipR] using h)
    exact ⟨c, d, by simpa using h1, by simpa using h2, h3⟩
/-- two tuples, or two lists of data -/
@[reducible] def itZip (T : TDA) : TDI := fun ρ M R => T ρ M fun xs M1 => g2 xs fun x y => match x, y with
  | .d (.tuple a), .d (.tuple b) => R (zipR (a.map W.d) (b.map W.d)) any1 M1
  | .d (.list a), .d (.list b) => R (zipR (a.map W.d) (b.map W.d)) any1 M1
  | .r p, .d (.list b) => ∃ ws, M1 p = some (.lst ws) ∧ R (zipR ws (b.map W.d)) (fun M => M p = some (.lst ws)) M1
  | _, _ => False
theorem walk_zipT' {a b : Addr} {xs ys : List V} {n : Nat} (hn : n = min xs.length ys.length) : Walk (ItzT K a b) n (fun H => SqT K H a xs ∧ SqT K H b ys) (YPair (fun i => xs[i]?) (fun i => ys[i]?)) := by
  subst hn
  refine ⟨fun i H hi q => ⟨xs, ys, xs[i]'(by omega), ys[i]'(by omega), q.1, q.2, List.getElem?_eq_getElem _, List.getElem?_eq_getElem _⟩, fun H q => ⟨xs, ys, q.1, q.2, by omega⟩, fun i H v H' hi q y => ?_⟩
  obtain ⟨T, x, y, h1, h2, h3, h4, h5⟩ := y
  exact ⟨T, x, y, h1, h2, h3, h4 xs q.1, h5 ys q.2⟩
theorem si_zip {n : Nat} {t : TA} {T : TDA} (h : SAn K Wx RE n t T) : SI K Wx RE (iZipA K t) true (itZip T) := fun F H M σ ρ R Q hr hx hs ht k =>
  h F H M σ ρ _ _ hr hx hs ht fun vs H1 F1 M1 xs r1 g1 rxs hl h1 => by
    obtain ⟨x, y, rfl, h2⟩ := g2_of h1
    obtain ⟨v, u, rfl, rx, ry⟩ := rxs.two
    have fin : ∀ {as bs : List PyData} {xv yv : List V} {J : It} {G : Hp → Prop}, DxL K F1 xv as → DxL K F1 yv bs → Walk J (min xv.length yv.length) G (YPair (fun i => xv[i]?) (fun i => yv[i]?)) → (∀ F2 H2 M2, Rl K F2 H2 M2 → Gr F1 H1 M1 F2 H2 M2 → G H2) →
        ItOk K F1 H1 M1 J (zipR (as.map W.d) (bs.map W.d)) any1 true := fun {as bs xv yv J G} d1 d2 wk hG => by
      refine ItOk.of wk (by rw [zipR_len, List.length_map, List.length_map, d1.len, d2.len]) (fun F2 H2 M2 r2 g2 _ => hG F2 H2 M2 r2 g2) fun i x H2 H3 F2 M2 row hrow r2 g2 _ yy => ?_
      obtain ⟨a, b, ha, hb, rfl⟩ := zipR_get hrow
      rw [List.getElem?_map] at ha hb
      obtain ⟨da, ha2, ea2⟩ := Option.map_eq_some_iff.mp ha
      obtain ⟨db, hb2, eb2⟩ := Option.map_eq_some_iff.mp hb
      subst ea2 eb2
      obtain ⟨va, ea, qa⟩ := d1.got ha2
      obtain ⟨vb, eb, qb⟩ := d2.got hb2
      obtain ⟨T', x', y', rfl, hT, rfl, hx', hy'⟩ := yy
      have hx'' : xv[i]? = some x' := hx'
      have hy'' : yv[i]? = some y' := hy'
      rw [ea] at hx''
      rw [eb] at hy''
      cases hx''
      cases hy''
      exact ⟨T', _, _, _, _, rfl, rfl, hT, rfl, .d (Dx.mono g2.ff _ _ qa), .d (Dx.mono g2.ff _ _ qb)⟩
    split at h2
    · obtain ⟨a, xv, rfl, a1, a2⟩ := rx.tup
      obtain ⟨b, yv, rfl, b1, b2⟩ := ry.tup
      refine ⟨a, b, xv, yv, rfl, .inr ⟨same_t r1.fh a1, same_t r1.fh b1, k _ H1 F1 M1 _ _ r1 g1 ?_ h2⟩⟩
      exact fin a2 b2 (walk_zipT' rfl) fun F2 H2 M2 r2 g2 => ⟨same_t (g2.ff.trans r2.fh) a1, same_t (g2.ff.trans r2.fh) b1⟩
    · obtain ⟨a, xv, rfl, a1, a2⟩ := rx.lst
      obtain ⟨b, yv, rfl, b1, b2⟩ := ry.lst
      refine ⟨a, b, xv, yv, rfl, .inl ⟨SqL.of (r1.fh _ _ a1), SqL.of (r1.fh _ _ b1), k _ H1 F1 M1 _ _ r1 g1 ?_ h2⟩⟩
      exact fin a2 b2 (walk_zip rfl) fun F2 H2 M2 r2 g2 => ⟨SqL.of ((g2.ff.trans r2.fh) _ _ a1), SqL.of ((g2.ff.trans r2.fh) _ _ b1)⟩
    · rename_i p bs
      obtain ⟨ws, hw, h3⟩ := h2
      obtain ⟨b, yv, rfl, b1, b2⟩ := ry.lst
      rw [rx.ref]
      obtain ⟨xv, e1, e2⟩ := r1.lst hw
      refine ⟨p, b, xv, yv, rfl, .inl ⟨SqL.of e1, SqL.of (r1.fh _ _ b1), k _ H1 F1 M1 _ _ r1 g1 ?_ h3⟩⟩
      refine ItOk.of (n := min ws.length yv.length) (G := fun H => (∃ vs, H p = some (.lst vs) ∧ vs.length = ws.length) ∧ SqL K H b yv) (Y := fun i H v H' => ∃ T x y, v = .ref T ∧ H T = none ∧ H' = upd H T (.tup [x, y]) ∧ (∀ vs, H p = some (.lst vs) → vs[i]? = some x) ∧ yv[i]? = some y) ?_ (by rw [zipR_len, List.length_map, b2.len]) (fun F2 H2 M2 r2 g2 hk => ?_) (fun i x H2 H3 F2 M2 row hrow r2 g2 hk yy => ?_)
      · refine ⟨fun i H hi ⟨⟨vs, q1, q2⟩, q3⟩ => ⟨vs, yv, vs[i]'(by omega), yv[i]'(by omega), SqL.of q1, q3, List.getElem?_eq_getElem _, List.getElem?_eq_getElem _⟩, fun H ⟨⟨vs, q1, q2⟩, q3⟩ => ⟨vs, yv, SqL.of q1, q3, by omega⟩, fun i H v H' hi ⟨⟨vs, q1, q2⟩, q3⟩ y => ?_⟩
        obtain ⟨T, x, y, h1, h2, h3, h4, h5⟩ := y
        exact ⟨T, x, y, h1, h2, h3, fun us hu => h4 us (SqL.of hu), h5 yv q3⟩
      · obtain ⟨vs, q1, q2⟩ := r2.lst hk
        exact ⟨⟨vs, q1, q2.len⟩, SqL.of ((g2.ff.trans r2.fh) _ _ b1)⟩
      · obtain ⟨a, b', ha, hb, rfl⟩ := zipR_get hrow
        rw [List.getElem?_map] at hb
        obtain ⟨db, hb2, eb2⟩ := Option.map_eq_some_iff.mp hb
        subst eb2
        obtain ⟨vs, q1, q2⟩ := r2.lst hk
        obtain ⟨va, ea, qa⟩ := q2.got ha
        obtain ⟨vb, eb, qb⟩ := b2.got hb2
        obtain ⟨T', x', y', rfl, hT, rfl, hx', hy'⟩ := yy
        have := hx' vs q1
        rw [ea] at this
        rw [eb] at hy'
        cases this
        cases hy'
        exact ⟨T', _, _, _, _, rfl, rfl, hT, rfl, qa, .d (Dx.mono g2.ff _ _ qb)⟩
    · exact h2.elim
/-- repr -/
@[reducible] def fRepr : FL := fun xs M R => g1 xs fun x => asD M x fun d => ((d.hasDict = false ∨ d = .dict []) ∧ shOk d) ∧ R (.d (.str d.shown)) M
theorem sc_repr : SC K (rReprD K) fRepr := fun F H M vs xs R Q hr rx hf k => by
  obtain ⟨x, rfl, h1⟩ := g1_of hf
  obtain ⟨v, rfl, r⟩ := rx.one
  obtain ⟨d, F', e1, e2, dv, ⟨hd, h2, h3, h4⟩, h5⟩ := asD_of hr r h1
  refine ⟨v, d, rfl, ?_, h2, h3, h4, k _ H F M _ hr .refl (.d (.str _)) h5⟩
  rcases hd with hd | rfl
  · exact .d (Dx.dp _ _ (Dx.mono e2 _ _ dv) hd)
  · cases dv with
    | dic h => exact .e (e2 _ _ h)
end
end Tl
set_option Elab.async false
set_option linter.all false
set_option maxRecDepth 100000
set_option maxHeartbeats 4000000
namespace Tl
open PySem L2
theorem rows1_map {α : Type} (f : α → W) (xs : List α) : rows1 (xs.map f) = xs.map fun a => [f a] := by
  unfold rows1
  rw [List.map_map]
  rfl
section
variable {b : TDG} {keep : Mem → Prop} {tt : TDT} {te : TDE} {ρ : EnvD} {fin : List W → Mem → Prop} {M : Mem}
/-- each of some rows gives an item -/
theorem lc_map {α : Type} {row : α → List W} (g : α → W) (hk : keep M) : ∀ (xs : List α) (acc : List W), (∀ a ∈ xs, ∀ (Rk : W → Mem → Prop) (Rn : Mem → Prop), Rk (g a) M → b (row a) ρ M fun ρ1 M1 => IfB true (te ρ1 M1 Rk) (Rn M1)) → acc.length + xs.length ≤ sizeLine → fin (acc ++ xs.map g) M → lcGo b keep yesT te ρ fin (xs.map row) acc M
  | [], acc, hb, hl, h => by
    rw [List.map_nil, lcGo]
    rw [List.map_nil, List.append_nil] at h
    exact ⟨hk, h⟩
  | a :: xs, acc, hb, hl, h => by
    rw [List.map_cons, lcGo]
    rw [List.length_cons] at hl
    refine ⟨hk, hb a (.head _) _ _ ⟨by omega, lc_map g hk xs (acc ++ [g a]) (fun x hx => hb x (.tail _ hx)) (by rw [List.length_append]; simp; omega) (by rw [List.append_assoc]; exact h)⟩⟩
/-- each of some rows gives an item, or none -/
theorem lc_filter {α : Type} {row : α → List W} (p : α → Bool) (g : α → W) (hk : keep M) : ∀ (xs : List α) (acc : List W), (∀ a ∈ xs, ∀ (Rk : W → Mem → Prop) (Rn : Mem → Prop), (p a = true → Rk (g a) M) → (p a = false → Rn M) → b (row a) ρ M fun ρ1 M1 => tt ρ1 M1 fun c M2 => IfB c (te ρ1 M2 Rk) (Rn M2)) → acc.length + xs.length ≤ sizeLine → fin (acc ++ (xs.filter p).map g) M → lcGo b keep tt te ρ fin (xs.map row) acc M
  | [], acc, hb, hl, h => by
    rw [List.map_nil, lcGo]
    rw [List.filter_nil, List.map_nil, List.append_nil] at h
    exact ⟨hk, h⟩
  | a :: xs, acc, hb, hl, h => by
    rw [List.map_cons, lcGo]
    rw [List.length_cons] at hl
    refine ⟨hk, hb a (.head _) _ _ (fun c => ⟨by omega, lc_filter p g hk xs (acc ++ [g a]) (fun x hx => hb x (.tail _ hx)) (by rw [List.length_append]; simp; omega) ?_⟩) (fun c => lc_filter p g hk xs acc (fun x hx => hb x (.tail _ hx)) (by omega) ?_)⟩
    · rw [List.filter_cons_of_pos c, List.map_cons] at h
      rw [List.append_assoc]
      exact h
    · rw [List.filter_cons_of_neg (by rw [c]; exact Bool.false_ne_true)] at h
      exact h
/-- one name, over a list of data -/
theorem lc1 {α : Type} {i : Nat} {f : α → W} (g : α → W) (hk : keep M) {xs : List α} (hb : ∀ a ∈ xs, ∀ Rk : W → Mem → Prop, Rk (g a) M → te (put ρ i (some (f a))) M Rk) (hl : xs.length ≤ sizeLine) (h : fin (xs.map g) M) : lcGo (bName i) keep yesT te ρ fin (rows1 (xs.map f)) [] M := by
  rw [rows1_map]
  exact lc_map g hk xs [] (fun a ha Rk Rn q => .t rfl (hb a ha Rk q)) (by simpa using hl) h
theorem lc1f {α : Type} {i : Nat} {f : α → W} (p : α → Bool) (g : α → W) (hk : keep M) {xs : List α} (hb : ∀ a ∈ xs, ∀ (Rk : W → Mem → Prop) (Rn : Mem → Prop), (p a = true → Rk (g a) M) → (p a = false → Rn M) → tt (put ρ i (some (f a))) M fun c M2 => IfB c (te (put ρ i (some (f a))) M2 Rk) (Rn M2)) (hl : xs.length ≤ sizeLine) (h : fin ((xs.filter p).map g) M) : lcGo (bName i) keep tt te ρ fin (rows1 (xs.map f)) [] M := by
  rw [rows1_map]
  exact lc_filter p g hk xs [] (fun a ha Rk Rn q1 q2 => hb a ha Rk Rn q1 q2) (by simpa using hl) h
end
/-- a for, by what holds at each turn -/
theorem for_ix {b : TDG} {keep : Mem → Prop} {body : TDS} {D : EndD} {rows : List (List W)} {ρ : EnvD} {M : Mem} (Pv : Nat → EnvD → Mem → Prop) (h0 : Pv 0 ρ M) (hk : ∀ i ρ M, i ≤ rows.length → Pv i ρ M → keep M)
    (hs : ∀ i row ρ M (N : EnvD → Mem → Prop), rows[i]? = some row → Pv i ρ M → (∀ ρ' M', Pv (i + 1) ρ' M' → N ρ' M') → b row ρ M fun ρ1 M1 => body ⟨N, D.rt, D.nx, N⟩ ρ1 M1) (hd : ∀ ρ M, Pv rows.length ρ M → D.nx ρ M) : forGo b keep body D rows ρ M := by
  have go : ∀ (n i : Nat) (ρ : EnvD) (M : Mem), n = rows.length - i → i ≤ rows.length → Pv i ρ M → forGo b keep body D (rows.drop i) ρ M := by
    intro n
    induction n with
    | zero =>
      intro i ρ M hn hi p
      have e : i = rows.length := by omega
      subst e
      rw [List.drop_length, forGo]
      exact ⟨hk _ _ _ (Nat.le_refl _) p, hd ρ M p⟩
    | succ n ih =>
      intro i ρ M hn hi p
      have hi2 : i < rows.length := by omega
      rw [List.drop_eq_getElem_cons hi2, forGo]
      exact ⟨hk _ _ _ hi p, hs i _ ρ M _ (List.getElem?_eq_getElem hi2) p fun ρ' M' p' => ih (i + 1) ρ' M' (by omega) (by omega) p'⟩
  exact go _ 0 ρ M rfl (Nat.zero_le _) h0
/-- over a list of things, one name -/
theorem for1 {α : Type} {i : Nat} {f : α → W} {keep : Mem → Prop} {body : TDS} {D : EndD} {xs : List α} {ρ : EnvD} {M : Mem} (Pv : Nat → EnvD → Mem → Prop) (h0 : Pv 0 ρ M) (hk : ∀ i ρ M, i ≤ xs.length → Pv i ρ M → keep M)
    (hs : ∀ j a ρ M (N : EnvD → Mem → Prop), xs[j]? = some a → Pv j ρ M → (∀ ρ' M', Pv (j + 1) ρ' M' → N ρ' M') → body ⟨N, D.rt, D.nx, N⟩ (put ρ i (some (f a))) M) (hd : ∀ ρ M, Pv xs.length ρ M → D.nx ρ M) : forGo (bName i) keep body D (rows1 (xs.map f)) ρ M := by
  have el : (rows1 (xs.map f)).length = xs.length := by rw [rows1_map, List.length_map]
  refine for_ix Pv h0 (fun i ρ M hi p => hk i ρ M (by rw [← el]; exact hi) p) (fun j row ρ M N hrow p hN => ?_) (fun ρ M p => hd ρ M (by rw [← el]; exact p))
  rw [rows1_map, List.getElem?_map] at hrow
  obtain ⟨a, ha, e⟩ := Option.map_eq_some_iff.mp hrow
  subst e
  exact hs j a ρ M N ha p hN
/-- over numbers -/
theorem forR {i : Nat} {lo : Int} {n : Nat} {keep : Mem → Prop} {body : TDS} {D : EndD} {ρ : EnvD} {M : Mem} (Pv : Nat → EnvD → Mem → Prop) (h0 : Pv 0 ρ M) (hk : ∀ i ρ M, i ≤ n → Pv i ρ M → keep M)
    (hs : ∀ j ρ M (N : EnvD → Mem → Prop), j < n → Pv j ρ M → (∀ ρ' M', Pv (j + 1) ρ' M' → N ρ' M') → body ⟨N, D.rt, D.nx, N⟩ (put ρ i (some (.d (.int (lo + (j : Nat)))))) M) (hd : ∀ ρ M, Pv n ρ M → D.nx ρ M) : forGo (bName i) keep body D (rows1 (rng lo n)) ρ M := by
  unfold rng
  refine for1 Pv h0 (fun i ρ M hi p => hk i ρ M (by simpa using hi) p) (fun j a ρ M N ha p hN => ?_) (fun ρ M p => hd ρ M (by simpa using p))
  have e : a = j ∧ j < n := by
    obtain ⟨h1, h2⟩ := List.getElem?_eq_some_iff.mp ha
    rw [List.length_range] at h1
    simp at h2
    exact ⟨h2.symm, h1⟩
  obtain ⟨rfl, hj⟩ := e
  exact hs a ρ M N hj p hN
/-- pairs with their numbers -/
theorem forE {i j : Nat} {keep : Mem → Prop} {body : TDS} {D : EndD} {ws : List W} {ρ : EnvD} {M : Mem} (Pv : Nat → EnvD → Mem → Prop) (h0 : Pv 0 ρ M) (hk : ∀ i ρ M, i ≤ ws.length → Pv i ρ M → keep M)
    (hs : ∀ n a ρ M (N : EnvD → Mem → Prop), ws[n]? = some a → Pv n ρ M → (∀ ρ' M', Pv (n + 1) ρ' M' → N ρ' M') → body ⟨N, D.rt, D.nx, N⟩ (put (put ρ i (some (.d (.int (n : Nat))))) j (some a)) M) (hd : ∀ ρ M, Pv ws.length ρ M → D.nx ρ M) : forGo (bPair i j) keep body D (enumR 0 ws) ρ M := by
  refine for_ix Pv h0 (fun i ρ M hi p => hk i ρ M (by rw [← enumR_len 0 ws]; exact hi) p) (fun n row ρ M N hrow p hN => ?_) (fun ρ M p => hd ρ M (by rw [← enumR_len 0 ws]; exact p))
  obtain ⟨a, ha, rfl⟩ := enumR_get hrow
  rw [Nat.zero_add]
  exact hs n a ρ M N ha p hN
/-- pairs of two rows -/
theorem forZ {i j : Nat} {keep : Mem → Prop} {body : TDS} {D : EndD} {xs ys : List W} {ρ : EnvD} {M : Mem} (hl : xs.length = ys.length) (Pv : Nat → EnvD → Mem → Prop) (h0 : Pv 0 ρ M) (hk : ∀ i ρ M, i ≤ xs.length → Pv i ρ M → keep M)
    (hs : ∀ n a c ρ M (N : EnvD → Mem → Prop), xs[n]? = some a → ys[n]? = some c → Pv n ρ M → (∀ ρ' M', Pv (n + 1) ρ' M' → N ρ' M') → body ⟨N, D.rt, D.nx, N⟩ (put (put ρ i (some a)) j (some c)) M) (hd : ∀ ρ M, Pv xs.length ρ M → D.nx ρ M) : forGo (bPair i j) keep body D (zipR xs ys) ρ M := by
  have el : (zipR xs ys).length = xs.length := by rw [zipR_len]; omega
  refine for_ix Pv h0 (fun i ρ M hi p => hk i ρ M (by rw [← el]; exact hi) p) (fun n row ρ M N hrow p hN => ?_) (fun ρ M p => hd ρ M (by rw [← el]; exact p))
  obtain ⟨a, c, ha, hc, rfl⟩ := zipR_get hrow
  exact hs n a c ρ M N ha hc p hN
end Tl
set_option Elab.async false
set_option linter.all false
set_option maxRecDepth 100000
set_option maxHeartbeats 4000000
namespace Tl
open PySem L2
theorem b_list {X : Cx} (T : Bl X.mg) {p : Pos} (hg : Gl X "list" := by rfl) : PE X (.Name "list" p) (tC (.ty "list")) := pe_bltn hg T.list PyProof.Rows.boot_list rfl
/-- what nobody looks at any more is left out -/
def lax (R : W → Mem → Prop) : W → Mem → Prop := fun x M => ∃ M0, (∀ a o, M0 a = some o → M a = some o) ∧ R x M0
theorem lax_of {R : W → Mem → Prop} {x : W} {M : Mem} (h : R x M) : lax R x M := ⟨M, fun _ _ h => h, h⟩
theorem Rl.less {K : PySem.W.Frag} {F H : Hp} {M M0 : Mem} (h : Rl K F H M) (e : ∀ a o, M0 a = some o → M a = some o) : Rl K F H M0 :=
  ⟨h.fh, fun a o c => h.mf a o (e a o c), fun a o c => h.at_ a o (e a o c)⟩
theorem none_less {M M0 : Mem} (e : ∀ a o, M0 a = some o → M a = some o) {b : Addr} (h : M b = none) : M0 b = none := by
  cases c : M0 b with
  | none => rfl
  | some o => rw [e b o c] at h; cases h
theorem kt_lax {K : PySem.W.Frag} {F H : Hp} {M : Mem} {R : W → Mem → Prop} {Q : VK} (k : Kt K F H M R Q) : Kt K F H M (lax R) Q := fun v H' F' M' x r g rx ⟨M0, e, h⟩ =>
  k v H' F' M0 x (r.less e) ⟨g.ff, fun b u h1 h2 => ⟨(g.un b u h1 h2).1, none_less e (g.un b u h1 h2).2⟩, g.nf⟩ rx h
section
variable {P : Program} {w : World} {K : PySem.W.Frag} {mg : Str → Option Value} {base : Heap}
theorem okDL {f : Addr} {fd : FuncData} {k n : Nat} {x qual : Str} {st : Stmt} {N ps : List Str} {tf : TF} (F : Fun K x qual st f fd) (S : FnScope N ps (defScope st)) (hp : ps.length = n)
    (hb : ∀ (cdv : Value) (A : Around) (outer : List Env) (s : Shared) (H : Hp) (E : XK), Room k (A.deeper (PyProof.Rows.envOfC qual (defScope st) s.heap.objs.size f cdv)) →
      ∃ (t : TS) (T : TDS), PSs (cxOf CX0 P w K mg base N qual (defScope st) f cdv A outer s H E).nox (defBody st) t ∧ SSt K (fun _ _ _ _ => False) (fun _ _ _ => False) t T ∧
        ∀ ws M R RX, ws.length = n → tf ws M R RX → T (endD (lax R)) (start0 N.length ws) M) : FnOk P w K mg base CX0 (k + 1) f fd ps (spD K n tf) := by
  refine F.ok S (fun vs H Q E h => ?_) (fun cdv A outer s H vs Q E hr h => ?_)
  · obtain ⟨F0, M, ws, R, RX, r, rs, hl, _⟩ := h
    rw [rs.len, hl, hp]
  · obtain ⟨F0, M, ws, R, RX, r, rs, hl, hf, hk, _⟩ := h
    obtain ⟨t, T, h1, h2, h3⟩ := hb cdv A outer s H E hr
    refine ⟨t, h1, h2 F0 H M _ _ _ _ r (fun F' H' M' σ ρ cls d x _ _ _ _ z => z) (rel_start rs) (h3 ws M R RX hl hf) (ek_def (kt_lax hk))⟩
end
section
variable {K : PySem.W.Frag} {Wx : WX} {RE : REx}
/-- a range with a step -/
@[reducible] def itR3 (T : TDA) : TDI := fun ρ M R => T ρ M fun xs M1 => match xs with
  | [x, y, z] => gI x fun i => gI y fun j => gI z fun c => ∃ n, RgC i j c n ∧ R (rows1 (rngC i c n)) any1 M1
  | _ => False
theorem rngC_ok {F H : Hp} {M : Mem} {lo c : Int} {n : Nat} : ItOk K F H M (Itc lo c n) (rows1 (rngC lo c n)) any1 false := by
  refine ItOk.of (walk_rangeC (lo := lo) (c := c) (n := n)) (by unfold rows1 rngC; rw [List.length_map, List.length_map, List.length_range]) (fun F2 H2 M2 r2 g2 _ => True.intro) (fun i x H2 H3 F2 M2 row hrow r2 g2 _ y => ?_)
  obtain ⟨w, hw, rfl⟩ := rows1_get hrow
  unfold rngC at hw
  rw [List.getElem?_map] at hw
  obtain ⟨e, he, rfl⟩ := Option.map_eq_some_iff.mp hw
  have e' : e = i := by
    obtain ⟨h1, h2⟩ := List.getElem?_eq_some_iff.mp he
    rw [← h2]
    simp
  subst e'
  obtain ⟨rfl, rfl⟩ := y
  exact ⟨_, rfl, rfl, .d (.int _)⟩
theorem si_r3 {t : TA} {T : TDA} {n : Nat} (h : SAn K Wx RE n t T) : SI K Wx RE (iRng3 t) false (itR3 T) := fun F H M σ ρ R Q hr hx hs ht k =>
  h F H M σ ρ _ _ hr hx hs ht fun vs H1 F1 M1 xs r1 g1 rxs hl h1 => by
    split at h1
    · obtain ⟨i, rfl, h2⟩ := gI_of h1
      obtain ⟨j, rfl, h3⟩ := gI_of h2
      obtain ⟨c, rfl, m, hc, h4⟩ := gI_of h3
      cases rxs with
      | cons a rxs =>
      cases rxs with
      | cons b rxs =>
      cases rxs with
      | cons d rxs =>
      cases rxs
      exact ⟨i, j, c, m, by rw [a.int, b.int, d.int], hc, k _ H1 F1 M1 _ _ r1 g1 rngC_ok h4⟩
    · exact h1.elim
end
/-- some new lists -/
theorem lc_new {ρ : EnvD} {i : Nat} {fin : List W → Mem → Prop} : ∀ (rows : List W) (acc : List Addr) (M M' : Mem), acc.length + rows.length ≤ sizeLine → acc.Nodup → (∀ a ∈ acc, M a = none ∧ M' a = some (.lst [])) → (∀ b, ¬ b ∈ acc → M' b = M b) →
    (∀ (as : List Addr) (M2 : Mem), as.length = acc.length + rows.length → as.Nodup → (∀ a ∈ as, M a = none ∧ M2 a = some (.lst [])) → (∀ b, ¬ b ∈ as → M2 b = M b) → fin (as.map W.r) M2) → lcGo (bName i) any1 yesT (lstT nilA) ρ fin (rows1 rows) (acc.map W.r) M'
  | [], acc, M, M', hl, hn, ha, hb, h => by
    show any1 M' ∧ fin _ M'
    exact ⟨trivial, h acc M' rfl hn ha hb⟩
  | r :: rows, acc, M, M', hl, hn, ha, hb, h => by
    show any1 M' ∧ IfB true (∀ p, M' p = none → (acc.map W.r).length < sizeLine ∧ lcGo (bName i) any1 yesT (lstT nilA) ρ fin (rows1 rows) (acc.map W.r ++ [W.r p]) (mset M' p (.lst []))) _
    rw [List.length_cons] at hl
    refine ⟨trivial, .t rfl fun p hp => ⟨by rw [List.length_map]; omega, ?_⟩⟩
    have np : ¬ p ∈ acc := fun z => by rw [(ha p z).2] at hp; cases hp
    have e : acc.map W.r ++ [W.r p] = (acc ++ [p]).map W.r := by rw [List.map_append]; rfl
    rw [e]
    have hMp : M p = none := by rw [← hb p np]; exact hp
    refine lc_new rows (acc ++ [p]) M _ (by rw [List.length_append]; simp; omega) ?_ (fun a h1 => ?_) (fun b h1 => ?_) (fun as M2 h1 h2 h3 h4 => h as M2 (by rw [h1, List.length_append, List.length_cons]; simp; omega) h2 h3 h4)
    · rw [List.nodup_append]
      exact ⟨hn, by simp, fun x hx y hy => by
        rw [List.mem_singleton.mp hy]
        exact fun z => np (by rw [← z]; exact hx)⟩
    · rcases List.mem_append.mp h1 with h1 | h1
      · have : a ≠ p := fun z => np (by rw [← z]; exact h1)
        rw [mset_ne this]
        exact ha a h1
      · rw [List.mem_singleton.mp h1]
        exact ⟨hMp, mset_same⟩
    · have h2 : b ≠ p := fun z => h1 (by rw [z]; exact List.mem_append_right _ (List.mem_singleton.mpr rfl))
      rw [mset_ne h2]
      exact hb b fun z => h1 (List.mem_append_left _ z)
/-- numbers with a step -/
theorem forRC {i : Nat} {lo c : Int} {n : Nat} {keep : Mem → Prop} {body : TDS} {D : EndD} {ρ : EnvD} {M : Mem} (Pv : Nat → EnvD → Mem → Prop) (h0 : Pv 0 ρ M) (hk : ∀ i ρ M, i ≤ n → Pv i ρ M → keep M)
    (hs : ∀ j ρ M (N : EnvD → Mem → Prop), j < n → Pv j ρ M → (∀ ρ' M', Pv (j + 1) ρ' M' → N ρ' M') → body ⟨N, D.rt, D.nx, N⟩ (put ρ i (some (.d (.int (lo + (j : Nat) * c))))) M) (hd : ∀ ρ M, Pv n ρ M → D.nx ρ M) : forGo (bName i) keep body D (rows1 (rngC lo c n)) ρ M := by
  unfold rngC
  refine for1 Pv h0 (fun i ρ M hi p => hk i ρ M (by simpa using hi) p) (fun j a ρ M N ha p hN => ?_) (fun ρ M p => hd ρ M (by simpa using p))
  have e : a = j ∧ j < n := by
    obtain ⟨h1, h2⟩ := List.getElem?_eq_some_iff.mp ha
    rw [List.length_range] at h1
    simp at h2
    exact ⟨h2.symm, h1⟩
  obtain ⟨rfl, hj⟩ := e
  exact hs a ρ M N hj p hN
end Tl
set_option Elab.async false
set_option linter.all false
set_option maxRecDepth 100000
set_option maxHeartbeats 4000000
/-! Elders and levels, lists of kids by their weights and places. -/
namespace Tl
open PySem L2
structure RelEL (es ls : List Nat) : Prop where
  first : ls[0]? = some 1
  lev : ∀ (j l : Nat), ls[j]? = some l → 1 ≤ l ∧ l ≤ 10
  eld : ∀ (j e : Nat), 1 ≤ j → es[j]? = some e → e < j ∧ ∀ (l l' : Nat), ls[e]? = some l → ls[j]? = some l' → l' = l + 1
theorem get_snoc {α : Type} {xs : List α} {x y : α} {j : Nat} (h : (xs ++ [x])[j]? = some y) : (j < xs.length ∧ xs[j]? = some y) ∨ (j = xs.length ∧ y = x) := by
  by_cases c : j < xs.length
  · rw [List.getElem?_append_left c] at h
    exact .inl ⟨c, h⟩
  · rw [List.getElem?_append_right (by omega)] at h
    have e : j - xs.length = 0 := by
      by_cases z : j - xs.length = 0
      · exact z
      · rw [List.getElem?_eq_none (by show 1 ≤ _; omega)] at h
        cases h
    rw [e] at h
    exact .inr ⟨by omega, (Option.some.inj h).symm⟩
theorem RelEL.app {es ls : List Nat} (r : RelEL es ls) {e l : Nat} (hlen : es.length = ls.length) (he : ls[e]? = some l) (hl : l ≤ 9) : RelEL (es ++ [e]) (ls ++ [l + 1]) := by
  have hel : e < ls.length := (List.getElem?_eq_some_iff.mp he).1
  refine ⟨?_, fun j m h => ?_, fun j e' hj h => ?_⟩
  · rw [List.getElem?_append_left (by omega)]
    exact r.first
  · rcases get_snoc h with ⟨_, h⟩ | ⟨_, rfl⟩
    · exact r.lev j m h
    · omega
  · rcases get_snoc h with ⟨c, h⟩ | ⟨rfl, rfl⟩
    · obtain ⟨h1, h2⟩ := r.eld j e' hj h
      refine ⟨h1, fun a b ha hb => ?_⟩
      rw [List.getElem?_append_left (by omega)] at ha hb
      exact h2 a b ha hb
    · refine ⟨by omega, fun a b ha hb => ?_⟩
      rw [List.getElem?_append_left hel] at ha
      rw [hlen, List.getElem?_append_right (Nat.le_refl _), Nat.sub_self] at hb
      rw [he] at ha
      cases ha
      exact (Option.some.inj hb).symm
theorem RelEL.one : RelEL [0] [1] := by
  refine ⟨rfl, fun j l h => ?_, fun j e hj h => ?_⟩
  · match j, h with
    | 0, h => have := Option.some.inj h; omega
    | j + 1, h => simp at h
  · match j, h with
    | 0, _ => omega
    | j + 1, h => simp at h
/-- the weights of the first m lists together -/
def sw (m : Nat) (tss : List (List PyData)) : Nat := ((tss.take m).map wtAll).sum
theorem sw_succ {m : Nat} {tss : List (List PyData)} {ts : List PyData} (h : tss[m]? = some ts) : sw (m + 1) tss = sw m tss + wtAll ts := by
  unfold sw
  rw [List.take_add_one, h, List.map_append, List.sum_append]
  simp
theorem sw_set : ∀ {m e : Nat} {tss : List (List PyData)} {ts : List PyData} {T : PyData}, e < m → tss[e]? = some ts → sw m (tss.set e (ts ++ [T])) = sw m tss + (wt T + 2)
  | 0, _, _, _, _, h, _ => by omega
  | m + 1, 0, a :: r, ts, T, _, h => by
    have e : a = ts := Option.some.inj h
    subst e
    show ((a ++ [T]) :: r.take m |>.map wtAll).sum = ((a :: r.take m).map wtAll).sum + _
    rw [List.map_cons, List.map_cons, List.sum_cons, List.sum_cons, wtAll_app, wtAll, wtAll]
    omega
  | m + 1, e + 1, a :: r, ts, T, h, h2 => by
    have ih := sw_set (m := m) (e := e) (tss := r) (ts := ts) (T := T) (by omega) h2
    unfold sw at ih ⊢
    show ((a :: (r.set e (ts ++ [T])).take m).map wtAll).sum = ((a :: r.take m).map wtAll).sum + _
    rw [List.map_cons, List.map_cons, List.sum_cons, List.sum_cons, ih]
    omega
  | _ + 1, _, [], _, _, _, h => by simp at h
theorem wt_sw : ∀ {m e : Nat} {tss : List (List PyData)} {ts : List PyData}, e < m → tss[e]? = some ts → wtAll ts ≤ sw m tss
  | 0, _, _, _, h, _ => by omega
  | m + 1, 0, a :: r, ts, _, h => by
    have e : a = ts := Option.some.inj h
    subst e
    show wtAll a ≤ ((a :: r.take m).map wtAll).sum
    rw [List.map_cons, List.sum_cons]
    omega
  | m + 1, e + 1, a :: r, ts, h, h2 => by
    have ih := wt_sw (m := m) (e := e) (tss := r) (ts := ts) (by omega) h2
    unfold sw at ih ⊢
    show _ ≤ ((a :: r.take m).map wtAll).sum
    rw [List.map_cons, List.sum_cons]
    omega
  | _ + 1, _, [], _, _, h => by simp at h
theorem sw_rep (m n : Nat) : sw m (List.replicate n []) = 0 := by
  unfold sw
  rw [List.take_replicate, List.map_replicate]
  generalize min m n = k
  induction k with
  | zero => rfl
  | succ k ih => rw [List.replicate_succ, List.sum_cons, ih]; rfl
mutual
def nn : PyData → Nat
  | .tuple [_, .tuple ks] => 1 + nnAll ks
  | _ => 1
def nnAll : List PyData → Nat
  | [] => 0
  | k :: ks => nn k + nnAll ks
end
theorem nnAll_app : ∀ (a b : List PyData), nnAll (a ++ b) = nnAll a + nnAll b
  | [], b => by rw [List.nil_append, nnAll]; omega
  | k :: a, b => by
    rw [List.cons_append, nnAll, nnAll, nnAll_app a b]
    omega
theorem nnAll_rev : ∀ (a : List PyData), nnAll a.reverse = nnAll a
  | [] => rfl
  | k :: a => by
    rw [List.reverse_cons, nnAll_app, nnAll_rev a, nnAll, nnAll, nnAll]
    omega
/-- how many places the first m lists have together -/
def sn (m : Nat) (tss : List (List PyData)) : Nat := ((tss.take m).map nnAll).sum
theorem sn_succ {m : Nat} {tss : List (List PyData)} {ts : List PyData} (h : tss[m]? = some ts) : sn (m + 1) tss = sn m tss + nnAll ts := by
  unfold sn
  rw [List.take_add_one, h, List.map_append, List.sum_append]
  simp
theorem sn_set : ∀ {m e : Nat} {tss : List (List PyData)} {ts : List PyData} {T : PyData}, e < m → tss[e]? = some ts → sn m (tss.set e (ts ++ [T])) = sn m tss + nn T
  | 0, _, _, _, _, h, _ => by omega
  | m + 1, 0, a :: r, ts, T, _, h => by
    have e : a = ts := Option.some.inj h
    subst e
    show ((a ++ [T]) :: r.take m |>.map nnAll).sum = ((a :: r.take m).map nnAll).sum + _
    rw [List.map_cons, List.map_cons, List.sum_cons, List.sum_cons, nnAll_app, nnAll, nnAll]
    omega
  | m + 1, e + 1, a :: r, ts, T, h, h2 => by
    have ih := sn_set (m := m) (e := e) (tss := r) (ts := ts) (T := T) (by omega) h2
    unfold sn at ih ⊢
    show ((a :: (r.set e (ts ++ [T])).take m).map nnAll).sum = ((a :: r.take m).map nnAll).sum + _
    rw [List.map_cons, List.map_cons, List.sum_cons, List.sum_cons, ih]
    omega
  | _ + 1, _, [], _, _, _, h => by simp at h
theorem sn_rep (m n : Nat) : sn m (List.replicate n []) = 0 := by
  unfold sn
  rw [List.take_replicate, List.map_replicate]
  generalize min m n = k
  induction k with
  | zero => rfl
  | succ k ih => rw [List.replicate_succ, List.sum_cons, ih]; rfl
theorem wtAll_rev (ts : List PyData) : wtAll ts.reverse = wtAll ts := by
  induction ts with
  | nil => rfl
  | cons a r ih => rw [List.reverse_cons, wtAll_app, ih, wtAll, wtAll, wtAll]; omega
def tags5 : List Str := ["a", "b", "ab", "zz", "abcdefgh"]
theorem tags5_ok : ∀ s ∈ tags5, 1 ≤ s.length ∧ s.length ≤ 8 ∧ (PyData.strOk s = true ∧ s ∈ tags6) := by decide +kernel
end Tl
set_option Elab.async false
set_option linter.all false
set_option maxRecDepth 100000
set_option maxHeartbeats 4000000
/-! What the program's own looks answer, as Lean functions; promises. -/
namespace Tl
open PySem L2
/-! ### what they answer -/
def small (c : Nat) : Bool := decide (97 ≤ c) && decide (c ≤ 122)
def isTag : PyData → Bool
  | .str s => decide (1 ≤ s.length) && decide (s.length ≤ 8) && s.cps.toList.all small
  | _ => false
def tagKids : PyData → Bool
  | .tuple [a, b] => isTag a && isTup b
  | _ => false
/-- the program's own numbers -/
structure Cs (mg : Str → Option Value) : Prop where
  SIZE : ∃ t, mg "SIZE" = some (.int 60 t)
  DEPTH : ∃ t, mg "DEPTH" = some (.int 12 t)
  SIGNS : ∃ t, mg "SIGNS" = some (.int 8 t)
theorem c_SIZE {X : Cx} (C : Cs X.mg) {p : Pos} (hg : Gl X "SIZE" := by rfl) : PE X (.Name "SIZE" p) (tC (.int 60)) := by
  obtain ⟨t, e⟩ := C.SIZE
  exact pe_glob hg e ⟨t, rfl⟩
theorem c_DEPTH {X : Cx} (C : Cs X.mg) {p : Pos} (hg : Gl X "DEPTH" := by rfl) : PE X (.Name "DEPTH" p) (tC (.int 12)) := by
  obtain ⟨t, e⟩ := C.DEPTH
  exact pe_glob hg e ⟨t, rfl⟩
theorem c_SIGNS {X : Cx} (C : Cs X.mg) {p : Pos} (hg : Gl X "SIGNS" := by rfl) : PE X (.Name "SIGNS" p) (tC (.int 8)) := by
  obtain ⟨t, e⟩ := C.SIGNS
  exact pe_glob hg e ⟨t, rfl⟩
/-- a truth about one thing -/
@[reducible] def tfB (f : PyData → Bool) : TF := fun ws M R _ => g1 ws fun x => gD x fun d => txt d = true ∧ R (.d (.bool (f d))) M
theorem lex1 (a b : Nat) : ([a] : List Nat) < [b] ↔ a < b := by
  constructor
  · intro h
    cases h with
    | rel h => exact h
    | cons h => cases h
  · intro h
    exact List.Lex.rel h
theorem le_a (c : Nat) : (!decide ((⟨#[c]⟩ : Str).cps.toList < ("a" : Str).cps.toList)) = decide (97 ≤ c) := by
  show (!decide ([c] < [97])) = _
  rw [decide_eq_decide.mpr (lex1 c 97)]
  by_cases h : c < 97
  · rw [decide_eq_true h, decide_eq_false (by omega)]; rfl
  · rw [decide_eq_false h, decide_eq_true (by omega)]; rfl
theorem le_z (c : Nat) : (!decide (("z" : Str).cps.toList < (⟨#[c]⟩ : Str).cps.toList)) = decide (c ≤ 122) := by
  show (!decide ([122] < [c])) = _
  rw [decide_eq_decide.mpr (lex1 122 c)]
  by_cases h : 122 < c
  · rw [decide_eq_true h, decide_eq_false (by omega)]; rfl
  · rw [decide_eq_false h, decide_eq_true (by omega)]; rfl
/-! ### trees -/
def kidsD : PyData → List PyData
  | .tuple [_, .tuple ks] => ks
  | _ => []
/-- the room behind a tree, its kids one behind another -/
def roomB : Nat → PyData → Nat → Option Nat
  | 0, _, _ => none
  | _ + 1, _, 0 => none
  | l + 1, d, r + 1 => if tagKids d = true then (kidsD d).foldl (fun o kd => o.bind (roomB l kd)) (some r) else none
@[reducible] def optD : Option Nat → PyData
  | none => .none
  | some n => .int n
def isTreeD (d : PyData) : Bool := (roomB 12 d 60).isSome
theorem fold_none {α : Type} (f : α → Nat → Option Nat) : ∀ ks : List α, ks.foldl (fun o kd => o.bind (f kd)) none = none
  | [] => rfl
  | _ :: r => by rw [List.foldl_cons]; exact fold_none f r
@[reducible] def tfRoom (n : Nat) : TF := fun ws M R _ => ∃ (d : PyData) (l r : Nat), ws = [.d d, .d (.int l), .d (.int r)] ∧ txt d = true ∧ l < n ∧ R (.d (optD (roomB l d r))) M
theorem no0 {tf : TF} {P : Program} {w : World} {K : PySem.W.Frag} {mg : Str → Option Value} {base : Heap} {CX : CXT} {f : Addr} {fd : FuncData} {k n : Nat} {ps : List Str} (h : ∀ ws M R RX, ¬ tf ws M R RX) : FnOk P w K mg base CX k f fd ps (spD K n tf) :=
  ⟨fun vs H Q E ⟨F0, M, ws, R, RX, r, rs, hl, hf, _⟩ => absurd hf (h _ _ _ _), fun A outer s H args us vs Q E _ _ _ _ ⟨F0, M, ws, R, RX, r, rs, hl, hf, _⟩ => absurd hf (h _ _ _ _)⟩
/-! ### refusals -/
/-- an own error without a word, as the top has left its class -/
structure Er (K : PySem.W.Frag) (mg : Str → Option Value) (x : Str) (C : Addr) : Prop where
  g : mg x = some (.ref C)
  x : PySem.W.excIn K C [.type "ValueError", .type "Exception", .type "BaseException", .type "object"] "ValueError.__new__" = true
  k : PySem.W.keepIn K (.ref C) = true
  b : PySem.W.subIn K (.ref C) (.type "BaseException") = some true
  t : PySem.W.typeIn K (.ref C) = some (.type "type")
/-- a def that errors may leave -/
structure UseX (P : Program) (w : World) (K : PySem.W.Frag) (mg : Str → Option Value) (base : Heap) (x : Str) (ps : List Str) (k : Nat) (sp : Sp) where
  f : Addr
  fd : FuncData
  ok : FnOk P w K mg base (L2.CX P w) k f fd ps sp
  m : mg x = some (.ref f)
  kp : PySem.W.keepIn K (.ref f) = true
  b : Binds K fd ps []
/-- one thing is refused, or not -/
@[reducible] def tfChk (f : PyData → Bool) (C : Addr) : TF := fun ws M R RX => g1 ws fun x => gD x fun d => txt d = true ∧ (f d = true → R (.d .none) M) ∧ (f d = false → RX ⟨.ref C, []⟩ M)
/-! ### trees by their form -/
def TrT : Nat → PyData → Prop
  | 0, _ => False
  | h + 1, d => ∃ (s : Str) (ks : List PyData), d = .tuple [.str s, .tuple ks] ∧ isTag (.str s) = true ∧ ∀ k ∈ ks, TrT h k
theorem TrT.mono : ∀ {h h' : Nat} {d : PyData}, h ≤ h' → TrT h d → TrT h' d
  | 0, _, _, _, t => t.elim
  | h + 1, 0, _, e, _ => by omega
  | h + 1, h' + 1, d, e, t => by
    obtain ⟨s, ks, rfl, a, b⟩ := t
    exact ⟨s, ks, rfl, a, fun k hk => TrT.mono (by omega) (b k hk)⟩
theorem tags6_tag : ∀ s ∈ tags6, isTag (.str s) = true := by decide +kernel
theorem TrD.t : ∀ {h : Nat} {d : PyData}, TrD h d → TrT h d
  | 0, _, t => t.elim
  | h + 1, d, t => by
    obtain ⟨s, ks, rfl, a, b⟩ := t
    exact ⟨s, ks, rfl, tags6_tag s a.2.2.2, fun k hk => TrD.t (b k hk)⟩
theorem nn_pos (d : PyData) : 1 ≤ nn d := by
  unfold nn
  split <;> omega
theorem tagKids_node {s : Str} {ks : List PyData} (h : isTag (.str s) = true) : tagKids (.tuple [.str s, .tuple ks]) = true := by
  rw [tagKids, h]
  rfl
theorem fold_room {l : Nat} : ∀ (ks : List PyData) (r : Nat), (∀ k ∈ ks, ∀ r, nn k ≤ r → roomB l k r = some (r - nn k)) → nnAll ks ≤ r → ks.foldl (fun o kd => o.bind (roomB l kd)) (some r) = some (r - nnAll ks)
  | [], r, _, _ => rfl
  | k :: ks, r, h, hr => by
    rw [nnAll] at hr
    rw [List.foldl_cons]
    show ks.foldl _ (roomB l k r) = _
    rw [h k (.head _) r (by omega), fold_room ks (r - nn k) (fun x hx => h x (.tail _ hx)) (by omega), nnAll]
    congr 1
    omega
theorem room_nn : ∀ {l : Nat} {d : PyData}, TrT l d → ∀ r, nn d ≤ r → roomB l d r = some (r - nn d)
  | 0, _, t, _, _ => t.elim
  | l + 1, _, ⟨s, ks, rfl, a, b⟩, r, hr => by
    rw [nn] at hr
    obtain ⟨r, rfl⟩ : ∃ r', r = r' + 1 := ⟨r - 1, by omega⟩
    rw [roomB, if_pos (tagKids_node a), kidsD, fold_room ks r (fun k hk => room_nn (b k hk)) (by omega), nn]
    congr 1
    omega
theorem fold_back {l : Nat} : ∀ (ks : List PyData) (r m : Nat), (∀ k ∈ ks, ∀ r m, roomB l k r = some m → TrT l k ∧ m + nn k = r) → ks.foldl (fun o kd => o.bind (roomB l kd)) (some r) = some m → (∀ k ∈ ks, TrT l k) ∧ m + nnAll ks = r
  | [], r, m, _, h => by
    cases h
    exact ⟨fun k hk => absurd hk List.not_mem_nil, rfl⟩
  | k :: ks, r, m, hk, h => by
    rw [List.foldl_cons] at h
    have h' : ks.foldl (fun o kd => o.bind (roomB l kd)) (roomB l k r) = some m := h
    cases c : roomB l k r with
    | none =>
      rw [c, fold_none] at h'
      cases h'
    | some m' =>
      rw [c] at h'
      obtain ⟨q1, q2⟩ := hk k (.head _) r m' c
      obtain ⟨q3, q4⟩ := fold_back ks m' m (fun x hx => hk x (.tail _ hx)) h'
      rw [nnAll]
      exact ⟨fun x hx => (List.mem_cons.mp hx).elim (fun z => by rw [z]; exact q1) (q3 x), by omega⟩
theorem tagKids_of {d : PyData} (h : tagKids d = true) : ∃ (s : Str) (ks : List PyData), d = .tuple [.str s, .tuple ks] ∧ isTag (.str s) = true := by
  unfold tagKids at h
  split at h
  · rename_i a b
    rw [Bool.and_eq_true] at h
    cases b with
    | tuple ks =>
      cases a with
      | str s => exact ⟨s, ks, rfl, h.1⟩
      | _ => exact absurd h.1 (by simp [isTag])
    | _ => exact absurd h.2 (by simp [isTup])
  · cases h
theorem room_back : ∀ {l : Nat} {d : PyData} {r m : Nat}, roomB l d r = some m → TrT l d ∧ m + nn d = r
  | 0, _, _, _, h => by rw [roomB] at h; cases h
  | l + 1, _, 0, _, h => by rw [roomB] at h; cases h
  | l + 1, d, r + 1, m, h => by
    rw [roomB] at h
    split at h
    · rename_i c
      obtain ⟨s, ks, rfl, hs⟩ := tagKids_of c
      rw [kidsD] at h
      obtain ⟨q1, q2⟩ := fold_back ks r m (fun k hk r m => room_back) h
      rw [nn]
      exact ⟨⟨s, ks, rfl, hs, q1⟩, by omega⟩
    · cases h
theorem tree_iff {d : PyData} : isTreeD d = true ↔ TrT 12 d ∧ nn d ≤ 60 := by
  unfold isTreeD
  constructor
  · intro h
    cases c : roomB 12 d 60 with
    | none => rw [c] at h; cases h
    | some m =>
      obtain ⟨q1, q2⟩ := room_back c
      exact ⟨q1, by omega⟩
  · intro h
    rw [room_nn h.1 60 h.2]
    rfl
theorem TrT.node {n : Nat} {d : PyData} (h : TrT n d) : ∃ (s : Str) (ks : List PyData), d = .tuple [.str s, .tuple ks] ∧ isTag (.str s) = true ∧ ∀ k ∈ ks, TrT (n - 1) k := by
  cases n with
  | zero => exact h.elim
  | succ n => exact h
theorem tag_small {s : Str} (h : isTag (.str s) = true) : 1 ≤ s.length ∧ s.length ≤ 8 ∧ PyData.strOk s = true := by
  rw [isTag, Bool.and_eq_true, Bool.and_eq_true] at h
  refine ⟨of_decide_eq_true h.1.1, of_decide_eq_true h.1.2, ?_⟩
  rw [PyData.strOk, ← Array.all_toList, List.all_eq_true]
  intro c hc
  have := List.all_eq_true.mp h.2 c hc
  unfold small at this
  rw [Bool.and_eq_true] at this
  have h2 := of_decide_eq_true this.2
  exact decide_eq_true (Nat.lt_of_le_of_lt h2 (by decide))
mutual
theorem TrT.gd : ∀ {h : Nat} {d : PyData}, TrT h d → Tl.gd d = true ∧ d.depth ≤ 2 * h ∧ wt d + 2 ≤ 96 * nn d ∧ noL d = true
  | 0, _, t => t.elim
  | h + 1, d, t => by
    obtain ⟨s, ks, rfl, a, b⟩ := t
    obtain ⟨a1, a2, a3⟩ := tag_small a
    obtain ⟨q1, q2, q3, q4⟩ := TrT.gds b
    refine ⟨?_, ?_, ?_, ?_⟩
    · rw [Tl.gd, gdAll, gdAll, gdAll, Tl.gd, Tl.gd, q1, a3, decide_eq_true (by omega)]
      rfl
    · simp only [PyData.depth, PyData.depthAll]
      omega
    · rw [wt_node, nn]
      omega
    · simp [noL, noLs, q4]
theorem TrT.gds : ∀ {h : Nat} {ks : List PyData}, (∀ k ∈ ks, TrT h k) → gdAll ks = true ∧ PyData.depthAll ks ≤ 2 * h ∧ wtAll ks ≤ 96 * nnAll ks ∧ noLs ks = true
  | h, [], _ => ⟨rfl, Nat.zero_le _, Nat.le_refl _, rfl⟩
  | h, k :: ks, hk => by
    obtain ⟨p1, p2, p3, p4⟩ := TrT.gd (hk k (.head _))
    obtain ⟨q1, q2, q3, q4⟩ := TrT.gds fun x hx => hk x (.tail _ hx)
    refine ⟨by rw [gdAll, p1, q1]; rfl, ?_, ?_, by rw [noLs, p4, q4]; rfl⟩
    · rw [PyData.depthAll]
      omega
    · rw [wtAll, nnAll]
      have := nn_pos k
      omega
end
end Tl
set_option Elab.async false
set_option linter.all false
set_option maxRecDepth 100000
set_option maxHeartbeats 4000000
/-! Flat rows of trees: the row, where parts end, where kids begin, and back. -/
set_option Elab.async false
set_option linter.all false
set_option maxRecDepth 100000
set_option maxHeartbeats 4000000
/-! Errors: raised with fields, caught, looked at. -/
namespace Tl
open PySem PySem.Spec PyProof.Rows L2
section
variable {K : PySem.W.Frag} {Wx Wout : WX} {RE : REx}
/-! ### try -/
/-- try .. except c as n: name j = n, looked at behind -/
@[reducible] def tryA (K : PySem.W.Frag) (c : Value) (i j : Nat) (TB : REx → TDS) (RE : REx) : TDS := fun D ρ M => TB (fun x ρ' M' => gO (PySem.W.exmOne K x.cls c) fun yes => IfB yes
  (i < ρ'.length ∧ (match x.cls with | .ref C => ∀ a dd, M' a = none → D.nx (put (put (put ρ' i (some (.x a C dd x.fs))) j (some (.x a C dd x.fs))) i none) (mset M' a (.exc C dd)) | _ => False)) (RE x ρ' M')) D ρ M
theorem ss_tryA {c : Value} {i j : Nat} {tb : WX → TS} {TB : REx → TDS} (hb : ∀ Wx RE, SSt K Wx RE (tb Wx) (TB RE)) :
    SSt K Wout RE (fun D σ H => tb (wKeep K c i (fun _ _ _ => tAsg (tVar i) (gName j)) Wout D) D σ H) (tryA K c i j TB RE) := fun F H M σ ρ D E hr hx hs ht k => by
  refine hb _ _ F H M σ ρ D E hr (fun F' H' M' σ' ρ' cls d x g r s xr hre => ?_) hs ht k
  obtain ⟨yes, h1, h2⟩ := gO_of hre
  have h2 := h2.ite
  refine ⟨yes, by rw [xr.1]; exact h1, fun hy a ha => ?_, fun hn => hx F' H' M' σ' ρ' cls d x g r s xr (by rw [hn, if_neg Bool.false_ne_true] at h2; exact h2)⟩
  rw [if_pos hy] at h2
  obtain ⟨hi, h4⟩ := h2
  cases hC : x.cls with
  | ref C =>
    rw [hC] at h4
    have hcls : cls = .ref C := xr.1.trans hC
    have hMa := r.new ha
    refine ⟨.ref a, by rw [List.getElem?_set_self (by rw [s.len]; exact hi)], ?_⟩
    have hFa := r.fh.free ha
    have s2 := ((s.set (.x (a := a) (C := C) xr.2) i).set (.x (a := a) (C := C) xr.2) j).del i none
    refine k.nx _ _ F' (mset M' a (.exc C d)) _ ⟨same_mut r.fh hFa, fun b o q => ?_, fun b o q => ?_⟩ ⟨g.ff, fun b u q n => ?_, g.nf⟩ s2 (h4 a d hMa)
    · by_cases z : b = a
      · rw [z]; exact hFa
      · rw [mset_ne z] at q; exact r.mf b o q
    · by_cases z : b = a
      · subst z
        rw [mset_same] at q
        cases q
        exact ⟨_, upd_same, by rw [hcls]; rfl⟩
      · rw [mset_ne z] at q
        rw [upd_ne z]
        exact r.at_ b o q
    · obtain ⟨q1, q2⟩ := g.un b u q n
      have z : b ≠ a := ne_of_none q1 ha
      rw [upd_ne z, mset_ne z]
      exact ⟨q1, q2⟩
  | _ => rw [hC] at h4; exact h4.elim
/-! ### isinstance of an error -/
@[reducible] def clsW : W → Option Value
  | .o (.ty n) => some (.type n)
  | .o (.ref C) => some (.ref C)
  | _ => none
theorem clsW_of {F : Hp} {v : V} {x : W} {c : Value} (r : RW K F v x) (h : clsW x = some c) : ClsV v c := by
  unfold clsW at h
  split at h
  · cases r; cases h; exact .ty _
  · cases r; cases h; exact .own _
  · cases h
theorem clsV_val {c : V} {cv : Value} (k : ClsV c cv) : ∀ u, RelV c u → u = cv := fun u r => k.eq r
theorem fx_dx {F H : Hp} {d : Option Addr} {fs : List (Str × PyData)} (e : Same F H) (h : FX K F d fs) : DxO H d := by
  cases d with
  | none => trivial
  | some dd =>
    obtain ⟨fv, h1, _⟩ := h
    exact ⟨fv, e _ _ h1⟩
/-- kept: M tells of it -/
@[reducible] def keptX (K : PySem.W.Frag) (M : Mem) (x : W) (k : Addr → Prop) : Prop := match x with | .x a C dd _ => M a = some (.exc C dd) ∧ ExcC K C ∧ k C | _ => False
@[reducible] def fIsK (K : PySem.W.Frag) : FL := fun xs M R => g2 xs fun x y => keptX K M x fun C => gO (clsW y) fun c => gO (PySem.W.kitOne K (.ref C) c) fun b => R (.d (.bool b)) M
theorem keptX_of {F H : Hp} {M : Mem} {v : V} {x : W} {k : Addr → Prop} (hr : Rl K F H M) (r : RW K F v x) (h : keptX K M x k) : ∃ a C dd, v = .ref a ∧ H a = some (CgO (.ref C) dd a) ∧ DxO H dd ∧ ExcC K C ∧ k C := by
  cases x with
  | x a C dd fs =>
    obtain ⟨h1, h2, h3⟩ := h
    cases r with
    | x fx =>
      obtain ⟨u, e1, e2⟩ := hr.at_ a _ h1
      exact ⟨a, C, dd, rfl, by rw [e1]; exact congrArg some e2, fx_dx hr.fh fx, h2, h3⟩
  | d _ => exact h.elim
  | r _ => exact h.elim
  | o _ => exact h.elim
theorem sc_isK : SC K (rIsK K) (fIsK K) := fun F H M vs xs R Q hr rx hf k => by
  obtain ⟨x, y, rfl, h1⟩ := g2_of hf
  obtain ⟨v, u, rfl, r, r'⟩ := rx.two
  obtain ⟨a, C, dd, rfl, e1, e2, e3, h2⟩ := keptX_of hr r h1
  obtain ⟨c, h3, h4⟩ := gO_of h2
  obtain ⟨b, h5, h6⟩ := gO_of h4
  exact ⟨a, C, dd, u, c, b, rfl, e1, e2, e3, clsV_val (clsW_of r' h3), h5, k _ H F M _ hr .refl (.d (.bl _)) h6⟩
/-- isinstance(kept, (c1, c2, ..)) -/
def rIsKT (K : PySem.W.Frag) : List V → Hp → VK → Prop := fun xs H Q => ∃ (a D tp : Addr) (d : Option Addr) (cs : List V) (us : List Value) (b : Bool),
  xs = [.ref a, .ref tp] ∧ H a = some (CgO (.ref D) d a) ∧ DxO H d ∧ ExcC K D ∧ H tp = some (.tup cs) ∧ Paired ClsV cs us ∧ PySem.W.kitAny K (.ref D) us = some b ∧ Q (.bl b) H
theorem call_isKT {X : Cx} : CallR X (.builtin "isinstance") (rIsKT X.K) := by
  intro pins s σ H xs us Q I r h
  obtain ⟨a, D, tp, d, cs, ws, b, rfl, ha, hd, C, hT, kc, hk, q⟩ := h
  rcases r with _ | ⟨rx, r⟩
  rcases r with _ | ⟨rt, r⟩
  cases r
  cases rx
  cases rt
  obtain ⟨ox, od, J⟩ := cg_inst I ha hd
  obtain ⟨cd, hcd, _⟩ := PySem.W.any_some C.hd
  obtain ⟨_, its, rv, o, h1, h2, n, h3⟩ := (show ObjOk X.prog X.w H s.heap tp (.tup cs) from I.hok tp _ hT)
  have e3 := ClsV.all kc rv
  subst e3
  obtain ⟨oc, od', dt, sl⟩ := o
  simp only at h2 h3
  subst h2 h3
  exact PySem.W.kia_tup (PySem.W.kitx_exc (by rw [hcd]; rfl) C.hg C.hk C.hs C.ha C.hn C.ht C.hm) I.kIn J h1 hk (fun z => nomatch z) fun tk => ⟨.bl b, H, I.kept (t' := tk) fun _ _ z => z, rfl, q⟩
/-- all of them classes -/
@[reducible] def gCs : List W → (List Value → Prop) → Prop
  | [], k => k []
  | x :: r, k => gO (clsW x) fun c => gCs r fun cs => k (c :: cs)
theorem gCs_of {F : Hp} : ∀ {xs : List W} {vs : List V} {k : List Value → Prop}, RWs K F vs xs → gCs xs k → ∃ cs, Paired ClsV vs cs ∧ k cs
  | [], _, k, r, h => by cases r; exact ⟨[], .nil, h⟩
  | x :: xs, _, k, r, h => by
    cases r with
    | cons a b =>
      obtain ⟨c, h1, h2⟩ := gO_of h
      obtain ⟨cs, h3, h4⟩ := gCs_of b h2
      exact ⟨c :: cs, .cons (clsW_of a h1) h3, h4⟩
@[reducible] def isKT (K : PySem.W.Frag) (T : TDE) (U : TDA) : TDE := fun ρ M R => T ρ M fun x M1 => U ρ M1 fun ys M2 => keptX K M2 x fun C => gCs ys fun cs => gO (PySem.W.kitAny K (.ref C) cs) fun b => R (.d (.bool b)) M2
theorem se_isKT {n : Nat} {tx : TE} {ta : TA} {T : TDE} {U : TDA} (h1 : SE K Wx RE tx T) (h2 : SAn K Wx RE n ta U) (hn : n ≤ 1000 := by decide) : SE K Wx RE (tCB (rIsKT K) (tCons tx (tCons (tTup ta) tNil))) (isKT K T U) := fun F H M σ ρ R Q hr hx hs ht k =>
  h1 F H M σ ρ _ _ hr hx hs ht fun v H1 F1 M1 x r1 g1 rx q1 => h2 F1 H1 M1 σ ρ _ _ r1 (hx.mono g1) (hs.mono g1.ff) q1 fun vs H2 F2 M2 ys r2 g2 rys hl q2 => by
    refine ⟨by rw [rys.len, hl]; exact sz1000 hn, fun p hp => ?_⟩
    obtain ⟨a, C, dd, rfl, e1, e2, e3, q3⟩ := keptX_of r2 (rx.mono g2.ff) q2
    obtain ⟨cs, kc, q4⟩ := gCs_of rys q3
    obtain ⟨b, q5, q6⟩ := gO_of q4
    have sm := same_new (o := .tup vs) hp
    obtain ⟨r3, g3⟩ := r2.same sm
    refine ⟨a, C, p, dd, vs, cs, b, rfl, sm _ _ e1, ?_, e3, upd_same, kc, q5, k _ _ F2 M2 _ r3 ((g1.trans g2).trans g3) (.d (.bl _)) q6⟩
    cases dd with
    | none => trivial
    | some dd =>
      obtain ⟨fs, e4⟩ := e2
      exact ⟨fs, sm _ _ e4⟩
/-- kept.n -/
theorem dx_lookup {F : Hp} {n : Str} : ∀ {fv : List (Str × V)} {fs : List (Str × PyData)} {y : PyData}, fv.map (·.1) = fs.map (·.1) → DxL K F (fv.map (·.2)) (fs.map (·.2)) → fs.lookup n = some y → ∃ v, fv.lookup n = some v ∧ Dx K F v y
  | [], [], _, _, _, h => by cases h
  | [], _ :: _, _, e, _, _ => by simp at e
  | _ :: _, [], _, e, _, _ => by simp at e
  | (f, v) :: fv, (g, d) :: fs, y, e, r, h => by
    simp only [List.map_cons, List.cons.injEq] at e
    obtain ⟨e1, e2⟩ := e
    subst e1
    cases r with
    | cons r1 r2 =>
      rw [List.lookup_cons] at h ⊢
      cases c : n == f with
      | true =>
        rw [c] at h
        cases h
        exact ⟨v, rfl, r1⟩
      | false =>
        rw [c] at h
        exact dx_lookup e2 r2 h
/-! ### within the suite -/
end
end Tl
set_option Elab.async false
set_option linter.all false
set_option maxRecDepth 100000
set_option maxHeartbeats 4000000
/-! Further rules: a list extended by a tuple. -/
set_option Elab.async false
set_option linter.all false
set_option maxRecDepth 100000
set_option maxHeartbeats 4000000
/-! t[::-1] of a tuple; rows by their places. -/
set_option Elab.async false
set_option linter.all false
set_option maxRecDepth 100000
set_option maxHeartbeats 4000000
/-! What the readings are unfolded by. -/
namespace Tl
open PySem L2
theorem tyIs_int {d : PyData} : tyIs d "int" = some (isInt d) := by simp [tyIs]
theorem tyIs_bool {d : PyData} : tyIs d "bool" = some (isBl d) := by simp [tyIs]
theorem tyIs_str {d : PyData} : tyIs d "str" = some (isStr d) := by simp [tyIs]
theorem tyIs_tuple {d : PyData} : tyIs d "tuple" = some (isTup d) := by simp [tyIs]
theorem tyIs_list {d : PyData} : tyIs d "list" = some (isList d) := by simp [tyIs]
theorem map_c {α β : Type} {f : α → β} {a : α} {l : List α} : (a :: l).map f = f a :: l.map f := rfl
theorem map_n {α β : Type} {f : α → β} : ([] : List α).map f = [] := rfl
theorem app_c {α : Type} {a : α} {l r : List α} : (a :: l) ++ r = a :: (l ++ r) := rfl
theorem app_n {α : Type} {r : List α} : ([] : List α) ++ r = r := rfl
theorem len_c {α : Type} {a : α} {l : List α} : (a :: l).length = l.length + 1 := rfl
theorem len_n {α : Type} : ([] : List α).length = 0 := rfl
theorem rep_0 {α : Type} {a : α} : List.replicate 0 a = [] := rfl
theorem rep_s {α : Type} {a : α} {n : Nat} : List.replicate (n + 1) a = a :: List.replicate n a := rfl
theorem isE_c {α : Type} {a : α} {l : List α} : (a :: l).isEmpty = false := rfl
theorem isE_n {α : Type} : ([] : List α).isEmpty = true := rfl
theorem IfB.nil {ds : List PyData} {A B : Prop} (h : IfB ds.isEmpty A B) : IfB (PyData.eqv (.list ds) (.list [])) A B := by
  cases ds <;> exact h
theorem IfB.nilT {ds : List PyData} {A B : Prop} (h : IfB ds.isEmpty A B) : IfB (PyData.eqv (.tuple ds) (.tuple [])) A B := by
  cases ds <;> exact h
theorem at_0 {α : Type} {x0 : α} {r : List α} : atI (x0 :: r) 0 = some x0 := atI_nat (j := 0) rfl
theorem at_m0 {α β : Type} {f : α → β} {x0 : α} {r : List α} : atI ((x0 :: r).map f) 0 = some (f x0) := atI_nat (j := 0) rfl
theorem at_1 {α : Type} {x0 x1 : α} {r : List α} : atI (x0 :: x1 :: r) 1 = some x1 := atI_nat (j := 1) rfl
theorem at_m1 {α β : Type} {f : α → β} {x0 x1 : α} {r : List α} : atI ((x0 :: x1 :: r).map f) 1 = some (f x1) := atI_nat (j := 1) rfl
theorem at_2 {α : Type} {x0 x1 x2 : α} {r : List α} : atI (x0 :: x1 :: x2 :: r) 2 = some x2 := atI_nat (j := 2) rfl
theorem at_m2 {α β : Type} {f : α → β} {x0 x1 x2 : α} {r : List α} : atI ((x0 :: x1 :: x2 :: r).map f) 2 = some (f x2) := atI_nat (j := 2) rfl
theorem at_3 {α : Type} {x0 x1 x2 x3 : α} {r : List α} : atI (x0 :: x1 :: x2 :: x3 :: r) 3 = some x3 := atI_nat (j := 3) rfl
theorem at_m3 {α β : Type} {f : α → β} {x0 x1 x2 x3 : α} {r : List α} : atI ((x0 :: x1 :: x2 :: x3 :: r).map f) 3 = some (f x3) := atI_nat (j := 3) rfl
theorem at_4 {α : Type} {x0 x1 x2 x3 x4 : α} {r : List α} : atI (x0 :: x1 :: x2 :: x3 :: x4 :: r) 4 = some x4 := atI_nat (j := 4) rfl
theorem at_m4 {α β : Type} {f : α → β} {x0 x1 x2 x3 x4 : α} {r : List α} : atI ((x0 :: x1 :: x2 :: x3 :: x4 :: r).map f) 4 = some (f x4) := atI_nat (j := 4) rfl
theorem at_5 {α : Type} {x0 x1 x2 x3 x4 x5 : α} {r : List α} : atI (x0 :: x1 :: x2 :: x3 :: x4 :: x5 :: r) 5 = some x5 := atI_nat (j := 5) rfl
theorem at_m5 {α β : Type} {f : α → β} {x0 x1 x2 x3 x4 x5 : α} {r : List α} : atI ((x0 :: x1 :: x2 :: x3 :: x4 :: x5 :: r).map f) 5 = some (f x5) := atI_nat (j := 5) rfl
theorem at_6 {α : Type} {x0 x1 x2 x3 x4 x5 x6 : α} {r : List α} : atI (x0 :: x1 :: x2 :: x3 :: x4 :: x5 :: x6 :: r) 6 = some x6 := atI_nat (j := 6) rfl
theorem at_m6 {α β : Type} {f : α → β} {x0 x1 x2 x3 x4 x5 x6 : α} {r : List α} : atI ((x0 :: x1 :: x2 :: x3 :: x4 :: x5 :: x6 :: r).map f) 6 = some (f x6) := atI_nat (j := 6) rfl
theorem at_7 {α : Type} {x0 x1 x2 x3 x4 x5 x6 x7 : α} {r : List α} : atI (x0 :: x1 :: x2 :: x3 :: x4 :: x5 :: x6 :: x7 :: r) 7 = some x7 := atI_nat (j := 7) rfl
theorem at_m7 {α β : Type} {f : α → β} {x0 x1 x2 x3 x4 x5 x6 x7 : α} {r : List α} : atI ((x0 :: x1 :: x2 :: x3 :: x4 :: x5 :: x6 :: x7 :: r).map f) 7 = some (f x7) := atI_nat (j := 7) rfl
theorem exW {o : Option MO} {ws : List W} {k : List W → Prop} (h : o = some (.lst ws)) (q : k ws) : ∃ ws, o = some (.lst ws) ∧ k ws := ⟨ws, h, q⟩
theorem gDs_i {ds : List PyData} {k : List PyData → Prop} (q : k ds) : gDs (ds.map W.d) k := by rw [gDs_map]; exact q
end Tl
set_option Elab.async false
set_option linter.all false
set_option maxRecDepth 100000
set_option maxHeartbeats 4000000
namespace Tl
open PySem L2
mutual
theorem gd_nd : ∀ d : PyData, gd d = true → d.hasDict = false
  | .none, _ => rfl
  | .bool _, _ => rfl
  | .int _, _ => rfl
  | .str _, _ => rfl
  | .list ds, h => by rw [gd] at h; rw [PyData.hasDict]; exact gds_nd ds h
  | .tuple ds, h => by rw [gd] at h; rw [PyData.hasDict]; exact gds_nd ds h
  | .dict _, h => Bool.noConfusion h
theorem gds_nd : ∀ ds : List PyData, gdAll ds = true → PyData.hasDictAll ds = false
  | [], _ => rfl
  | d :: ds, h => by
    rw [gdAll, Bool.and_eq_true] at h
    rw [PyData.hasDictAll, gd_nd d h.1, gds_nd ds h.2]
    rfl
end
end Tl
set_option Elab.async false
set_option linter.all false
set_option maxRecDepth 100000
set_option maxHeartbeats 4000000
/-! The empty dict; one of some; rows that are good to be shown, cut and put together. -/
namespace Tl
open PySem L2
theorem se_dnew {K : PySem.W.Frag} {Wx : WX} {RE : REx} : SE K Wx RE tDNewK (cT (.d (.dict []))) := fun F H M σ ρ R Q hr hx hs ht k p hp => by
  obtain ⟨h1, h2⟩ := hr.fresh (u := .dK []) hp
  exact k _ _ _ _ _ h1 h2 (.d (.dic upd_same)) ht
theorem at_mem {α : Type} {xs : List α} {r : Int} (h0 : 0 ≤ r) (h1 : r < (xs.length : Nat)) : ∃ x, atI xs r = some x ∧ x ∈ xs := by
  obtain ⟨n, rfl⟩ : ∃ n : Nat, r = (n : Int) := ⟨r.toNat, by omega⟩
  have hn : n < xs.length := by omega
  exact ⟨xs[n], atI_nat (List.getElem?_eq_getElem hn), List.getElem_mem hn⟩
/-- good to be shown, of a weight and a depth -/
def Gk (m k : Nat) (d : PyData) : Prop := gd d = true ∧ wt d ≤ m ∧ d.depth ≤ k
def Gks (m k : Nat) (ds : List PyData) : Prop := gdAll ds = true ∧ wtAll ds ≤ m ∧ PyData.depthAll ds ≤ k
def GdE (d : PyData) : Prop := Gk 1000000 40 d ∨ d = .dict []
theorem Gk.mono {m k m' k' : Nat} {d : PyData} (h : Gk m k d) (h1 : m ≤ m') (h2 : k ≤ k') : Gk m' k' d := ⟨h.1, Nat.le_trans h.2.1 h1, Nat.le_trans h.2.2 h2⟩
theorem Gks.nil {m k : Nat} : Gks m k [] := ⟨rfl, Nat.zero_le _, Nat.zero_le _⟩
theorem Gks.cons {m k m' m'' : Nat} {d : PyData} {ds : List PyData} (h : Gk m k d) (h' : Gks m' k ds) (e : m + 2 + m' ≤ m'') : Gks m'' k (d :: ds) := by
  refine ⟨by rw [gdAll, h.1, h'.1]; rfl, ?_, ?_⟩
  · rw [wtAll]
    have := h.2.1
    have := h'.2.1
    omega
  · rw [PyData.depthAll]
    have := h.2.2
    have := h'.2.2
    omega
theorem Gks.tup {m k m' : Nat} {ds : List PyData} (h : Gks m k ds) (e : 3 + m ≤ m') : Gk m' (k + 1) (.tuple ds) := ⟨by rw [gd]; exact h.1, by rw [wt]; have := h.2.1; omega, by rw [PyData.depth]; have := h.2.2; omega⟩
theorem Gks.lst {m k m' : Nat} {ds : List PyData} (h : Gks m k ds) (e : 3 + m ≤ m') : Gk m' (k + 1) (.list ds) := ⟨by rw [gd]; exact h.1, by rw [wt]; have := h.2.1; omega, by rw [PyData.depth]; have := h.2.2; omega⟩
theorem Gks.app {m k m' m'' : Nat} {a b : List PyData} (h : Gks m k a) (h' : Gks m' k b) (e : m + m' ≤ m'') : Gks m'' k (a ++ b) := by
  refine ⟨by rw [gdAll_app, h.1, h'.1]; rfl, ?_, ?_⟩
  · rw [wtAll_app]
    have := h.2.1
    have := h'.2.1
    omega
  · rw [depthAll_app]
    have := h.2.2
    have := h'.2.2
    omega
theorem Gks.of_app {m k : Nat} {a b : List PyData} (h : Gks m k (a ++ b)) : Gks m k a ∧ Gks m k b := by
  obtain ⟨h1, h2, h3⟩ := h
  rw [gdAll_app, Bool.and_eq_true] at h1
  rw [wtAll_app] at h2
  rw [depthAll_app] at h3
  exact ⟨⟨h1.1, by omega, by omega⟩, h1.2, by omega, by omega⟩
theorem Gks.take {m k : Nat} {ds : List PyData} (h : Gks m k ds) (n : Nat) : Gks m k (ds.take n) := by
  rw [← List.take_append_drop n ds] at h
  exact h.of_app.1
theorem Gks.drop {m k : Nat} {ds : List PyData} (h : Gks m k ds) (n : Nat) : Gks m k (ds.drop n) := by
  rw [← List.take_append_drop n ds] at h
  exact h.of_app.2
theorem Gks.rev {m k : Nat} {ds : List PyData} (h : Gks m k ds) : Gks m k ds.reverse := by
  induction ds generalizing m with
  | nil => exact h
  | cons a r ih =>
    obtain ⟨h1, h2, h3⟩ := h
    rw [gdAll, Bool.and_eq_true] at h1
    rw [wtAll] at h2
    rw [PyData.depthAll] at h3
    rw [List.reverse_cons]
    exact Gks.app (m := wtAll r) (m' := wt a + 2) (ih ⟨h1.2, Nat.le_refl _, by omega⟩) (Gks.cons (m := wt a) (m' := 0) ⟨h1.1, Nat.le_refl _, by omega⟩ Gks.nil (Nat.le_refl _)) (by omega)
theorem Gks.get {m k : Nat} {ds : List PyData} {d : PyData} (h : Gks m k ds) (hd : d ∈ ds) : Gk m k d := by
  obtain ⟨i, hi, rfl⟩ := List.getElem_of_mem hd
  obtain ⟨q1, q2, q3⟩ := gdAll_get h.1 (List.getElem?_eq_getElem hi)
  have := h.2.1
  have := h.2.2
  exact ⟨q1, by omega, by omega⟩
theorem gk_int {i : Int} {m k : Nat} (h : i.natAbs < 10 ^ 41) (hm : 1930 ≤ m) : Gk m k (.int i) := ⟨by rw [gd]; exact decide_eq_true h, by rw [wt]; exact hm, Nat.zero_le _⟩
theorem gO_atD {ds : List PyData} {r : Int} {k : W → Prop} (Pq : PyData → Prop) (h0 : 0 ≤ r) (h1 : r < (ds.length : Nat)) (hp : ∀ d ∈ ds, Pq d) (q : ∀ d, Pq d → k (W.d d)) : gO (atI (ds.map W.d) r) k := by
  obtain ⟨d, e, hm⟩ := at_mem (xs := ds) h0 h1
  refine gO_i (a := W.d d) ?_ (q d (hp d hm))
  rw [atI_map, e]
  rfl
theorem all1 {α : Type} {P : α → Prop} {a : α} {l : List α} (h : P a) (t : ∀ x ∈ l, P x) : ∀ x ∈ a :: l, P x := fun x hx => (List.mem_cons.mp hx).elim (fun z => by rw [z]; exact h) (t x)
theorem all0 {α : Type} {P : α → Prop} : ∀ x ∈ ([] : List α), P x := fun x hx => absurd hx List.not_mem_nil
theorem GdE.sh {d : PyData} (h : GdE d) : (d.hasDict = false ∨ d = .dict []) ∧ shOk d := by
  rcases h with h | rfl
  · refine ⟨.inl (gd_nd d h.1), gd_show d h.1, by have := h.2.2; omega, ?_⟩
    have := shown_le d h.1
    have h2 := h.2.1
    exact Nat.le_trans (Nat.le_trans this h2) (by decide)
  · exact ⟨.inr rfl, by decide +kernel, by decide +kernel, by decide +kernel⟩
end Tl
set_option Elab.async false
set_option linter.all false
set_option maxRecDepth 100000
set_option maxHeartbeats 4000000
/-! A def called at one place alone (what stands around it is known), and a law's end by it. -/
namespace Tl
open PySem PySem.Spec PyProof.Rows L2
theorem run_at {P : Program} {w : World} {K : PySem.W.Frag} {mg : Str → Option Value} {base : Heap} {k : Nat} {f : Addr} {fd : FuncData} {x qual : Str} {st : Stmt} {N ps : List Str} {A0 : Around} {outer : List Env} {s : Shared} {H : Hp} {args : Args} {us : List Value} {vs : List V} {Q : VK} {E : XK}
    (F : Fun K x qual st f fd) (S : FnScope N ps (defScope st)) (hr : Room (k + 1) A0) (e0 : Env0 P w K mg base A0 outer s H) (hb : BindsTo s fd args (ps.zip us)) (r : Vals vs us) (hl : vs.length = ps.length)
    (body : ∀ cdv : Value, Room k (A0.deeper (envOfC qual (defScope st) s.heap.objs.size f cdv)) →
      ∃ t, PSs (cxOf CX0 P w K mg base N qual (defScope st) f cdv A0 outer s H E).nox (defBody st) t ∧ t { nx := fun _ H' => Q .non H', rt := Q } (start N vs) H) :
    codeAny (model P w) A0 (.call (.ref f) args) (CR CX0 outer P w H s Q E) s := by
  obtain ⟨oc, od, kV, doc, pm, an, cdv, ct, osl, rfl, lk, hcd⟩ := F.ex
  have keep : ∀ b o, base.get? b = some o → s.heap.get? b = some o := fun b o q => (e0.bs b o q).1
  have KX : K.In s.heap := e0.mod.kin.keeps keep
  have hkind : ∀ y ∈ ps.zip us, (defScope st).names.lookup y.1 = some .local ∨
      ((defScope st).names.lookup y.1 = some .cell ∧ ((cellsFrom (s.heap.objs.size + 1) (defScope st).names []).lookup y.1).isSome = true) := by
    rintro ⟨n, v⟩ hy
    exact (S.par n (List.of_mem_zip hy).1).imp id fun q => ⟨q, PySem.W.cellsFrom_some _ _ _ (.inl q)⟩
  refine codeAny_call_function hr.depth (KX _ _ lk) rfl S.co S.gen rfl
    (PySem.W.codeRec_of KX hcd) (hb _ _ _ _ ?_)
  refine wpAny_newFunctionEnv_cells S.kind hkind fun env he s1 xx => ?_
  subst he
  refine ⟨(e0.mod.nolimit.keeps keep).keeps xx.toInCall.keep, codeAny_func ?_⟩
  obtain ⟨t, ht, hq⟩ := body cdv (hr.deeper _)
  have I := inv_start (CX := CX0) (E := E) S hr.hd e0 hl r xx
  refine wpAny_mono (ht.nox.run [] s1 (start N vs) H _ I hq) (fun fl s' hs => ?_) fun e s' hs => hs
  cases fl with
  | ret u =>
    obtain ⟨v, σ', H', J, rv, q⟩ := hs
    exact ⟨v, H', J.os, J.bare, J.base, J.hok, rv, q⟩
  | next =>
    obtain ⟨σ', H', J, q⟩ := hs
    exact ⟨V.non, H', J.os, J.bare, J.base, J.hok, rfl, q⟩
  | brk =>
    obtain ⟨_, _, _, q⟩ := hs
    exact q.elim
  | cont =>
    obtain ⟨_, _, _, q⟩ := hs
    exact q.elim
end Tl
set_option Elab.async false
set_option linter.all false
set_option maxRecDepth 100000
set_option maxHeartbeats 4000000
/-! Defs that show things: they are run where no text is being made. -/
namespace Tl
open PySem PySem.Spec PyProof.Rows L2
/-- a promise of a def that is kept where nothing is being shown -/
structure FnG (P : Program) (w : World) (K : PySem.W.Frag) (mg : Str → Option Value) (base : Heap) (k : Nat) (f : Addr) (fd : FuncData) (ps : List Str) (sp : Sp) : Prop where
  len : ∀ vs H Q E, sp vs H Q E → vs.length = ps.length
  run : ∀ (A : Around) (st : List Env) (s : Shared) (H : Hp) (args : Args) (us : List Value) (vs : List V) (Q : VK) (E : XK), A.guards = some [] → Room k A → Env0 P w K mg base A st s H → BindsTo s fd args (ps.zip us) → Vals vs us → sp vs H Q E →
    codeAny (model P w) A (.call (.ref f) args) (CR CX0 st P w H s Q E) s
structure UseG (P : Program) (w : World) (K : PySem.W.Frag) (mg : Str → Option Value) (base : Heap) (x : Str) (ps : List Str) (k : Nat) (sp : Sp) where
  f : Addr
  fd : FuncData
  ok : FnG P w K mg base k f fd ps sp
  m : mg x = some (.ref f)
  kp : PySem.W.keepIn K (.ref f) = true
  b : Binds K fd ps []
section
variable {X : Cx} {k : Nat} {f : Addr} {fd : FuncData} {ps : List Str} {sp : Sp} {E : XK} {x : Str} {p pos : Pos} {e : Expr} {es : List Expr} {t : TA}
theorem run_G {pins : List (Addr × Obj)} {σ : L2.St} {H : Hp} {s : Shared} {Q : VK} {us : List Value} {vs : List V} (F : FnG X.prog X.w X.K X.mg X.base k f fd ps sp) (hr : Room k X.A) (g : X.A.guards = some []) (hb : Binds X.K fd ps [])
    (I : Inv X pins σ H s) (r : Vals vs us) (h : sp vs H Q E) : wpAny (model X.prog X.w) X.A (call (.ref f) us) (EP X pins σ Q) X.xe s := by
  have hl : us.length = ps.length := by
    rw [← r.length]
    exact F.len _ _ _ _ h
  have hB := hb s us I.kIn (by rw [List.append_nil]; exact hl)
  rw [List.append_nil] at hB
  refine wpAny_call (codeAny_mono (F.run X.A X.stack s H _ us vs Q E g hr I.env0 hB r h) fun z s' hq => ?_)
  match z, hq with
  | .ok (.ret u), hq => exact I.after hq
theorem pe_callG (F : FnG X.prog X.w X.K X.mg X.base k f fd ps sp) (hr : Room k X.A) (g : X.A.guards = some []) (hg : Gl X x) (hm : X.mg x = some (.ref f)) (hk : PySem.W.keepIn X.K (.ref f) = true) (hb : Binds X.K fd ps [])
    (ha : PA X (e :: es) t) (hdb : (x == ("__debug__" : Str)) = false := by decide) (he : starEach (e :: es) X.env = (false, eval e X.env) :: starEach es X.env := by rfl)
    (hpl : (backTo pos (starEach es X.env)).any (·.1) = false := by rfl) : PE X (.Call (.Name x p) (e :: es) [] pos) (tCall sp [] E t) :=
  ⟨fun pn s σ H Q I h => wpAny_Call_Name_kw (ld_glob I hg hm (PySem.W.callWith_K (h₀ := X.base) I.ok.mod.kin hk
    (thn (ha.run pos pn s σ H _ I h) fun us s1 ⟨vs, H1, I1, r, q⟩ => ⟨I1.kIn, run_G (E := E) F hr g hb I1 r (List.append_nil vs ▸ q)⟩) he hpl) hdb)⟩
end
section
variable {P : Program} {w : World} {K : PySem.W.Frag} {mg : Str → Option Value} {base : Heap}
theorem okDG {f : Addr} {fd : FuncData} {k n : Nat} {x qual : Str} {st : Stmt} {N ps : List Str} {tf : TF} (F : Fun K x qual st f fd) (S : FnScope N ps (defScope st)) (hp : ps.length = n)
    (hb : ∀ (cdv : Value) (A : Around) (outer : List Env) (s : Shared) (H : Hp) (E : XK), (A.deeper (PyProof.Rows.envOfC qual (defScope st) s.heap.objs.size f cdv)).guards = some [] → Room k (A.deeper (PyProof.Rows.envOfC qual (defScope st) s.heap.objs.size f cdv)) →
      ∃ (t : TS) (T : TDS), PSs (cxOf CX0 P w K mg base N qual (defScope st) f cdv A outer s H E).nox (defBody st) t ∧ SSt K (fun _ _ _ _ => False) (fun _ _ _ => False) t T ∧
        ∀ ws M R RX, ws.length = n → tf ws M R RX → T (endD (lax R)) (start0 N.length ws) M) : FnG P w K mg base (k + 1) f fd ps (spD K n tf) := by
  refine ⟨fun vs H Q E h => ?_, fun A outer s H args us vs Q E hg hr e0 hB rv h => ?_⟩
  · obtain ⟨F0, M, ws, R, RX, r, rs, hl, _⟩ := h
    rw [rs.len, hl, hp]
  · obtain ⟨F0, M, ws, R, RX, r, rs, hl, hf, hk, _⟩ := h
    refine run_at F S hr e0 hB rv (by rw [rs.len, hl, hp]) fun cdv hr2 => ?_
    obtain ⟨t, T, h1, h2, h3⟩ := hb cdv A outer s H E hg hr2
    exact ⟨t, h1, h2 F0 H M _ _ _ _ r (fun F' H' M' σ ρ cls d x _ _ _ _ z => z) (rel_start rs) (h3 ws M R RX hl hf) (ek_def (kt_lax hk))⟩
end
end Tl
set_option Elab.async false
set_option linter.all false
set_option maxRecDepth 100000
set_option maxHeartbeats 4000000
/-! A law that makes its source of numbers by its first row. -/
namespace Tl
open PySem PySem.Spec PyProof.Rows L2
/-- a new source of numbers, from a script -/
def spState (K : PySem.W.Frag) : Sp := fun vs H Q _ => ∃ (a : Addr) (ns : List Int), vs = [.ref a] ∧ SqL K H a (ns.map V.int) ∧ ∀ (st c : Addr) (cs : List Int) (z : Int) (H' : Hp), Same H H' → H st = none → H c = none → c ≠ st → H' st = some (.lst [.ref c, .int 0, .int 0, .int z]) → H' c = some (.lst (cs.map V.int)) → 0 < cs.length → cs.length ≤ 63 → 0 ≤ z → z < 2147483647 → Q (.ref st) H'
end Tl
set_option Elab.async false
set_option linter.all false
set_option maxRecDepth 100000
set_option maxHeartbeats 4000000
/-! What a top needs: facts of classes, promises lifted to one level. -/
namespace Tl
open PySem L2
theorem kit_sub0 {K : PySem.W.Frag} {D C : Addr} {b : Bool} (h1 : PySem.W.isClsIn K C = true) (h2 : PySem.W.typeIn K (.ref C) = some (.type "type")) (h : PySem.W.subIn K (.ref D) (.ref C) = some b) (hb : D = C → b = true) : PySem.W.kitOne K (.ref D) (.ref C) = some b := by
  unfold PySem.W.kitOne
  by_cases e : D = C
  · rw [hb e, e, if_pos (by simp)]
  · rw [if_neg (fun z => e (Value.ref.inj (eq_of_beq z)))]
    unfold PySem.W.kitCls
    have h1' : (PySem.W.clsIn K C).isSome = true := h1
    have e2 : ((PySem.W.clsIn K C).isSome && PySem.W.typeIn K (.ref C) == some (.type "type")) = true := by rw [h1', h2] <;> rfl
    show (if ((PySem.W.clsIn K C).isSome && PySem.W.typeIn K (.ref C) == some (.type "type")) = true then PySem.W.subIn K (.ref D) (.ref C) else none) = some b
    rw [if_pos e2]
    exact h
theorem kit_sub {K : PySem.W.Frag} {D C : Addr} (h1 : PySem.W.isClsIn K C = true) (h2 : PySem.W.typeIn K (.ref C) = some (.type "type")) (h : PySem.W.subIn K (.ref D) (.ref C) = some true) : PySem.W.kitOne K (.ref D) (.ref C) = some true := kit_sub0 h1 h2 h fun _ => rfl
theorem kit_no {K : PySem.W.Frag} {D C : Addr} (h1 : PySem.W.isClsIn K C = true) (h2 : PySem.W.typeIn K (.ref C) = some (.type "type")) (hs : PySem.W.subIn K (.ref D) (.ref D) = some true) (h : PySem.W.subIn K (.ref D) (.ref C) = some false) : PySem.W.kitOne K (.ref D) (.ref C) = some false :=
  kit_sub0 h1 h2 h fun e => by
    subst e
    rw [hs] at h
    cases h
theorem kit_ve {K : PySem.W.Frag} {D : Addr} (h : PySem.W.subIn K (.ref D) (.type "ValueError") = some true) : PySem.W.kitOne K (.ref D) (.type "ValueError") = some true := by
  unfold PySem.W.kitOne
  rw [if_neg (by simp)]
  show (if PySem.W.kitMeta "ValueError" = true then PySem.W.subIn K (.ref D) (.type "ValueError") else none) = some true
  rw [if_pos (by decide +kernel)]
  exact h
section
variable {P : Program} {w : World} {K : PySem.W.Frag} {mg : Str → Option Value} {base : Heap} {x : Str} {ps : List Str} {k k' : Nat} {sp : Sp}
def Use.up (u : Use P w K mg base x ps k sp) (h : k ≤ k') : Use P w K mg base x ps k' sp := ⟨u.f, u.fd, u.ok.mono h, u.m, u.kp, u.b⟩
def UseX.up (u : UseX P w K mg base x ps k sp) (h : k ≤ k') : UseX P w K mg base x ps k' sp := ⟨u.f, u.fd, u.ok.mono h, u.m, u.kp, u.b⟩
theorem FnG.mono {f : Addr} {fd : FuncData} (F : FnG P w K mg base k f fd ps sp) (h : k ≤ k') : FnG P w K mg base k' f fd ps sp := ⟨F.len, fun A st s H args us vs Q E g hr => F.run A st s H args us vs Q E g (hr.mono h)⟩
def UseG.up (u : UseG P w K mg base x ps k sp) (h : k ≤ k') : UseG P w K mg base x ps k' sp := ⟨u.f, u.fd, u.ok.mono h, u.m, u.kp, u.b⟩
/-- a def as the top has left it -/
structure At (K : PySem.W.Frag) (mg : Str → Option Value) (x : Str) (st : Stmt) where
  f : Addr
  fd : FuncData
  F : Fun K x x st f fd
  m : mg x = some (.ref f)
def use {st : Stmt} (d : At K mg x st) (b : Binds K d.fd ps []) (ok : FnOk P w K mg base CX0 k d.f d.fd ps sp) : Use P w K mg base x ps k sp := ⟨d.f, d.fd, ok, d.m, d.F.kp, b⟩
def useX {st : Stmt} (d : At K mg x st) (b : Binds K d.fd ps []) (ok : FnOk P w K mg base (L2.CX P w) k d.f d.fd ps sp) : UseX P w K mg base x ps k sp := ⟨d.f, d.fd, ok, d.m, d.F.kp, b⟩
def useG {st : Stmt} (d : At K mg x st) (b : Binds K d.fd ps []) (ok : FnG P w K mg base k d.f d.fd ps sp) : UseG P w K mg base x ps k sp := ⟨d.f, d.fd, ok, d.m, d.F.kp, b⟩
/-- one def, from what the top has written -/
def at_mk {h : Heap} {x : Str} {st : Stmt} (X : K.In h) (G : h.Ns mainGlobals mg) {f : Addr} {od an : Option Addr} {sl : Array (Option Value)} {oc kV dc pm cd ct : Value} (a : PySem.W.nsIn K mainGlobals x = some (some (.ref f)))
    (l : K.lookup f = some ⟨oc, od, .func (PySem.W.fnOf x x (defArgs st) (defBody st) (defScope st) .none kV dc pm an cd ct), sl⟩) (c : PySem.W.codeIn K cd x = true) (k : PySem.W.keepIn K (.ref f) = true) : At K mg x st :=
  ⟨f, _, fun_mk (st := st) l c k, PySem.W.mg_of X G a⟩
end
end Tl
set_option Elab.async false
set_option linter.all false
set_option maxRecDepth 100000
set_option maxHeartbeats 4000000
/-! Places, levels and parts of a tree that is data. -/
namespace Tl
open PySem L2
def pathD (q : List Nat) : PyData := .tuple (q.map fun n : Nat => .int (n : Int))
mutual
def plc : PyData → List (List Nat)
  | .tuple [_, .tuple ks] => [] :: plcAll 0 ks
  | _ => [[]]
def plcAll : Nat → List PyData → List (List Nat)
  | _, [] => []
  | i, k :: ks => (plc k).map (i :: ·) ++ plcAll (i + 1) ks
end
mutual
def lev : PyData → Nat
  | .tuple [_, .tuple ks] => 1 + levAll ks
  | _ => 1
def levAll : List PyData → Nat
  | [] => 0
  | k :: ks => max (lev k) (levAll ks)
end
/-- the part at a path -/
def sub : PyData → List Nat → Option PyData
  | d, [] => some d
  | .tuple [_, .tuple ks], n :: q => (match ks[n]? with | some k => sub k q | none => none)
  | _, _ :: _ => none
def optP : Option PyData → PyData
  | some d => d
  | none => .none
theorem plc_node (s : PyData) (ks : List PyData) : plc (.tuple [s, .tuple ks]) = [] :: plcAll 0 ks := by rw [plc]
theorem sub_node (s : PyData) (ks : List PyData) (n : Nat) (q : List Nat) : sub (.tuple [s, .tuple ks]) (n :: q) = (match ks[n]? with | some k => sub k q | none => none) := by rw [sub]
theorem sub_nil (d : PyData) : sub d [] = some d := by
  rw [sub]
theorem plcAll_app : ∀ (i : Nat) (a b : List PyData), plcAll i (a ++ b) = plcAll i a ++ plcAll (i + a.length) b
  | i, [], b => by rw [plcAll]; rfl
  | i, k :: a, b => by
    rw [List.cons_append, plcAll, plcAll, plcAll_app (i + 1) a b, List.append_assoc, List.length_cons, show i + 1 + a.length = i + (a.length + 1) by omega]
theorem plcAll_one (i : Nat) (k : PyData) : plcAll i [k] = (plc k).map (i :: ·) := by rw [plcAll, plcAll, List.append_nil]
mutual
theorem plc_len : ∀ {n : Nat} {d : PyData}, TrT n d → (plc d).length = nn d
  | 0, _, h => h.elim
  | n + 1, d, h => by
    obtain ⟨s, ks, rfl, _, hk⟩ := h
    rw [plc_node, List.length_cons, plcAll_len 0 hk, nn]
    omega
theorem plcAll_len : ∀ {n : Nat} {ks : List PyData} (i : Nat), (∀ k ∈ ks, TrT n k) → (plcAll i ks).length = nnAll ks
  | _, [], _, _ => by rw [plcAll, nnAll]; rfl
  | n, k :: ks, i, h => by rw [plcAll, List.length_append, List.length_map, plc_len (h k (.head _)), plcAll_len (i + 1) fun x hx => h x (.tail _ hx), nnAll]
end
theorem sub_tr : ∀ {q : List Nat} {n : Nat} {d e : PyData}, TrT n d → sub d q = some e → TrT (n - q.length) e ∧ q.length < n ∧ nn e ≤ nn d
  | [], n, d, e, h, hs => by
    rw [sub_nil] at hs
    cases hs
    refine ⟨h, ?_, Nat.le_refl _⟩
    cases n with
    | zero => exact h.elim
    | succ n => exact Nat.succ_pos _
  | i :: q, 0, d, e, h, hs => h.elim
  | i :: q, n + 1, d, e, h, hs => by
    obtain ⟨s, ks, rfl, _, hk⟩ := h
    rw [sub_node] at hs
    cases c : ks[i]? with
    | none => rw [c] at hs; cases hs
    | some k =>
      rw [c] at hs
      have hm := List.mem_of_getElem? c
      obtain ⟨h1, h2, h3⟩ := sub_tr (hk k hm) hs
      refine ⟨?_, by rw [List.length_cons]; omega, ?_⟩
      · rw [List.length_cons, show n + 1 - (q.length + 1) = n - q.length by omega]
        exact h1
      · have : ∀ {ks : List PyData} {k : PyData}, k ∈ ks → nn k ≤ nnAll ks := fun {ks k} h => by
          induction ks with
          | nil => cases h
          | cons z r ih =>
            rw [nnAll]
            rcases List.mem_cons.mp h with rfl | h
            · omega
            · have := ih h; omega
        have := this hm
        rw [nn]
        omega
mutual
theorem plc_sub : ∀ {n : Nat} {d : PyData}, TrT n d → ∀ q ∈ plc d, ∃ e, sub d q = some e
  | 0, _, h => h.elim
  | n + 1, d, h => by
    obtain ⟨s, ks, rfl, _, hk⟩ := h
    intro q hq
    rw [plc_node] at hq
    rcases List.mem_cons.mp hq with rfl | hq
    · exact ⟨_, sub_nil _⟩
    · obtain ⟨i, r, k, rfl, _, hi, hr⟩ := plcAll_sub 0 hk q hq
      obtain ⟨e, he⟩ := hr
      exact ⟨e, by rw [sub_node, show ks[i]? = some k by rw [← hi]; rfl]; exact he⟩
theorem plcAll_sub : ∀ {n : Nat} {ks : List PyData} (j : Nat), (∀ k ∈ ks, TrT n k) → ∀ q ∈ plcAll j ks, ∃ i r k, q = i :: r ∧ j ≤ i ∧ ks[i - j]? = some k ∧ ∃ e, sub k r = some e
  | _, [], _, _, q, hq => by rw [plcAll] at hq; cases hq
  | n, k :: ks, j, h, q, hq => by
    rw [plcAll] at hq
    rcases List.mem_append.mp hq with hq | hq
    · obtain ⟨r, hr, rfl⟩ := List.mem_map.mp hq
      obtain ⟨e, he⟩ := plc_sub (h k (.head _)) r hr
      exact ⟨j, r, k, rfl, Nat.le_refl _, by rw [Nat.sub_self]; rfl, e, he⟩
    · obtain ⟨i, r, k', rfl, hi, hk, he⟩ := plcAll_sub (j + 1) (fun x hx => h x (.tail _ hx)) q hq
      exact ⟨i, r, k', rfl, by omega, by rw [show i - j = (i - (j + 1)) + 1 by omega]; exact hk, he⟩
end
/-- a new list, told as data -/
theorem FnOk.dat {P : Program} {w : World} {K : PySem.W.Frag} {mg : Str → Option Value} {base : Heap} {CX : CXT} {f : Addr} {fd : FuncData} {k n : Nat} {ps : List Str} {tf tf' : TF} (F : FnOk P w K mg base CX k f fd ps (spD K n tf))
    (h : ∀ ws M R RX, ws.length = n → tf' ws M R RX → tf ws M (fun x M' => ∃ p ds, x = .r p ∧ M p = none ∧ M' = mset M p (.lst (ds.map W.d)) ∧ R (.d (.list ds)) M) RX) : FnOk P w K mg base CX k f fd ps (spD K n tf') :=
  F.imp fun vs H Q E ⟨F0, M, ws, R, RX, r, rs, hl, hf, hk, hx⟩ => ⟨F0, M, ws, _, RX, r, rs, hl, h ws M R RX hl hf, fun v H' F' M' x r' g rx q => by
    obtain ⟨p, ds, rfl, hp, rfl, hR⟩ := q
    obtain ⟨F2, r2, g2, d2⟩ := r'.freeze (p := p) (ds := ds) mset_same
    rw [mdel_mset, mdel_none hp] at r2 g2
    rw [rx.ref]
    exact hk _ H' F2 M _ r2 (g.trans g2) (.d d2) hR, hx⟩
theorem mapW {α : Type} (g : α → PyData) (xs : List α) : (xs.map g).map W.d = xs.map fun a => W.d (g a) := by rw [List.map_map]; rfl
end Tl
set_option Elab.async false
set_option linter.all false
set_option maxRecDepth 100000
set_option maxHeartbeats 4000000
/-! The very value told; count papers. -/
namespace Tl
open PySem L2
/-- a row of a count paper -/
def rowD (q : List Nat) (m h : Nat) : PyData := .tuple [pathD q, .int (m : Int), .int (h : Int)]
end Tl
set_option Elab.async false
set_option linter.all false
set_option maxRecDepth 100000
set_option maxHeartbeats 4000000
/-! More names at once; what is good to be shown, decided. -/
namespace Tl
open PySem L2
instance {m k : Nat} {d : PyData} : Decidable (Gk m k d) := inferInstanceAs (Decidable (_ ∧ _ ∧ _))
instance {m k : Nat} {d : List PyData} : Decidable (Gks m k d) := inferInstanceAs (Decidable (_ ∧ _ ∧ _))
theorem Gks.of {m k : Nat} : ∀ {ds : List PyData}, (∀ d ∈ ds, Gk m k d) → Gks ((m + 2) * ds.length) k ds
  | [], _ => ⟨rfl, Nat.zero_le _, Nat.zero_le _⟩
  | d :: ds, h => Gks.cons (h d (.head _)) (Gks.of fun x hx => h x (.tail _ hx)) (by rw [List.length_cons, Nat.mul_succ]; omega)
theorem Gks.mono {m k m' k' : Nat} {ds : List PyData} (h : Gks m k ds) (h1 : m ≤ m') (h2 : k ≤ k') : Gks m' k' ds := ⟨h.1, Nat.le_trans h.2.1 h1, Nat.le_trans h.2.2 h2⟩
theorem Gks.ofL {m k n m' : Nat} {ds : List PyData} (h : ∀ d ∈ ds, Gk m k d) (hl : ds.length ≤ n) (hm : (m + 2) * n ≤ m') : Gks m' k ds := (Gks.of h).mono (Nat.le_trans (Nat.mul_le_mul (Nat.le_refl _) hl) hm) (Nat.le_refl _)
theorem GdE.of {m k : Nat} {d : PyData} (h : Gk m k d) (h1 : m ≤ 1000000) (h2 : k ≤ 40) : GdE d := .inl (h.mono h1 h2)
theorem small41 {i : Int} (h : -100000 ≤ i) (h2 : i ≤ 100000) : i.natAbs < 10 ^ 41 := Nat.lt_of_le_of_lt (show i.natAbs ≤ 100000 by omega) (by decide)
theorem gk_i {i : Int} {k : Nat} (h : -100000 ≤ i) (h2 : i ≤ 100000) : Gk 1930 k (.int i) := gk_int (small41 h h2) (Nat.le_refl _)
/-- good to be shown, up to a greater weight -/
def GdB (d : PyData) : Prop := Gk 8000000 40 d ∨ d = .dict []
theorem GdB.of {m k : Nat} {d : PyData} (h : Gk m k d) (h1 : m ≤ 8000000) (h2 : k ≤ 40) : GdB d := .inl (h.mono h1 h2)
theorem GdB.sh {d : PyData} (h : GdB d) : (d.hasDict = false ∨ d = .dict []) ∧ shOk d := by
  rcases h with h | rfl
  · refine ⟨.inl (gd_nd d h.1), gd_show d h.1, by have := h.2.2; omega, ?_⟩
    have := shown_le d h.1
    have h2 := h.2.1
    exact Nat.le_trans (Nat.le_trans this h2) (by decide)
  · exact ⟨.inr rfl, by decide +kernel, by decide +kernel, by decide +kernel⟩
/-! ### papers -/
structure ROk (d : PyData) : Prop where
  e : ∃ (q : List Nat) (m h : Nat), d = rowD q m h ∧ q.length ≤ 12 ∧ (∀ i ∈ q, i ≤ 60) ∧ m ≤ 60 ∧ h ≤ 12
theorem ROk.g {d : PyData} (r : ROk d) : Gk 30000 2 d := by
  obtain ⟨q, m, h, rfl, h1, h2, h3, h4⟩ := r.e
  unfold rowD
  have hp : Gk 25000 1 (pathD q) := by
    unfold pathD
    refine (Gks.ofL (m := 1930) (k := 0) (n := 12) (m' := 24000) (fun d hd => ?_) (by rw [List.length_map]; exact h1) (by decide)).tup (by decide)
    obtain ⟨i, hi, rfl⟩ := List.mem_map.mp hd
    have := h2 i hi
    exact gk_i (by omega) (by omega)
  exact (Gks.cons (m' := 3864) (m'' := 28866) hp (.cons (m' := 1932) (gk_i (by omega) (by omega)) (.cons (m' := 0) (gk_i (by omega) (by omega)) .nil (by decide)) (by decide)) (by decide)).tup (by decide)
structure POk (ds : List PyData) : Prop where
  n0 : 1 ≤ ds.length
  n1 : ds.length ≤ 60
  e : ∀ d ∈ ds, ROk d
theorem POk.g {ds : List PyData} (h : POk ds) : Gks 1900000 2 ds := Gks.ofL (m := 30000) (n := 60) (fun d hd => (h.e d hd).g) h.n1 (by decide)
end Tl
set_option Elab.async false
set_option linter.all false
set_option maxRecDepth 100000
set_option maxHeartbeats 4000000
/-! A law whose source of numbers is a list with the script itself. -/
set_option Elab.async false
set_option linter.all false
set_option maxRecDepth 100000
set_option maxHeartbeats 4000000
/-! Places in the walk behind, and the least number within each part. -/
namespace Tl
open PySem L2
mutual
def plb : PyData → List (List Nat)
  | .tuple [_, .tuple ks] => plbAll 0 ks ++ [[]]
  | _ => [[]]
def plbAll : Nat → List PyData → List (List Nat)
  | _, [] => []
  | i, k :: ks => (plb k).map (i :: ·) ++ plbAll (i + 1) ks
end
theorem plb_node (s : PyData) (ks : List PyData) : plb (.tuple [s, .tuple ks]) = plbAll 0 ks ++ [[]] := by rw [plb]
theorem plbAll_app : ∀ (i : Nat) (a b : List PyData), plbAll i (a ++ b) = plbAll i a ++ plbAll (i + a.length) b
  | i, [], b => by rw [plbAll]; rfl
  | i, k :: a, b => by
    rw [List.cons_append, plbAll, plbAll, plbAll_app (i + 1) a b, List.append_assoc, List.length_cons, show i + 1 + a.length = i + (a.length + 1) by omega]
theorem plbAll_one (i : Nat) (k : PyData) : plbAll i [k] = (plb k).map (i :: ·) := by rw [plbAll, plbAll, List.append_nil]
mutual
theorem plb_len : ∀ {n : Nat} {d : PyData}, TrT n d → (plb d).length = nn d
  | 0, _, h => h.elim
  | n + 1, d, h => by
    obtain ⟨s, ks, rfl, _, hk⟩ := h
    rw [plb_node, List.length_append, plbAll_len 0 hk, nn, List.length_singleton]
    omega
theorem plbAll_len : ∀ {n : Nat} {ks : List PyData} (i : Nat), (∀ k ∈ ks, TrT n k) → (plbAll i ks).length = nnAll ks
  | _, [], _, _ => by rw [plbAll, nnAll]; rfl
  | n, k :: ks, i, h => by rw [plbAll, List.length_append, List.length_map, plb_len (h k (.head _)), plbAll_len (i + 1) fun x hx => h x (.tail _ hx), nnAll]
end
/-- the law's rows: a place, its tag, the number at which its part begins -/
abbrev Wk := List Nat × PyData × Nat
mutual
def wk : PyData → List Nat → Nat → List Wk
  | .tuple [s, .tuple ks], q, n => wkAll ks q 0 n ++ [(q, s, n)]
  | d, q, n => [(q, d, n)]
def wkAll : List PyData → List Nat → Nat → Nat → List Wk
  | [], _, _, _ => []
  | k :: ks, q, i, n => wk k (q ++ [i]) n ++ wkAll ks q (i + 1) (n + nn k)
end
end Tl
set_option Elab.async false
set_option linter.all false
set_option maxRecDepth 100000
set_option maxHeartbeats 4000000
/-! Defs that are handed on by a name: a walk over some of them, a call of one of them. -/
set_option Elab.async false
set_option linter.all false
set_option maxRecDepth 100000
set_option maxHeartbeats 4000000
/-! list.pop() and min of a list. -/
set_option Elab.async false
set_option linter.all false
set_option maxRecDepth 100000
set_option maxHeartbeats 4000000
/-! A list beside the empty list. -/
namespace Tl
open PySem L2
section
variable {X : Cx}
def rEqN : R2 := fun x y H Q => ∃ a b xs, x = .ref a ∧ y = .ref b ∧ H a = some (.lst xs) ∧ H b = some (.lst []) ∧ Q (.bl xs.isEmpty) H
theorem op_eqN (hu : X.A.units + 64 < cLine) : OpR X (compareOp .Eq) rEqN := by
  intro pins s σ H x y v u Q I rx ry h
  obtain ⟨a, b, xs, rfl, rfl, ea, eb, q⟩ := h
  obtain rfl : v = Value.ref a := rx
  obtain rfl : u = Value.ref b := ry
  obtain ⟨za, ia, na, ra, la, ha⟩ := I.lstM ea
  obtain ⟨zb, ib, nb, rb, lb, hb⟩ := I.lstM eb
  have e0 : ib = [] := by cases rb; rfl
  subst e0
  have hl : s.heap.IsList a ia.toArray := ⟨_, ha, rfl, na, rfl⟩
  have hl2 : s.heap.IsList b #[] := ⟨_, hb, rfl, nb, rfl⟩
  cases xs with
  | nil =>
    have e1 : ia = [] := by cases ra; rfl
    subst e1
    exact SeqAt.eq_listAt (e := fun _ => true) hl hl2 rfl (by omega) (fun j h1 _ => absurd h1 (by simp)) ⟨.bl _, H, I, rfl, q⟩
  | cons x0 r0 =>
    refine SeqAt.eq_list_lengthsAt hl hl2 ?_ (by omega) ⟨.bl _, H, I, rfl, q⟩
    rw [List.size_toArray, ← la, List.length_cons]
    simp
end
section
variable {K : PySem.W.Frag}
/-- a list, whatever is in it, beside [] -/
@[reducible] def fEqN (neg : Bool) : F2 := fun x y M R => y = .d (.list []) ∧ gW M x fun ws => R (.d (.bool (ng neg ws.isEmpty))) M
theorem rws_empty {F : Hp} {vs : List V} {ws : List W} (h : RWs K F vs ws) : vs.isEmpty = ws.isEmpty := by cases h <;> rfl
theorem so_eqN : SO K rEqN (fEqN false) := fun F H M v u x y R Q hr rx ry hf k => by
  obtain ⟨rfl, h1⟩ := hf
  obtain ⟨a, vs, ws, rfl, h2, h3, h4⟩ := gW_of hr rx h1
  obtain ⟨b, us, rfl, h5, h6⟩ := ry.lst
  cases h6
  refine ⟨a, b, vs, rfl, rfl, h2, hr.fh _ _ h5, ?_⟩
  rw [rws_empty h3]
  exact k _ H F M _ hr .refl (.d (.bl _)) h4
end
end Tl
set_option Elab.async false
set_option linter.all false
set_option maxRecDepth 100000
set_option maxHeartbeats 4000000
/-! Objects of own classes: fields, methods, making one. -/
namespace Tl
open PySem PySem.Spec PyProof.Rows L2
/-! ### fields -/
section
variable {K : PySem.W.Frag} {F H : Hp} {M : Mem}
theorem PrR.len {F : Hp} {fv : List (Str × V)} {fw : List (Str × W)} (h : PrR K F fv fw) : fv.length = fw.length := by
  have := congrArg List.length h.1
  simpa using this
theorem Rl.ins (h : Rl K F H M) {a C dx : Addr} {fw : List (Str × W)} (e : M a = some (.ins C dx fw)) : ∃ fv, H a = some (.ins C dx fv) ∧ PrR K F fv fw := by
  obtain ⟨u, h1, fv, rfl, h2⟩ := h.at_ a _ e
  exact ⟨fv, h1, h2⟩
end
end Tl
set_option Elab.async false
set_option linter.all false
set_option maxRecDepth 100000
set_option maxHeartbeats 4000000
/-! Errors with a field, raised. -/
namespace Tl
open PySem PySem.Spec PyProof.Rows L2
def inClsN (s : Stmt) (i : Nat) : Stmt := match s with
  | .ClassDef _ _ _ b _ _ _ _ _ _ _ => b.getD i (.Pass ⟨0, 0, 0, 0⟩)
  | _ => .Pass ⟨0, 0, 0, 0⟩
def spInitF (K : PySem.W.Frag) (C : Addr) (fld : Str) : Sp := fun vs H Q _ => ∃ (a : Addr) (v : V), vs = [.ref a, v] ∧ H a = some (exo a C none) ∧ ∀ dx, H dx = none → dx ≠ a → Q .non (upd (upd H dx (exd dx [(fld, v)])) a (exo a C (some dx)))
/-- an own error with one field, as the top has left it -/
structure ErF (K : PySem.W.Frag) (mg : Str → Option Value) (nm qual fld : Str) (st : Stmt) (C : Addr) : Prop where
  o : OexC K C
  g : mg nm = some (.ref C)
  n : PySem.W.findIn K (.ref C) fld = some none
  i : ∃ fI fdI, PySem.W.findIn K (.ref C) "__init__" = some (some (.ref fI)) ∧ PySem.W.typeIn K (.ref fI) = some (.type "function") ∧ Fun K "__init__" qual st fI fdI
section
variable {K : PySem.W.Frag} {Wx : WX} {RE : REx}
@[reducible] def raiseF (RE : REx) (C : Addr) (fld : Str) (T : TDA) : TDS := fun _ ρ M => T ρ M fun xs M1 => g1 xs fun x => gD x fun d => RE ⟨.ref C, [(fld, d)]⟩ ρ M1
theorem ss_raiseF {C : Addr} {fld : Str} {n : Nat} {t : TA} {T : TDA} (h : SAn K Wx RE n t T) : SSt K Wx RE (fun _ σ H => tMkO C (spInitF K C fld) [] t σ H fun cls d H' => Wx cls d σ H') (raiseF RE C fld T) := fun F H M σ ρ D E hr hx hs ht k =>
  h F H M σ ρ _ _ hr hx hs ht fun vs H1 F1 M1 xs r1 g1 rxs hl q1 => by
    obtain ⟨x, rfl, q2⟩ := g1_of q1
    obtain ⟨d, rfl, q3⟩ := gD_of q2
    obtain ⟨v, rfl, rv⟩ := rxs.one
    refine ⟨by show 1 ≤ 1000; decide, fun a ha => ⟨a, v, rfl, upd_same, fun dx hd1 hd2 => ⟨rfl, dx, [(fld, v)], upd_same, ?_, ?_, ?_⟩⟩⟩
    · rw [upd_ne hd2]
      exact upd_same
    · rw [upd_ne hd2] at hd1
      exact hd1
    · rw [upd_ne hd2] at hd1
      have e : upd (L2.del (upd (upd (upd H1 a (exo a C none)) dx (exd dx [(fld, v)])) a (exo a C (some dx))) a) dx (.xd [(fld, v)]) = upd H1 dx (.xd [(fld, v)]) := by
        funext b
        by_cases c : b = dx
        · rw [c, upd_same, upd_same]
        · rw [upd_ne c, upd_ne c]
          by_cases c2 : b = a
          · subst c2
            show (if b = b then none else _) = _
            rw [if_pos rfl, ha]
          · rw [L2.del_ne c2, upd_ne c2, upd_ne c, upd_ne c2]
      rw [e]
      obtain ⟨r2, g2⟩ := r1.fresh (u := .xd [(fld, v)]) hd1
      have g := g1.trans g2
      refine hx (upd F1 dx (.xd [(fld, v)])) _ M1 σ ρ (.ref C) (some dx) ⟨.ref C, [(fld, d)]⟩ g r2 (hs.mono g.ff) ⟨rfl, [(fld, v)], upd_same, rfl, .cons (Dx.mono g2.ff _ _ rv.dx) .nil⟩ q3
/-! ### isinstance of data, one of some built-in classes -/
def tyAny (d : PyData) : List String → Option Bool
  | [] => some false
  | n :: r => (tyIs d n).bind fun b => if b = true then some true else tyAny d r
inductive gNs (ys : List W) (k : List String → Prop) : Prop where
  | mk (ns : List String) (h : ys = ns.map fun n => W.o (.ty n)) (q : k ns)
theorem gNs_n {k : List String → Prop} (q : k []) : gNs [] k := .mk [] rfl q
theorem gNs_c {n : String} {r : List W} {k : List String → Prop} (h : gNs r fun ns => k (n :: ns)) : gNs (.o (.ty n) :: r) k := by
  obtain ⟨ns, rfl, q⟩ := h
  exact .mk (n :: ns) rfl q
theorem tyAny_lt {d : PyData} : tyAny d ["list", "tuple"] = some (isList d || isTup d) := by
  rw [tyAny, tyAny, tyAny, tyIs_list, tyIs_tuple]
  cases isList d <;> cases isTup d <;> rfl
end
end Tl
set_option Elab.async false
set_option linter.all false
set_option maxRecDepth 100000
set_option maxHeartbeats 4000000
/-! list and tuple of a range; a list taken apart; equal data. -/
namespace Tl
open PySem L2
mutual
theorem eqv_self : ∀ d : PyData, d.hasDict = false → PyData.eqv d d = true
  | .none, _ => rfl
  | .bool b, _ => by rw [PyData.eqv]; exact beq_self_eq_true b
  | .int i, _ => by rw [PyData.eqv]; exact beq_self_eq_true i
  | .str x, _ => by rw [PyData.eqv]; exact beq_self_eq_true x
  | .list ds, h => by rw [PyData.hasDict] at h; rw [PyData.eqv]; exact eqvAll_self ds h
  | .tuple ds, h => by rw [PyData.hasDict] at h; rw [PyData.eqv]; exact eqvAll_self ds h
  | .dict _, h => by rw [PyData.hasDict] at h; cases h
theorem eqvAll_self : ∀ ds : List PyData, PyData.hasDictAll ds = false → PyData.eqvAll ds ds = true
  | [], _ => rfl
  | d :: r, h => by
    rw [PyData.hasDictAll, Bool.or_eq_false_iff] at h
    rw [PyData.eqvAll, eqv_self d h.1, eqvAll_self r h.2]
    rfl
end
end Tl
set_option Elab.async false
set_option linter.all false
set_option maxRecDepth 100000
set_option maxHeartbeats 4000000
/-! Slices of lists stored; tables by words (dicts that the top has left for good). -/
namespace Tl
open PySem PySem.Spec PyProof.Rows L2
/-! ### x in a list, of any data -/
theorem room65 {k : Nat} {A : Around} (r : Room k A) : A.units + 65 < cLine := by have := r.un; omega
/-! ### slices, by places -/
/-! ### tables -/
/-- what stands in a table: a def, or data -/
inductive TV where
  | f (a : Addr)
  | d (x : PyData)
@[reducible] def TV.w : TV → W
  | .f a => .o (.ref a)
  | .d x => .d x
end Tl
set_option Elab.async false
set_option linter.all false
set_option maxRecDepth 100000
set_option maxHeartbeats 4000000
namespace Tl
open PySem L2 RZ
local macro_rules
  | `(tactic| decreasing_trivial) => `(tactic| ((with_reducible (conv => whnf)); (repeat ((first | (with_reducible refine gDs_c ?_) | (with_reducible refine gDs_n ?_) | (with_reducible refine gNs_c ?_) | (with_reducible refine gNs_n ?_) | (with_reducible refine gO_i tyAny_lt ?_) | (with_reducible refine gIs_c ?_) | (with_reducible refine gIs_n ?_) | (with_reducible refine gBs_c ?_) | (with_reducible refine gBs_n ?_) | (with_reducible refine gSs_c ?_) | (with_reducible refine gSs_n ?_) | (with_reducible refine gO_i tyIs_int ?_) | (with_reducible refine gO_i tyIs_bool ?_) | (with_reducible refine gO_i tyIs_str ?_) | (with_reducible refine gO_i tyIs_tuple ?_) | (with_reducible refine gO_i tyIs_list ?_) | (with_reducible refine gDs_i ?_) | (with_reducible refine gO_i (Eq.refl _) ?_) | (with_reducible refine gO_i (by assumption) ?_) | (with_reducible refine gO_i at_0 ?_) | (with_reducible refine gO_i at_m0 ?_) | (with_reducible refine gO_i at_1 ?_) | (with_reducible refine gO_i at_m1 ?_) | (with_reducible refine gO_i at_2 ?_) | (with_reducible refine gO_i at_m2 ?_) | (with_reducible refine gO_i at_3 ?_) | (with_reducible refine gO_i at_m3 ?_) | (with_reducible refine gO_i at_4 ?_) | (with_reducible refine gO_i at_m4 ?_) | (with_reducible refine gO_i at_5 ?_) | (with_reducible refine gO_i at_m5 ?_) | (with_reducible refine gO_i at_6 ?_) | (with_reducible refine gO_i at_m6 ?_) | (with_reducible refine gO_i at_7 ?_) | (with_reducible refine gO_i at_m7 ?_) | (with_reducible refine IfB.ngf ?_) | (with_reducible refine IfB.ngt ?_) | (with_reducible refine IfB.not ?_) | (with_reducible refine IfB.nil ?_) | (with_reducible refine IfB.nilT ?_) | (with_reducible refine IfB.f isE_c ?_) | (with_reducible refine IfB.t isE_n ?_) | (with_reducible refine IfB.t ?gha ?_; (case gha => rfl)) | (with_reducible refine IfB.f ?gha ?_; (case gha => rfl)) | (with_reducible refine IfB.t ?gha ?_; (case gha => assumption)) | (with_reducible refine IfB.f ?gha ?_; (case gha => assumption)) | (with_reducible refine IfB.yes (Eq.refl _) ?_) | (with_reducible refine IfB.yes ?gha ?_; (case gha => (first | omega | (simp only [len_c, len_n, List.length_map]; omega)))) | (with_reducible refine IfB.no ?gha ?_; (case gha => (first | omega | (simp only [len_c, len_n, List.length_map]; omega)))) | (with_reducible refine IfB.t ?gha ?_; (case gha => decide +kernel)) | (with_reducible refine IfB.f ?gha ?_; (case gha => decide +kernel))); (with_reducible (conv => whnf))))))
local macro_rules
  | `(tactic| decreasing_trivial_pre_omega) => `(tactic| (decreasing_trivial; (repeat ((first | ((with_reducible refine And.intro ?gha ?_); (case gha => (first | assumption | omega | exact rfl | (exact mset_same) | (exact ⟨_, mset_same⟩) | (exact Exists.intro _ (by first | exact mset_same | assumption | (rw [mset_ne (by assumption)]; first | exact mset_same | assumption))) | (exact sm_of (by omega) (by omega)) | (exact sz1000 (by first | omega | (simp; done) | (simp; omega))) | (exact Or.inl ⟨by decide, by decide⟩) | decide | (simp; done) | (refine ⟨?_, ?_⟩ <;> (first | assumption | omega | exact rfl | (exact mset_same) | (exact ⟨_, mset_same⟩) | (exact Exists.intro _ (by first | exact mset_same | assumption | (rw [mset_ne (by assumption)]; first | exact mset_same | assumption))) | (exact sm_of (by omega) (by omega)) | (exact sz1000 (by first | omega | (simp; done) | (simp; omega))) | (exact Or.inl ⟨by decide, by decide⟩) | decide | (simp; done))) | (refine ⟨?_, ?_, ?_⟩ <;> (first | assumption | omega | exact rfl | (exact mset_same) | (exact ⟨_, mset_same⟩) | (exact Exists.intro _ (by first | exact mset_same | assumption | (rw [mset_ne (by assumption)]; first | exact mset_same | assumption))) | (exact sm_of (by omega) (by omega)) | (exact sz1000 (by first | omega | (simp; done) | (simp; omega))) | (exact Or.inl ⟨by decide, by decide⟩) | decide | (simp; done))) | (refine ⟨?_, ?_, ?_, ?_⟩ <;> (first | assumption | omega | exact rfl | (exact mset_same) | (exact ⟨_, mset_same⟩) | (exact Exists.intro _ (by first | exact mset_same | assumption | (rw [mset_ne (by assumption)]; first | exact mset_same | assumption))) | (exact sm_of (by omega) (by omega)) | (exact sz1000 (by first | omega | (simp; done) | (simp; omega))) | (exact Or.inl ⟨by decide, by decide⟩) | decide | (simp; done)))))) | (with_reducible refine exW (by first | exact mset_same | assumption | (rw [mset_ne (by assumption)]; first | exact mset_same | assumption)) ?_)); decreasing_trivial))))
def top (i : Nat) : Stmt := PySem.Challenge.pw_treelore_k29_orders_told.main.body.getD i (.Pass ⟨0, 0, 0, 0⟩)
section
variable {P : Program} {w : World} {K : PySem.W.Frag} {mg : Str → Option Value} {base : Heap}
abbrev sIsTag : Stmt := top 10
theorem scTag : FnScope ["thing", "sign"] ["thing"] (defScope sIsTag) := ⟨rfl, rfl, rfl, by decide +kernel, rfl, by decide +kernel, by decide +kernel⟩
theorem ok_tag {f : Addr} {fd : FuncData} {k : Nat} (F : Fun K "is_tag" "is_tag" sIsTag f fd) (T : Bl mg) (C : Cs mg) : FnOk P w K mg base CX0 (k + 1) f fd ["thing"] (spD K 1 (tfB isTag)) := by
  refine okD F scTag rfl fun cdv A outer s H E hr => ?_
  refine ⟨_, _, (pss_cons (ps_if (PW.pt (pw_or (pt_not (pt_val (pe_callB (r := rIsi K) call_isi (by rfl) T.isi PyProof.Rows.boot_isinstance (pa_cons (pv 0) (pa_cons (b_str T) pa_nil))))) (pw_or1 (pt_not (pt_chain op_le op_le pe_int (pe_callB call_len_str (by rfl) T.len PySem.boot_len (pa_cons (pv 0) pa_nil)) (c_SIGNS C)))))) (pss_one (ps_ret pe_bl)) pss_nil)
    (pss_one (ps_ret (pe_callB (cr_all rfl) (by rfl) T.all PyProof.Rows.boot_all (pa_cons (pe_lc (own := [("sign", 1)]) (g := gName 1) (tt := tYes) (by rfl) scTag.nd (pi_str (pv 0)) (blkOk_by (N := ["thing", "sign"]) (sc := defScope sIsTag) (own := [("sign", 1)]) (by decide +kernel)) (fun _ _ _ _ _ => pg_name (i := 1) scTag.nd rfl (Or.inl rfl)) (fun _ _ _ _ _ => pts_nil) (fun _ _ _ _ _ => (pe_chain op_le_str op_le_str pe_str (pv 1) pe_str))) pa_nil))))),
    (ss_cons (ss_if (st_or (st_not (st_val (se_cb sc_isi (sa_cons se_nm (sa_cons se_o sa_nil))))) (st_not (st_test (se_chain so_le so_le se_int (se_cb sc_lenS (sa_cons se_nm sa_nil)) se_int)))) (ss_ret se_bl) ss_nil)
    (ss_ret (se_cb sc_all (sa_cons (se_lcF (si_str se_nm) sg_name st_yes (se_chain so_leS so_leS se_str se_nm se_str)) sa_nil)))), fun ws M R RX hl h => ?_⟩
  obtain ⟨x, rfl, h1⟩ := g1_of h
  obtain ⟨d, rfl, ht, h2⟩ := gD_of h1
  cases d with
  | str z =>
    have hz : z.length ≤ 1000 := (txt_str ht).1
    simp only [start0, len_c, len_n, map_c, map_n, app_c, app_n, rep_0, rep_s, Nat.reduceAdd, Nat.reduceSub]
    decreasing_trivial_pre_omega
    rw [isTag] at h2
    refine IfB.d (fun c1 => ?_) (fun c1 => ?_)
    · rw [decide_eq_true (p := 1 ≤ z.length) (by omega)] at h2
      decreasing_trivial_pre_omega
      refine IfB.d (fun c2 => ?_) (fun c2 => ?_)
      · rw [decide_eq_true (p := z.length ≤ 8) (by omega)] at h2
        decreasing_trivial_pre_omega
        unfold signs
        refine lc1 (fun c => .d (.bool (small c))) trivial (fun c _ Rk q => ?_) (sz1000 (by show z.length ≤ 1000; omega)) ?_
        · decreasing_trivial_pre_omega
          rw [show decide ((⟨#[c]⟩ : Str).cps.toList < ("a" : Str).cps.toList) = !decide (97 ≤ c) by rw [← le_a, Bool.not_not]]
          unfold small at q
          decreasing_trivial_pre_omega
          refine IfB.d (fun c3 => ?_) (fun c3 => ?_)
          · decreasing_trivial_pre_omega
            rw [decide_eq_true c3, Bool.true_and] at q
            show Rk (W.d (.bool (!decide (("z" : Str).cps.toList < (⟨#[c]⟩ : Str).cps.toList)))) M
            rw [le_z c]
            exact q
          · decreasing_trivial_pre_omega
            rw [decide_eq_false c3] at q
            exact q
        · rw [show (z.cps.toList.map fun c => W.d (.bool (small c))) = (z.cps.toList.map fun c => PyData.bool (small c)).map W.d by rw [List.map_map]; rfl, gDs_map]
          decreasing_trivial_pre_omega
          rw [List.map_map]
          show gBs (z.cps.toList.map fun c => W.d (.bool (small c))) _
          rw [gBs_map]
          simpa using h2
      · rw [decide_eq_false (p := z.length ≤ 8) (by omega)] at h2
        decreasing_trivial_pre_omega
        exact h2
    · rw [decide_eq_false (p := 1 ≤ z.length) (by omega)] at h2
      decreasing_trivial_pre_omega
      exact h2
  | _ => simp only [start0, len_c, len_n, map_c, map_n, app_c, app_n, rep_0, rep_s, Nat.reduceAdd, Nat.reduceSub]; decreasing_trivial_pre_omega; exact h2
abbrev sTagKids : Stmt := top 13
theorem scTagKids : FnScope ["thing"] ["thing"] (defScope sTagKids) := ⟨rfl, rfl, rfl, by decide +kernel, rfl, by decide +kernel, by decide +kernel⟩
theorem ok_tagKids {f : Addr} {fd : FuncData} {k j : Nat} (F : Fun K "is_tag_and_kids" "is_tag_and_kids" sTagKids f fd) (Uis_tag : Use P w K mg base "is_tag" ["thing"] j (spD K 1 (tfB isTag))) (hj : j ≤ k) (T : Bl mg) : FnOk P w K mg base CX0 (k + 1) f fd ["thing"] (spD K 1 (tfB tagKids)) := by
  refine okD F scTagKids rfl fun cdv A outer s H E hr => ?_
  refine ⟨_, _, (pss_one (ps_ret (pe_and (pe_callB (r := rIsi K) call_isi (by rfl) T.isi PyProof.Rows.boot_isinstance (pa_cons (pv 0) (pa_cons (b_tuple T) pa_nil))) (pe_and (pe_cmpR op_eq (pe_callB call_len_seq (by rfl) T.len PySem.boot_len (pa_cons (pv 0) pa_nil)) pe_int (nomark _)) (pe_and (pe_call Uis_tag.ok (hr.mono (by omega)) rfl Uis_tag.m Uis_tag.kp Uis_tag.b .nil pass0 (pa_cons (pe_ix ix_tup (pv 0) pe_int (fun _ _ => rfl)) pa_nil)) (pe_one (pe_callB (r := rIsi K) call_isi (by rfl) T.isi PyProof.Rows.boot_isinstance (pa_cons (pe_ix ix_tup (pv 0) pe_int (fun _ _ => rfl)) (pa_cons (b_tuple T) pa_nil))))))))),
    (ss_ret (se_and (se_cb sc_isi (sa_cons se_nm (sa_cons se_o sa_nil))) (se_and (se_op so_eqS (se_cb sc_len (sa_cons se_nm sa_nil)) se_int) (se_and (se_call (sa_cons (se_op so_ixT se_nm se_int) sa_nil)) (se_cb sc_isi (sa_cons (se_op so_ixT se_nm se_int) (sa_cons se_o sa_nil))))))), fun ws M R RX hl h => ?_⟩
  obtain ⟨x, rfl, h1⟩ := g1_of h
  obtain ⟨d, rfl, ht, h2⟩ := gD_of h1
  cases d with
  | tuple ds =>
    match ds with
    | [] => simp only [start0, len_c, len_n, map_c, map_n, app_c, app_n, rep_0, rep_s, Nat.reduceAdd, Nat.reduceSub]; decreasing_trivial_pre_omega; exact h2
    | [_] => simp only [start0, len_c, len_n, map_c, map_n, app_c, app_n, rep_0, rep_s, Nat.reduceAdd, Nat.reduceSub]; decreasing_trivial_pre_omega; exact h2
    | _ :: _ :: _ :: _ => simp only [start0, len_c, len_n, map_c, map_n, app_c, app_n, rep_0, rep_s, Nat.reduceAdd, Nat.reduceSub]; decreasing_trivial_pre_omega; exact h2
    | [a, b] =>
      have hta : txt a = true := by rw [txt] at ht; exact txtAll_get (i := 0) ht rfl
      rw [tagKids] at h2
      simp only [start0, len_c, len_n, map_c, map_n, app_c, app_n, rep_0, rep_s, Nat.reduceAdd, Nat.reduceSub]
      decreasing_trivial_pre_omega
      cases c : isTag a
      · rw [c] at h2; decreasing_trivial_pre_omega; exact h2
      · rw [c] at h2; decreasing_trivial_pre_omega; exact h2
  | _ => simp only [start0, len_c, len_n, map_c, map_n, app_c, app_n, rep_0, rep_s, Nat.reduceAdd, Nat.reduceSub]; decreasing_trivial_pre_omega; exact h2
abbrev sRoom : Stmt := top 12
theorem scRoom : FnScope ["thing", "levels", "room", "left", "kid"] ["thing", "levels", "room"] (defScope sRoom) := ⟨rfl, rfl, rfl, by decide +kernel, rfl, by decide +kernel, by decide +kernel⟩
theorem ok_room1 {f : Addr} {fd : FuncData} {n j : Nat} (F : Fun K "room_behind" "room_behind" sRoom f fd) (Uroom_behind : Use P w K mg base "room_behind" ["thing", "levels", "room"] (2 + n) (spD K 3 (tfRoom n))) (Uis_tag_and_kids : Use P w K mg base "is_tag_and_kids" ["thing"] j (spD K 1 (tfB tagKids))) (hj : j ≤ 2) (T : Bl mg) :
    FnOk P w K mg base CX0 (2 + n + 1) f fd ["thing", "levels", "room"] (spD K 3 (tfRoom (n + 1))) := by
  refine okD F scRoom rfl fun cdv A outer s H E hr => ?_
  refine ⟨_, _, (pss_cons (ps_if (PW.pt (pw_or (pt_cmpR op_eq (pv 1) pe_int (nomark _)) (pw_or (pt_cmpR op_eq (pv 2) pe_int (nomark _)) (pw_or1 (pt_not (pt_val (pe_call Uis_tag_and_kids.ok (hr.mono (by omega)) rfl Uis_tag_and_kids.m Uis_tag_and_kids.kp Uis_tag_and_kids.b .nil pass0 (pa_cons (pv 0) pa_nil)))))))) (pss_one (ps_ret pe_non)) pss_nil)
    (pss_cons (ps_set (i := 3) scRoom.nd rfl (.inl rfl) (pe_op op_sub (pv 2) pe_int))
    (pss_cons (ps_for PassesOwn.never rfl (pi_tup (pe_ix ix_tup (pv 0) pe_int (fun _ _ => rfl))) (pg_name (i := 4) scRoom.nd rfl (.inl rfl)) (pss_cons (ps_set (i := 3) scRoom.nd rfl (.inl rfl) (pe_call Uroom_behind.ok (hr.mono (by omega)) rfl Uroom_behind.m Uroom_behind.kp Uroom_behind.b .nil pass0 (pa_cons (pv 4) (pa_cons (pe_op op_sub (pv 1) pe_int) (pa_cons (pv 3) pa_nil)))))
      (pss_one (ps_if (pt_cmpR op_isN (pv 3) pe_non (nomark _)) (pss_one (ps_ret pe_non)) pss_nil))))
    (pss_one (ps_ret (pv 3)))))),
    (ss_cons (ss_if (st_or (st_test (se_op so_eqS se_nm se_int)) (st_or (st_test (se_op so_eqS se_nm se_int)) (st_not (st_val (se_call (sa_cons se_nm sa_nil)))))) (ss_ret se_non) ss_nil)
    (ss_cons (ss_set (se_op so_sub se_nm se_int))
    (ss_cons (ss_for (si_tup (se_op so_ixT se_nm se_int)) sg_name (ss_cons (ss_set (se_call (sa_cons se_nm (sa_cons (se_op so_sub se_nm se_int) (sa_cons se_nm sa_nil)))))
      (ss_if (st_test (se_op so_isN se_nm se_non)) (ss_ret se_non) ss_nil)))
    (ss_ret se_nm)))), fun ws M R RX hl h => ?_⟩
  obtain ⟨d, l, r, rfl, ht, hln, h2⟩ := h
  simp only [start0, len_c, len_n, map_c, map_n, app_c, app_n, rep_0, rep_s, Nat.reduceAdd, Nat.reduceSub]
  decreasing_trivial_pre_omega
  refine IfB.d (fun c => ?_) (fun c => ?_)
  · decreasing_trivial_pre_omega
    have e : l = 0 := by omega
    subst e
    exact h2
  obtain ⟨l, rfl⟩ : ∃ l', l = l' + 1 := ⟨l - 1, by omega⟩
  decreasing_trivial_pre_omega
  refine IfB.d (fun c2 => ?_) (fun c2 => ?_)
  · decreasing_trivial_pre_omega
    have e : r = 0 := by omega
    subst e
    exact h2
  obtain ⟨r, rfl⟩ : ∃ r', r = r' + 1 := ⟨r - 1, by omega⟩
  decreasing_trivial_pre_omega
  rw [roomB] at h2
  cases c3 : tagKids d with
  | false =>
    rw [c3] at h2
    decreasing_trivial_pre_omega
    exact h2
  | true =>
    rw [c3, if_pos rfl] at h2
    decreasing_trivial_pre_omega
    obtain ⟨a0, ks, rfl⟩ : ∃ a0 ks, d = .tuple [a0, .tuple ks] := by
      unfold tagKids at c3
      split at c3
      · rename_i a b
        cases b with
        | tuple ks => exact ⟨a, ks, rfl⟩
        | _ => simp [isTup] at c3
      · cases c3
    have ht2 : txtAll ks = true := by
      rw [txt, txtAll, txtAll, txt] at ht
      simp only [Bool.and_eq_true] at ht
      exact ht.2.1
    rw [kidsD] at h2
    decreasing_trivial_pre_omega
    refine for1 (fun i ρ M' => ∃ (m : Nat) (y : Option W), ρ = [some (.d (.tuple [a0, .tuple ks])), some (.d (.int ((l + 1 : Nat) : Int))), some (.d (.int ((r + 1 : Nat) : Int))), some (.d (.int (m : Int))), y] ∧ M' = M ∧ (ks.take i).foldl (fun o kd => o.bind (roomB l kd)) (some r) = some m)
      ⟨r, none, by show [some _, some _, some _, some (W.d (.int (((r + 1 : Nat) : Int) - 1))), none] = _; rw [show (((r + 1 : Nat) : Int) - 1) = (r : Int) by omega], rfl, rfl⟩ (fun _ _ _ _ _ => trivial) (fun i kd ρ M' N hk p hN => ?_) (fun ρ M' p => ?_)
    · obtain ⟨m, y, rfl, rfl, hm⟩ := p
      have hf : (ks.take (i + 1)).foldl (fun o kd => o.bind (roomB l kd)) (some r) = roomB l kd m := by
        rw [List.take_add_one, hk, List.foldl_append, hm]
        rfl
      decreasing_trivial_pre_omega
      refine ⟨kd, l, m, by show [W.d kd, W.d (.int (((l + 1 : Nat) : Int) - 1)), W.d (.int (m : Int))] = _; rw [show (((l + 1 : Nat) : Int) - 1) = (l : Int) by omega], txtAll_get ht2 hk, by omega, ?_⟩
      cases hr2 : roomB l kd m with
      | none =>
        rw [hr2] at hf
        decreasing_trivial_pre_omega
        have e : ks.foldl (fun o kd => o.bind (roomB l kd)) (some r) = none := by
          rw [← List.take_append_drop (i + 1) ks, List.foldl_append, hf]
          exact fold_none _ _
        rw [e] at h2
        exact h2
      | some m' =>
        decreasing_trivial_pre_omega
        exact hN _ _ ⟨m', _, rfl, rfl, by rw [hf]; exact hr2⟩
    · obtain ⟨m, y, rfl, rfl, hm⟩ := p
      rw [List.take_length] at hm
      rw [hm] at h2
      exact h2
theorem ok_room {f : Addr} {fd : FuncData} {j : Nat} (F : Fun K "room_behind" "room_behind" sRoom f fd) (mF : mg "room_behind" = some (.ref f)) (Uis_tag_and_kids : Use P w K mg base "is_tag_and_kids" ["thing"] j (spD K 1 (tfB tagKids))) (hj : j ≤ 2) (T : Bl mg) :
    ∀ n, FnOk P w K mg base CX0 (2 + n) f fd ["thing", "levels", "room"] (spD K 3 (tfRoom n))
  | 0 => no0 fun ws M R RX ⟨_, _, _, _, _, h, _⟩ => by omega
  | n + 1 => ok_room1 F ⟨f, fd, ok_room F mF Uis_tag_and_kids hj T n, mF, F.kp, F.binds (ps := ["thing", "levels", "room"]) fun _ _ _ _ _ _ us hl => match us, hl with | [_, _, _], _ => rfl⟩ Uis_tag_and_kids hj T
abbrev sIsTree : Stmt := top 11
theorem scTree : FnScope ["thing"] ["thing"] (defScope sIsTree) := ⟨rfl, rfl, rfl, by decide +kernel, rfl, by decide +kernel, by decide +kernel⟩
theorem ok_tree {f : Addr} {fd : FuncData} {k j : Nat} (F : Fun K "is_tree" "is_tree" sIsTree f fd) (Uroom_behind : Use P w K mg base "room_behind" ["thing", "levels", "room"] j (spD K 3 (tfRoom 13))) (hj : j ≤ k) (C : Cs mg) : FnOk P w K mg base CX0 (k + 1) f fd ["thing"] (spD K 1 (tfB isTreeD)) := by
  refine okD F scTree rfl fun cdv A outer s H E hr => ?_
  refine ⟨_, _, (pss_one (ps_ret (pe_cmpR op_notN (pe_call Uroom_behind.ok (hr.mono (by omega)) rfl Uroom_behind.m Uroom_behind.kp Uroom_behind.b .nil pass0 (pa_cons (pv 0) (pa_cons (c_DEPTH C) (pa_cons (c_SIZE C) pa_nil)))) pe_non (nomark _)))),
    (ss_ret (se_op so_notN (se_call (sa_cons se_nm (sa_cons se_int (sa_cons se_int sa_nil)))) se_non)), fun ws M R RX hl h => ?_⟩
  obtain ⟨x, rfl, h1⟩ := g1_of h
  obtain ⟨d, rfl, ht, h2⟩ := gD_of h1
  simp only [start0, len_c, len_n, map_c, map_n, app_c, app_n, rep_0, rep_s, Nat.reduceAdd, Nat.reduceSub]
  decreasing_trivial_pre_omega
  refine ⟨d, 12, 60, rfl, ht, by omega, ?_⟩
  unfold isTreeD at h2
  cases hr : roomB 12 d 60 <;> (rw [hr] at h2; decreasing_trivial_pre_omega; exact h2)
abbrev sChkTree : Stmt := top 14
theorem scChkTree : FnScope ["thing"] ["thing"] (defScope sChkTree) := ⟨rfl, rfl, rfl, by decide +kernel, rfl, by decide +kernel, by decide +kernel⟩
theorem ok_chkTree {f C : Addr} {fd : FuncData} {k j : Nat} (F : Fun K "check_tree" "check_tree" sChkTree f fd) (XNoTree : Er K mg "NoTree" C) (Uis_tree : Use P w K mg base "is_tree" ["thing"] j (spD K 1 (tfB isTreeD))) (hj : j ≤ k) :
    FnOk P w K mg base (L2.CX P w) (k + 1) f fd ["thing"] (spD K 1 (tfChk isTreeD C)) := by
  refine okDX F scChkTree rfl fun cdv A outer s H E hr => ?_
  refine ⟨_, fun RE => _, (pss_one (ps_if (pt_not (pt_val (PE.nox (pe_call Uis_tree.ok (hr.mono (by omega)) rfl Uis_tree.m Uis_tree.kp Uis_tree.b .nil pass0 (pa_cons (pv 0) pa_nil))))) (pss_one (ps_raise rfl (takes_of (E := E) rfl rfl rfl rfl) (pmk_own0 PySem.F.excBase_ValueError XNoTree.x XNoTree.g XNoTree.k (raises_own XNoTree.b XNoTree.t) (by exact rfl)))) pss_nil)), fun RE => (ss_if (st_not (st_val (se_call (sa_cons se_nm sa_nil)))) ss_raise0 ss_nil), fun ws M R RX hl h => ?_⟩
  obtain ⟨x, rfl, h1⟩ := g1_of h
  obtain ⟨d, rfl, ht, h2, h3⟩ := gD_of h1
  simp only [start0, len_c, len_n, map_c, map_n, app_c, app_n, rep_0, rep_s, Nat.reduceAdd, Nat.reduceSub]
  decreasing_trivial_pre_omega
  cases c : isTreeD d
  · decreasing_trivial_pre_omega
    exact h3 c
  · decreasing_trivial_pre_omega
    exact h2 c
end
end Tl
set_option Elab.async false
set_option linter.all false
set_option maxRecDepth 100000
set_option maxHeartbeats 8000000
namespace Tl
open PySem L2 RZ
/-- a number below m from the source at st -/
@[reducible] def tfNext (b : Bool) : TF := fun ws M R _ => g2 ws fun x y => gR x fun st => gI y fun m => (M st = some (.src b) ∧ 1 ≤ m ∧ m ≤ 100000) ∧ ∀ r : Int, 0 ≤ r → r < m → R (.d (.int r)) M
theorem fm_pos (x : Int) {m : Int} (h : 0 < m) : 0 ≤ x.fmod m ∧ x.fmod m < m := ⟨Int.fmod_nonneg_of_pos x h, Int.fmod_lt_of_pos x h⟩
theorem fd_pos {x m : Int} (hx : 0 ≤ x) (h : 0 < m) : 0 ≤ x.fdiv m := by
  rw [Int.fdiv_eq_ediv_of_nonneg _ (Int.le_of_lt h)]
  exact Int.ediv_nonneg hx (Int.le_of_lt h)
theorem cut63 (ns : List Int) : cutV (ns.map V.int) none (some 63) = (ns.take 63).map V.int := by
  unfold cutV
  rw [HT.sIx_none, show HT.sIx (ns.map V.int).length (ns.map V.int).length (some 63) = min 63 (ns.map V.int).length from HT.sIx_nat (ns.map V.int).length (ns.map V.int).length 63, List.length_map]
  rw [Nat.sub_zero, List.drop_zero, List.map_take]
  by_cases h : 63 ≤ ns.length
  · rw [Nat.min_eq_left h]
  · rw [Nat.min_eq_right (by omega), List.take_of_length_le (by simp), List.take_of_length_le (by simp; omega)]
theorem at4 {c : Addr} {i p z : Int} : atI [V.ref c, .int i, .int p, .int z] 0 = some (.ref c) ∧ atI [V.ref c, .int i, .int p, .int z] 1 = some (.int i) ∧ atI [V.ref c, .int i, .int p, .int z] 2 = some (.int p) ∧ atI [V.ref c, .int i, .int p, .int z] 3 = some (.int z) :=
  ⟨atI_nat (j := 0) rfl, atI_nat (j := 1) rfl, atI_nat (j := 2) rfl, atI_nat (j := 3) rfl⟩
theorem nz29 : (2147483629 : Int) ≠ 0 := by decide
theorem nz47 : (2147483647 : Int) ≠ 0 := by decide
section
variable {P : Program} {w : World} {K : PySem.W.Frag} {mg : Str → Option Value} {base : Heap}
/-- the source as it stands, and how it goes on -/
theorem src_at {b : Bool} {F H : Hp} {M : Mem} {st : Addr} {R : W → Mem → Prop} {Q : VK} {m : Int} (hr : Rl K F H M) (hM : M st = some (.src b)) (hk : Kt K F H M R Q) (q : ∀ r : Int, 0 ≤ r → r < m → R (.d (.int r)) M) :
    ∃ (c : Addr) (cs : List Int) (i p z : Int), H st = some (.lst [.ref c, .int i, .int p, .int z]) ∧ SqL K H c (cs.map V.int) ∧ (∀ o, SqL K (upd H st o) c (cs.map V.int)) ∧ cs.length ≤ 63 ∧ (b = true → 0 < cs.length) ∧ 0 ≤ i ∧ 0 ≤ p ∧ 0 ≤ z ∧ z < (if b = true then 2147483647 else 2305843009213693951) ∧
      ∀ r i' p' z' : Int, 0 ≤ r → r < m → 0 ≤ i' → 0 ≤ p' → 0 ≤ z' → z' < (if b = true then 2147483647 else 2305843009213693951) → Q (.int r) (upd H st (.lst [.ref c, .int i', .int p', .int z'])) := by
  obtain ⟨_, h1, _, rfl, c, cs, i, p, z, rfl, hc, hl, hl0, hi, hp, hz0, hz1⟩ := hr.at_ st _ hM
  refine ⟨c, cs, i, p, z, h1, same_l hr.fh hc, fun o => same_l (same_mut hr.fh (hr.mf _ _ hM)) hc, hl, hl0, hi, hp, hz0, hz1, fun r i' p' z' g1 g2 g3 g4 g5 g6 => ?_⟩
  obtain ⟨r2, g⟩ := hr.put (u := .lst [.ref c, .int i', .int p', .int z']) (o := .src b) hM ⟨_, rfl, c, cs, i', p', z', rfl, hc, hl, hl0, g3, g4, g5, g6⟩
  rw [mset_id hM] at r2 g
  exact hk _ _ _ _ _ r2 g (.d (.int _)) (q r g1 g2)
abbrev sNext : Stmt := top 25
theorem scNext : FnScope ["_law_state_here", "_law_below", "_law_cells", "_law_cell", "_law_found"] ["_law_state_here", "_law_below"] (defScope sNext) := ⟨rfl, rfl, rfl, by decide +kernel, rfl, by decide +kernel, by decide +kernel⟩
theorem ok_next {f : Addr} {fd : FuncData} {k : Nat} (F : Fun K "_law_next" "_law_next" sNext f fd) (T : Bl mg) : FnOk P w K mg base CX0 (k + 1) f fd ["_law_state_here", "_law_below"] (spD K 2 (tfNext true)) := by
  refine F.ok scNext (fun vs H Q E h => ?_) (fun cdv A outer s H vs Q E hr h => ?_)
  · obtain ⟨F0, M, ws, R, RX, r, rs, hl, _⟩ := h
    rw [rs.len, hl]
    rfl
  obtain ⟨F0, M, ws, R, RX, hr0, rs, _, hf, hk, _⟩ := h
  obtain ⟨x0, y0, rfl, hf1⟩ := g2_of hf
  obtain ⟨st, rfl, hf2⟩ := gR_of hf1
  obtain ⟨m, rfl, ⟨hM, hm0, hm1⟩, q0⟩ := gI_of hf2
  obtain ⟨v1, v2, rfl, e1, e2⟩ := rs.two
  obtain rfl := e1.ref
  obtain rfl := e2.int
  obtain ⟨c, cs, i, p, z, h1, h2, h3, hl, hl0, hi, hp, hz0, hz1, q⟩ := src_at hr0 hM hk q0
  have hl0 := hl0 rfl
  rw [if_pos rfl] at hz1
  simp only [if_true] at q
  refine ⟨_, (pss_cons (ps_if (pt_cmpR op_gt (pe_ix ix_list (pv 0) pe_int (fun _ _ => rfl)) pe_int (nomark _)) (pss_cons (ps_set (i := 4) scNext.nd rfl (.inl rfl) (pe_op op_modN (pe_ix ix_list (pv 0) pe_int (fun _ _ => rfl)) (pv 1)))
      (pss_cons (ps_asg (pe_op op_fdivN (pe_ix ix_list (pv 0) pe_int (fun _ _ => rfl)) (pv 1)) (pg_sub (pv 0) pe_int set_list))
      (pss_one (ps_ret (pv 4))))) pss_nil)
    (pss_cons (ps_set (i := 2) scNext.nd rfl (.inl rfl) (pe_ix ix_list (pv 0) pe_int (fun _ _ => rfl)))
    (pss_cons (ps_set (i := 3) scNext.nd rfl (.inl rfl) (pe_ix ix_list (pv 2) (pe_op op_modN (pe_ix ix_list (pv 0) pe_int (fun _ _ => rfl)) (pe_callB call_len_seq (by rfl) T.len PySem.boot_len (pa_cons (pv 2) pa_nil))) (fun _ _ => rfl)))
    (pss_cons (ps_asg (pe_op op_add (pe_ix ix_list (pv 0) pe_int (fun _ _ => rfl)) pe_int) (pg_sub (pv 0) pe_int set_list))
    (pss_cons (ps_if (PW.pt (pw_and (pt_cmpR op_ge (pv 3) (pe_op op_pow pe_int pe_int) (nomark _)) (pw_and1 (pt_cmpR op_le (pe_ix ix_list (pv 0) pe_int (fun _ _ => rfl)) (pe_callB call_len_seq (by rfl) T.len PySem.boot_len (pa_cons (pv 2) pa_nil)) (nomark _))))) (pss_cons (ps_asg (pe_op op_fdivN (pv 3) (pv 1)) (pg_sub (pv 0) pe_int set_list))
      (pss_one (ps_ret (pe_op op_modN (pv 3) (pv 1))))) pss_nil)
    (pss_cons (ps_asg (pe_op op_modN (pe_op op_add (pe_op op_add (pe_op op_mul (pe_ix ix_list (pv 0) pe_int (fun _ _ => rfl)) pe_int) (pe_op op_modN (pv 3) pe_int)) (pe_op op_mul pe_int (pe_ix ix_list (pv 0) pe_int (fun _ _ => rfl)))) pe_int) (pg_sub (pv 0) pe_int set_list))
    (pss_one (ps_ret (pe_op op_modN (pe_op op_fdivN (pe_op op_modN (pe_op op_mul (pe_ix ix_list (pv 0) pe_int (fun _ _ => rfl)) pe_int) pe_int) pe_int) (pv 1)))))))))), ?_⟩
  have hm30 : m ≠ 0 ∧ m.natAbs < 1073741824 := ⟨by omega, by omega⟩
  refine ⟨_, rfl, st, _, 2, _, rfl, rfl, SqL.of h1, at4.2.2.1, p, 0, rfl, rfl, _, rfl, ?_⟩
  refine iteD (fun cc => ?_) (fun cc => ?_)
  · refine ⟨_, rfl, st, _, 2, _, rfl, rfl, SqL.of h1, at4.2.2.1, _, rfl, p, m, rfl, rfl, hm30.1, ?_⟩
    refine ⟨_, rfl, st, _, 2, _, rfl, rfl, SqL.of h1, at4.2.2.1, _, rfl, p, m, rfl, rfl, hm30, ?_⟩
    refine ⟨_, rfl, st, _, 2, 2, rfl, rfl, h1, rfl, ?_⟩
    refine ⟨_, rfl, ?_⟩
    exact q _ _ _ _ (fm_pos p (by omega)).1 (fm_pos p (by omega)).2 hi (fd_pos hp (by omega)) hz0 hz1
  · refine ⟨_, rfl, st, _, 0, _, rfl, rfl, SqL.of h1, at4.1, ?_⟩
    have hlen : (cs.map V.int).length = cs.length := List.length_map _
    have hf := fm_pos i (m := ((cs.map V.int).length : Nat)) (by rw [hlen]; omega)
    obtain ⟨j, ej⟩ : ∃ j : Nat, i.fmod ((cs.map V.int).length : Nat) = (j : Int) := ⟨(i.fmod ((cs.map V.int).length : Nat)).toNat, by omega⟩
    have hj : j < cs.length := by rw [hlen] at hf; rw [hlen] at ej; omega
    have hat : atI (cs.map V.int) (i.fmod ((cs.map V.int).length : Nat)) = some (.int cs[j]) := by
      rw [ej]
      exact atI_nat (by rw [List.getElem?_map, List.getElem?_eq_getElem hj]; rfl)
    generalize cs[j] = x at hat
    refine ⟨_, rfl, _, rfl, st, _, 1, _, rfl, rfl, SqL.of h1, at4.2.1, _, rfl, c, _, rfl, .inl h2, i, _, rfl, rfl, by rw [hlen]; omega, c, _, _, _, rfl, rfl, h2, hat, ?_⟩
    refine ⟨_, rfl, st, _, 1, _, rfl, rfl, SqL.of h1, at4.2.1, i, 1, rfl, rfl, _, rfl, st, _, 1, 1, rfl, rfl, h1, rfl, ?_⟩
    have h1' : (upd H st (.lst [V.ref c, .int (i + 1), .int p, .int z])) st = some (.lst [V.ref c, .int (i + 1), .int p, .int z]) := upd_same
    have h2' := h3 (.lst [V.ref c, .int (i + 1), .int p, .int z])
    have fin2 : ∀ (r p' z' : Int), 0 ≤ r → r < m → 0 ≤ p' → 0 ≤ z' → z' < 2147483647 → Q (.int r) (upd (upd H st (.lst [V.ref c, .int (i + 1), .int p, .int z])) st (.lst [V.ref c, .int (i + 1), .int p', .int z'])) := fun r p' z' g1 g2 g3 g4 g5 => by
      rw [upd_upd]
      exact q _ _ _ _ g1 g2 (by omega) g3 g4 g5
    refine ⟨_, rfl, 10, 18, rfl, rfl, ⟨by decide, by decide, by decide⟩, x, _, rfl, rfl, _, rfl, ?_⟩
    have tail : ∀ _ : Unit, _ := fun _ => True.intro
    refine iteD (fun c1 => ?_) (fun c1 => ?_)
    · refine ⟨_, rfl, st, _, 1, _, rfl, rfl, SqL.of h1', at4.2.1, _, rfl, c, _, rfl, .inl h2', _, _, rfl, rfl, _, rfl, ?_⟩
      refine iteD (fun c2 => ?_) (fun c2 => ?_)
      · refine ⟨_, rfl, _, rfl, x, m, rfl, rfl, hm30, _, rfl, st, _, 2, 2, rfl, rfl, h1', rfl, ?_⟩
        refine ⟨_, rfl, _, rfl, x, m, rfl, rfl, hm30.1, ?_⟩
        exact fin2 _ _ _ (fm_pos x (by omega)).1 (fm_pos x (by omega)).2 (fd_pos (Int.le_trans (by decide) c1) (by omega)) hz0 hz1
      · skip
        refine ⟨_, rfl, st, _, 3, _, rfl, rfl, SqL.of h1', at4.2.2.2, z, 48271, rfl, rfl, .inl ⟨by omega, by omega⟩, _, rfl, x, 2147483629, rfl, rfl, nz29, _, _, rfl, rfl, _, rfl, st, _, 1, _, rfl, rfl, SqL.of h1', at4.2.1, 7, _, rfl, rfl, .inl ⟨by decide, by decide⟩, _, _, rfl, rfl, _, 2147483647, rfl, rfl, nz47, _, rfl, st, _, 3, 3, rfl, rfl, h1', rfl, ?_⟩
        have hb := fm_pos (z * 48271 + x.fmod 2147483629 + 7 * (i + 1)) (m := 2147483647) (by decide)
        refine ⟨_, rfl, st, _, 3, _, rfl, rfl, SqL.of upd_same, at4.2.2.2, _, 69621, rfl, rfl, .inl ⟨by omega, by omega⟩, _, 2147483629, rfl, rfl, nz29, _, 64, rfl, rfl, ⟨by decide, by decide⟩, _, rfl, _, m, rfl, rfl, hm30.1, ?_⟩
        exact fin2 _ _ _ (fm_pos _ (by omega)).1 (fm_pos _ (by omega)).2 hp hb.1 hb.2
    · skip
      refine ⟨_, rfl, st, _, 3, _, rfl, rfl, SqL.of h1', at4.2.2.2, z, 48271, rfl, rfl, .inl ⟨by omega, by omega⟩, _, rfl, x, 2147483629, rfl, rfl, nz29, _, _, rfl, rfl, _, rfl, st, _, 1, _, rfl, rfl, SqL.of h1', at4.2.1, 7, _, rfl, rfl, .inl ⟨by decide, by decide⟩, _, _, rfl, rfl, _, 2147483647, rfl, rfl, nz47, _, rfl, st, _, 3, 3, rfl, rfl, h1', rfl, ?_⟩
      have hb := fm_pos (z * 48271 + x.fmod 2147483629 + 7 * (i + 1)) (m := 2147483647) (by decide)
      refine ⟨_, rfl, st, _, 3, _, rfl, rfl, SqL.of upd_same, at4.2.2.2, _, 69621, rfl, rfl, .inl ⟨by omega, by omega⟩, _, 2147483629, rfl, rfl, nz29, _, 64, rfl, rfl, ⟨by decide, by decide⟩, _, rfl, _, m, rfl, rfl, hm30.1, ?_⟩
      exact fin2 _ _ _ (fm_pos _ (by omega)).1 (fm_pos _ (by omega)).2 hp hb.1 hb.2
abbrev sState : Stmt := top 24
theorem scState : FnScope ["_law_script", "_law_cells"] ["_law_script"] (defScope sState) := ⟨rfl, rfl, rfl, by decide +kernel, rfl, by decide +kernel, by decide +kernel⟩
theorem ok_state {f : Addr} {fd : FuncData} {k : Nat} (F : Fun K "_law_state" "_law_state" sState f fd) (T : Bl mg) : FnOk P w K mg base CX0 (k + 1) f fd ["_law_script"] (spState K) := by
  refine F.ok scState (fun vs H Q E h => ?_) (fun cdv A outer s H vs Q E hr h => ?_)
  · obtain ⟨a, ns, rfl, _⟩ := h
    rfl
  obtain ⟨a, ns, rfl, hS, q⟩ := h
  refine ⟨_, (pss_cons (ps_set (i := 1) scState.nd rfl (.inl rfl) (pe_callTy call_list_of (by rfl) T.list PyProof.Rows.boot_list (pa_cons (pe_slice sl_list (pv 0) po_none (po_some pe_int)) pa_nil)))
    (pss_cons (ps_if (pt_cmpR op_eq (pe_callB call_len_seq (by rfl) T.len PySem.boot_len (pa_cons (pv 1) pa_nil)) pe_int (nomark _)) (pss_one (ps_set (i := 1) scState.nd rfl (.inl rfl) (pe_lst (pa_cons pe_int pa_nil)))) pss_nil)
    (pss_one (ps_ret (pe_lst (pa_cons (pv 1) (pa_cons pe_int (pa_cons pe_int (pa_cons pe_int pa_nil))))))))), ?_⟩
  refine ⟨_, rfl, 63, rfl, a, _, rfl, hS, fun p hp => ?_⟩
  have e1 : Same H (upd H p (.lst (cutV (ns.map V.int) none (some 63)))) := same_new hp
  refine ⟨p, _, rfl, .inl (SqL.of upd_same), fun l hl => ?_⟩
  rw [cut63]
  rw [cut63] at hl e1
  generalize hcs : ns.take 63 = cs at hl e1 ⊢
  have hc63 : cs.length ≤ 63 := by rw [← hcs, List.length_take]; omega
  generalize upd H p (.lst (cs.map V.int)) = H1 at hl e1 ⊢
  have e2 : Same H (upd H1 l (.lst (cs.map V.int))) := e1.trans (same_new hl)
  have hl0 := e1.free hl
  refine ⟨_, rfl, l, _, rfl, .inl (SqL.of upd_same), rfl, _, rfl, ?_⟩
  refine iteD (fun c => ?_) (fun c => ?_)
  · refine ⟨by show 1 ≤ sizeLine; decide, fun p2 hp2 => ?_⟩
    refine ⟨_, rfl, by show 4 ≤ sizeLine; decide, fun p3 hp3 => ?_⟩
    have n23 : p2 ≠ p3 := ne_of_none upd_same hp3
    refine q p3 p2 [0] 91 _ ((e2.trans (same_new hp2)).trans (same_new hp3)) ((e2.trans (same_new hp2)).free hp3) (e2.free hp2) n23 upd_same ?_ (by decide) (by decide) (by decide) (by decide)
    rw [upd_ne n23]
    exact upd_same
  · refine ⟨_, rfl, by show 4 ≤ sizeLine; decide, fun p3 hp3 => ?_⟩
    have n23 : l ≠ p3 := ne_of_none upd_same hp3
    refine q p3 l cs 91 _ (e2.trans (same_new hp3)) (e2.free hp3) hl0 n23 upd_same ?_ ?_ hc63 (by decide) (by decide)
    · rw [upd_ne n23]
      exact upd_same
    · rcases Nat.eq_zero_or_pos cs.length with z | z
      · exact absurd (show V.int ((cs.map V.int).length : Nat) = V.int 0 by rw [List.length_map, z]; rfl) c
      · exact z
end
end Tl
set_option Elab.async false
set_option linter.all false
set_option maxRecDepth 100000
set_option maxHeartbeats 8000000
namespace Tl
open PySem L2 RZ
local macro_rules
  | `(tactic| decreasing_trivial) => `(tactic| ((with_reducible (conv => whnf)); (repeat ((first | (with_reducible refine gDs_c ?_) | (with_reducible refine gDs_n ?_) | (with_reducible refine gNs_c ?_) | (with_reducible refine gNs_n ?_) | (with_reducible refine gO_i tyAny_lt ?_) | (with_reducible refine gIs_c ?_) | (with_reducible refine gIs_n ?_) | (with_reducible refine gBs_c ?_) | (with_reducible refine gBs_n ?_) | (with_reducible refine gSs_c ?_) | (with_reducible refine gSs_n ?_) | (with_reducible refine gO_i tyIs_int ?_) | (with_reducible refine gO_i tyIs_bool ?_) | (with_reducible refine gO_i tyIs_str ?_) | (with_reducible refine gO_i tyIs_tuple ?_) | (with_reducible refine gO_i tyIs_list ?_) | (with_reducible refine gDs_i ?_) | (with_reducible refine gO_i (Eq.refl _) ?_) | (with_reducible refine gO_i (by assumption) ?_) | (with_reducible refine gO_i at_0 ?_) | (with_reducible refine gO_i at_m0 ?_) | (with_reducible refine gO_i at_1 ?_) | (with_reducible refine gO_i at_m1 ?_) | (with_reducible refine gO_i at_2 ?_) | (with_reducible refine gO_i at_m2 ?_) | (with_reducible refine gO_i at_3 ?_) | (with_reducible refine gO_i at_m3 ?_) | (with_reducible refine gO_i at_4 ?_) | (with_reducible refine gO_i at_m4 ?_) | (with_reducible refine gO_i at_5 ?_) | (with_reducible refine gO_i at_m5 ?_) | (with_reducible refine gO_i at_6 ?_) | (with_reducible refine gO_i at_m6 ?_) | (with_reducible refine gO_i at_7 ?_) | (with_reducible refine gO_i at_m7 ?_) | (with_reducible refine IfB.ngf ?_) | (with_reducible refine IfB.ngt ?_) | (with_reducible refine IfB.not ?_) | (with_reducible refine IfB.nil ?_) | (with_reducible refine IfB.nilT ?_) | (with_reducible refine IfB.f isE_c ?_) | (with_reducible refine IfB.t isE_n ?_) | (with_reducible refine IfB.t ?gha ?_; (case gha => rfl)) | (with_reducible refine IfB.f ?gha ?_; (case gha => rfl)) | (with_reducible refine IfB.t ?gha ?_; (case gha => assumption)) | (with_reducible refine IfB.f ?gha ?_; (case gha => assumption)) | (with_reducible refine IfB.yes (Eq.refl _) ?_) | (with_reducible refine IfB.yes ?gha ?_; (case gha => (first | omega | (simp only [len_c, len_n, List.length_map]; omega)))) | (with_reducible refine IfB.no ?gha ?_; (case gha => (first | omega | (simp only [len_c, len_n, List.length_map]; omega)))) | (with_reducible refine IfB.t ?gha ?_; (case gha => decide +kernel)) | (with_reducible refine IfB.f ?gha ?_; (case gha => decide +kernel))); (with_reducible (conv => whnf))))))
local macro_rules
  | `(tactic| decreasing_trivial_pre_omega) => `(tactic| (decreasing_trivial; (repeat ((first | ((with_reducible refine And.intro ?gha ?_); (case gha => (first | assumption | omega | exact rfl | (exact mset_same) | (exact ⟨_, mset_same⟩) | (exact Exists.intro _ (by first | exact mset_same | assumption | (rw [mset_ne (by assumption)]; first | exact mset_same | assumption))) | (exact sm_of (by omega) (by omega)) | (exact sz1000 (by first | omega | (simp; done) | (simp; omega))) | (exact Or.inl ⟨by decide, by decide⟩) | decide | (simp; done) | (refine ⟨?_, ?_⟩ <;> (first | assumption | omega | exact rfl | (exact mset_same) | (exact ⟨_, mset_same⟩) | (exact Exists.intro _ (by first | exact mset_same | assumption | (rw [mset_ne (by assumption)]; first | exact mset_same | assumption))) | (exact sm_of (by omega) (by omega)) | (exact sz1000 (by first | omega | (simp; done) | (simp; omega))) | (exact Or.inl ⟨by decide, by decide⟩) | decide | (simp; done))) | (refine ⟨?_, ?_, ?_⟩ <;> (first | assumption | omega | exact rfl | (exact mset_same) | (exact ⟨_, mset_same⟩) | (exact Exists.intro _ (by first | exact mset_same | assumption | (rw [mset_ne (by assumption)]; first | exact mset_same | assumption))) | (exact sm_of (by omega) (by omega)) | (exact sz1000 (by first | omega | (simp; done) | (simp; omega))) | (exact Or.inl ⟨by decide, by decide⟩) | decide | (simp; done))) | (refine ⟨?_, ?_, ?_, ?_⟩ <;> (first | assumption | omega | exact rfl | (exact mset_same) | (exact ⟨_, mset_same⟩) | (exact Exists.intro _ (by first | exact mset_same | assumption | (rw [mset_ne (by assumption)]; first | exact mset_same | assumption))) | (exact sm_of (by omega) (by omega)) | (exact sz1000 (by first | omega | (simp; done) | (simp; omega))) | (exact Or.inl ⟨by decide, by decide⟩) | decide | (simp; done)))))) | (with_reducible refine exW (by first | exact mset_same | assumption | (rw [mset_ne (by assumption)]; first | exact mset_same | assumption)) ?_)); decreasing_trivial))))
/-- a tree of at most so many places -/
@[reducible] def tfTreeL (b : Bool) : TF := fun ws M R _ => g2 ws fun x y => gR x fun st => gI y fun most => (M st = some (.src b) ∧ 1 ≤ most ∧ most ≤ 100) ∧ ∀ d, TrD 10 d → ((wt d : Nat) : Int) ≤ 98 * most → ((nn d : Nat) : Int) ≤ most → R (.d d) M
def nsW (es : List Nat) : List W := es.map fun (n : Nat) => W.d (.int (n : Int))
theorem nsW_get {es : List Nat} {j e : Nat} (h : es[j]? = some e) : atI (nsW es) (j : Int) = some (.d (.int (e : Int))) := atI_nat (by
  unfold nsW
  rw [List.getElem?_map, h]
  rfl)
theorem nsW_app (es : List Nat) (e : Nat) : nsW es ++ [.d (.int (e : Int))] = nsW (es ++ [e]) := by
  unfold nsW
  rw [List.map_append]
  rfl
theorem nsW_len (es : List Nat) : (nsW es).length = es.length := List.length_map _
section
variable {P : Program} {w : World} {K : PySem.W.Frag} {mg : Str → Option Value} {base : Heap}
abbrev sTreeL : Stmt := top 27
theorem scTreeL : FnScope ["_law_state_here", "_law_most", "_law_tags", "_law_many", "_law_slope", "_law_elders", "_law_levels", "_law_k", "_law_kids", "_law_elder"] ["_law_state_here", "_law_most"] (defScope sTreeL) := ⟨rfl, rfl, rfl, by decide +kernel, rfl, by decide +kernel, by decide +kernel⟩
theorem ok_treeL {f : Addr} {fd : FuncData} {k j : Nat} (F : Fun K "_law_tree" "_law_tree" sTreeL f fd) (U_law_next : Use P w K mg base "_law_next" ["_law_state_here", "_law_below"] j (spD K 2 (tfNext true))) (hj : j ≤ k) (T : Bl mg) : FnOk P w K mg base CX0 (k + 1) f fd ["_law_state_here", "_law_most"] (spD K 2 (tfTreeL true)) := by
  refine okDL F scTreeL rfl fun cdv A outer s H E hr => ?_
  refine ⟨_, _, (pss_cons (ps_set (i := 2) scTreeL.nd rfl (.inl rfl) (pe_lst (pa_cons pe_str (pa_cons pe_str (pa_cons pe_str (pa_cons pe_str (pa_cons pe_str pa_nil)))))))
    (pss_cons (ps_set (i := 3) scTreeL.nd rfl (.inl rfl) (pe_op op_add pe_int (pe_call U_law_next.ok (hr.mono (by omega)) rfl U_law_next.m U_law_next.kp U_law_next.b .nil pass0 (pa_cons (pv 0) (pa_cons (pv 1) pa_nil)))))
    (pss_cons (ps_set (i := 4) scTreeL.nd rfl (.inl rfl) (pe_call U_law_next.ok (hr.mono (by omega)) rfl U_law_next.m U_law_next.kp U_law_next.b .nil pass0 (pa_cons (pv 0) (pa_cons pe_int pa_nil))))
    (pss_cons (ps_set (i := 5) scTreeL.nd rfl (.inl rfl) (pe_lst (pa_cons pe_int pa_nil)))
    (pss_cons (ps_set (i := 6) scTreeL.nd rfl (.inl rfl) (pe_lst (pa_cons pe_int pa_nil)))
    (pss_cons (ps_for PassesOwn.never rfl (pi_range2 (by rfl) T.range (pa_cons pe_int (pa_cons (pv 3) pa_nil))) (pg_name (i := 7) scTreeL.nd rfl (.inl rfl)) (pss_cons (ps_set (i := 9) scTreeL.nd rfl (.inl rfl) (pe_ix ix_list (pe_lst (pa_cons (pe_call U_law_next.ok (hr.mono (by omega)) rfl U_law_next.m U_law_next.kp U_law_next.b .nil pass0 (pa_cons (pv 0) (pa_cons (pv 7) pa_nil))) (pa_cons (pe_op op_sub (pv 7) pe_int) (pa_cons (pe_callB (call_max2 rfl) (by rfl) T.max PyProof.Rows.boot_max (pa_cons pe_int (pa_cons (pe_op op_sub (pe_op op_sub (pv 7) pe_int) (pe_call U_law_next.ok (hr.mono (by omega)) rfl U_law_next.m U_law_next.kp U_law_next.b .nil pass0 (pa_cons (pv 0) (pa_cons pe_int pa_nil)))) pa_nil))) pa_nil)))) (pv 4) (fun _ _ => rfl)))
      (pss_cons (ps_if (pt_cmpR op_gt (pe_ix ix_list (pv 6) (pv 9) (fun _ _ => rfl)) pe_int (nomark _)) (pss_one (ps_set (i := 9) scTreeL.nd rfl (.inl rfl) pe_int)) pss_nil)
      (pss_cons (ps_expr (pe_bm PySem.F.plainAttrs_list PySem.F.slot_list_append PySem.F.type_list_append mt_append (pv 5) (pa_cons (pv 9) pa_nil)))
      (pss_one (ps_expr (pe_bm PySem.F.plainAttrs_list PySem.F.slot_list_append PySem.F.type_list_append mt_append (pv 6) (pa_cons (pe_op op_add (pe_ix ix_list (pv 6) (pv 9) (fun _ _ => rfl)) pe_int) pa_nil))))))))
    (pss_cons (ps_setLc (i := 8) (own := [("_law_k", 7)]) (g := gName 7) (tt := tYes) (by rfl) scTreeL.nd rfl rfl (sw_true rfl rfl rfl (by decide +kernel)) (pi_range1 (by rfl) T.range (pa_cons (pv 3) pa_nil)) (blkOk_by (N := ["_law_state_here", "_law_most", "_law_tags", "_law_many", "_law_slope", "_law_elders", "_law_levels", "_law_k", "_law_kids", "_law_elder"]) (sc := defScope sTreeL) (own := [("_law_k", 7)]) (by decide +kernel)) (fun _ _ _ _ _ => pg_name (i := 7) scTreeL.nd rfl (Or.inl rfl)) (fun _ _ _ _ _ => pts_nil) (fun _ _ _ _ _ => (pe_lst pa_nil)))
    (pss_cons (ps_for PassesOwn.never rfl (pi_range3 (by rfl) T.range (pa_cons (pe_op op_sub (pv 3) pe_int) (pa_cons pe_int (pa_cons (pe_un un_neg pe_int) pa_nil)))) (pg_name (i := 7) scTreeL.nd rfl (.inl rfl)) (pss_one (ps_expr (pe_bm PySem.F.plainAttrs_list PySem.F.slot_list_append PySem.F.type_list_append mt_append (pe_ix ix_list (pv 8) (pe_ix ix_list (pv 5) (pv 7) (fun _ _ => rfl)) (fun _ _ => rfl)) (pa_cons (pe_tup (pa_cons (pe_ix ix_list (pv 2) (pe_call U_law_next.ok (hr.mono (by omega)) rfl U_law_next.m U_law_next.kp U_law_next.b .nil pass0 (pa_cons (pv 0) (pa_cons pe_int pa_nil))) (fun _ _ => rfl)) (pa_cons (pe_callTy call_tuple_of (by rfl) T.tuple PyProof.Rows.boot_tuple (pa_cons (pe_revL (pe_ix ix_list (pv 8) (pv 7) (fun _ _ => rfl))) pa_nil)) pa_nil))) pa_nil)))))
    (pss_one (ps_ret (pe_tup (pa_cons (pe_ix ix_list (pv 2) (pe_call U_law_next.ok (hr.mono (by omega)) rfl U_law_next.m U_law_next.kp U_law_next.b .nil pass0 (pa_cons (pv 0) (pa_cons pe_int pa_nil))) (fun _ _ => rfl)) (pa_cons (pe_callTy call_tuple_of (by rfl) T.tuple PyProof.Rows.boot_tuple (pa_cons (pe_revL (pe_ix ix_list (pv 8) pe_int (fun _ _ => rfl))) pa_nil)) pa_nil))))))))))))),
    (ss_cons (ss_set (se_lsf (sa_cons se_str (sa_cons se_str (sa_cons se_str (sa_cons se_str (sa_cons se_str sa_nil)))))))
    (ss_cons (ss_set (se_op so_add se_int (se_call (sa_cons se_nm (sa_cons se_nm sa_nil)))))
    (ss_cons (ss_set (se_call (sa_cons se_nm (sa_cons se_int sa_nil))))
    (ss_cons (ss_set (se_lst (sa_cons se_int sa_nil)))
    (ss_cons (ss_set (se_lst (sa_cons se_int sa_nil)))
    (ss_cons (ss_for (si_r2 (sa_cons se_int (sa_cons se_nm sa_nil))) sg_name (ss_cons (ss_set (se_op so_ixL (se_lsf (sa_cons (se_call (sa_cons se_nm (sa_cons se_nm sa_nil))) (sa_cons (se_op so_sub se_nm se_int) (sa_cons (se_cb sc_max2 (sa_cons se_int (sa_cons (se_op so_sub (se_op so_sub se_nm se_int) (se_call (sa_cons se_nm (sa_cons se_int sa_nil)))) sa_nil))) sa_nil)))) se_nm))
      (ss_cons (ss_if (st_test (se_op so_gt (se_op so_ixL se_nm se_nm) se_int)) (ss_set se_int) ss_nil)
      (ss_cons (ss_drop (se_bmL sm_append se_nm (sa_cons se_nm sa_nil)))
      (ss_drop (se_bmL sm_append se_nm (sa_cons (se_op so_add (se_op so_ixL se_nm se_nm) se_int) sa_nil)))))))
    (ss_cons (ss_set (se_lcL (si_r1 (sa_cons se_nm sa_nil)) sg_name st_yes (se_lst sa_nil)))
    (ss_cons (ss_for (si_r3 (sa_cons (se_op so_sub se_nm se_int) (sa_cons se_int (sa_cons (se_un su_neg se_int) sa_nil)))) sg_name (ss_drop (se_bmL sm_append (se_op so_ixL se_nm (se_op so_ixL se_nm se_nm)) (sa_cons (se_tup (sa_cons (se_op so_ixL se_nm (se_call (sa_cons se_nm (sa_cons se_int sa_nil)))) (sa_cons (se_cb sc_tuple (sa_cons (se_rvF (se_op so_ixL se_nm se_nm)) sa_nil)) sa_nil))) sa_nil))))
    (ss_ret (se_tup (sa_cons (se_op so_ixL se_nm (se_call (sa_cons se_nm (sa_cons se_int sa_nil)))) (sa_cons (se_cb sc_tuple (sa_cons (se_rvF (se_op so_ixL se_nm se_int)) sa_nil)) sa_nil)))))))))))), fun ws M R RX hl h => ?_⟩
  obtain ⟨x0, y0, rfl, hf1⟩ := g2_of h
  obtain ⟨st, rfl, hf2⟩ := gR_of hf1
  obtain ⟨most, rfl, ⟨hM, hm1, hm2⟩, h3⟩ := gI_of hf2
  clear hf1 hf2 h hl
  simp only [start0, len_c, len_n, map_c, map_n, app_c, app_n, rep_0, rep_s, Nat.reduceAdd, Nat.reduceSub]
  decreasing_trivial_pre_omega
  intro m0 hm00 hm01
  decreasing_trivial_pre_omega
  intro slope hs0 hs1
  decreasing_trivial_pre_omega
  intro el hel
  decreasing_trivial_pre_omega
  intro lv hlv
  decreasing_trivial_pre_omega
  obtain ⟨mn, hmn⟩ : ∃ mn : Nat, 1 + m0 = ((mn + 1 : Nat) : Int) := ⟨m0.toNat, by omega⟩
  have hmn2 : mn + 1 ≤ 100 := by omega
  have nll : lv ≠ el := fun z => by rw [z, mset_same] at hlv; cases hlv
  rw [mset_ne nll] at hlv
  have nll2 : el ≠ lv := nll.symm
  have sel : st ≠ el := fun z => by rw [z, hel] at hM; cases hM
  have slv : st ≠ lv := fun z => by rw [z, hlv] at hM; cases hM
  refine forR (fun i ρ M' => ∃ (es ls : List Nat) (y7 y9 : Option W), ρ = [some (.r st), some (.d (.int most)), some (.d (.list [.str "a", .str "b", .str "ab", .str "zz", .str "abcdefgh"])), some (.d (.int (1 + m0))), some (.d (.int slope)), some (.r el), some (.r lv), y7, none, y9] ∧ M' = mset (mset M el (.lst (nsW es))) lv (.lst (nsW ls)) ∧ es.length = i + 1 ∧ ls.length = i + 1 ∧ RelEL es ls)
    ⟨[0], [1], none, none, rfl, rfl, rfl, rfl, RelEL.one⟩ (fun _ _ _ _ _ => trivial) (fun i ρ M' N hi p hN => ?_) (fun ρ M' p => ?_)
  · obtain ⟨es, ls, y7, y9, rfl, rfl, le, ll, Rl⟩ := p
    have eM : mset (mset M el (.lst (nsW es))) lv (.lst (nsW ls)) st = some (.src true) := by rw [mset_ne slv, mset_ne sel]; exact hM
    decreasing_trivial_pre_omega
    intro a1 ha10 ha11
    decreasing_trivial_pre_omega
    intro a2 ha20 ha21
    decreasing_trivial_pre_omega
    refine gO_atD (fun d => ∃ e : Nat, e ≤ i ∧ d = .int (e : Int)) hs0 (by simpa using hs1) (all1 ⟨a1.toNat, by omega, by congr 1; omega⟩ (all1 ⟨i, Nat.le_refl _, by show PyData.int (1 + (i : Int) - 1) = _; congr 1; omega⟩ (all1 ⟨(max 0 (1 + (i : Int) - 1 - a2)).toNat, by omega, by congr 1; omega⟩ all0))) fun d hd => ?_
    obtain ⟨e, hei, rfl⟩ := hd
    obtain ⟨l, hl⟩ : ∃ l, ls[e]? = some l := ⟨ls[e]'(by omega), List.getElem?_eq_getElem _⟩
    have hl10 := Rl.lev e l hl
    have m1 : ∀ {x y : MO}, mset (mset M el x) lv y el = some x := fun {x y} => by rw [mset_ne (Ne.symm nll)]; exact mset_same
    have m2 : ∀ {x y z : MO}, mset (mset (mset M el x) lv y) el z = mset (mset M el z) lv y := fun {x y z} => by
      funext b
      by_cases h1 : b = el
      · subst h1
        rw [mset_same, m1]
      · rw [mset_ne h1]
        by_cases h2 : b = lv
        · subst h2
          rw [mset_same, mset_same]
        · rw [mset_ne h2, mset_ne h2, mset_ne h1, mset_ne h1]
    have lE : (nsW es).length < sizeLine := by rw [nsW_len]; exact small1000 (by omega)
    have lL : (nsW ls).length < sizeLine := by rw [nsW_len]; exact small1000 (by omega)
    have goal : ∀ e' l' : Nat, ls[e']? = some l' → l' ≤ 9 → N [some (.r st), some (.d (.int most)), some (.d (.list [.str "a", .str "b", .str "ab", .str "zz", .str "abcdefgh"])), some (.d (.int (1 + m0))), some (.d (.int slope)), some (.r el), some (.r lv), some (.d (.int (1 + (i : Int)))), none, some (.d (.int (e' : Int)))] (mset (mset M el (.lst (nsW es ++ [.d (.int (e' : Int))]))) lv (.lst (nsW ls ++ [.d (.int ((l' : Int) + 1))]))) := fun e' l' h1 h2 => by
      refine hN _ _ ⟨es ++ [e'], ls ++ [l' + 1], _, _, rfl, ?_, by rw [List.length_append, le]; rfl, by rw [List.length_append, ll]; rfl, Rl.app (by omega) h1 h2⟩
      rw [← nsW_app, ← nsW_app]
      rfl
    decreasing_trivial_pre_omega
    refine gO_i (nsW_get hl) ?_
    decreasing_trivial_pre_omega
    refine IfB.d (fun c => ?_) (fun c => ?_)
    · decreasing_trivial_pre_omega
      refine gO_i (nsW_get (j := 0) Rl.first) ?_
      decreasing_trivial_pre_omega
      rw [m2, mset_mset]
      exact goal 0 1 Rl.first (by decide)
    · decreasing_trivial_pre_omega
      refine gO_i (nsW_get hl) ?_
      decreasing_trivial_pre_omega
      rw [m2, mset_mset]
      exact goal e l hl (by omega)
  · obtain ⟨es, ls, y7, y9, rfl, rfl, le, ll, Rl⟩ := p
    have hn : (1 + m0 - 1).toNat = mn := by omega
    rw [hn] at le ll
    decreasing_trivial_pre_omega
    have sub1 : ∀ a o, M a = some o → mset (mset M el (.lst (nsW es))) lv (.lst (nsW ls)) a = some o := fun a o h => by
      rw [mset_ne (fun z => by rw [z, hlv] at h; cases h), mset_ne (fun z => by rw [z, hel] at h; cases h)]
      exact h
    have e1 : mset (mset M el (.lst (nsW es))) lv (.lst (nsW ls)) el = some (.lst (nsW es)) := by rw [mset_ne (Ne.symm nll)]; exact mset_same
    generalize mset (mset M el (.lst (nsW es))) lv (.lst (nsW ls)) = M1 at sub1 e1
    have hn1 : (rng 0 (1 + m0).toNat).length = mn + 1 := by unfold rng; rw [List.length_map, List.length_range]; omega
    refine lc_new (rng 0 (1 + m0).toNat) [] M1 M1 (by rw [hn1]; exact Nat.le_of_lt (small1000 (by simp; omega))) List.nodup_nil (fun a h => absurd h List.not_mem_nil) (fun b _ => rfl) (fun as M2 l1 l2 l3 l4 D hD => ?_)
    rw [hn1] at l1
    have l1' : as.length = mn + 1 := by rw [l1]; simp
    have nst : ∀ {b : Addr} {o : MO}, M1 b = some o → ¬ b ∈ as := fun h z => by rw [(l3 _ z).1] at h; cases h
    have DnA : ¬ D ∈ as := fun z => by rw [(l3 _ z).2] at hD; cases hD
    have DM1 : M1 D = none := by rw [← l4 D DnA]; exact hD
    have neD : ∀ {b : Addr} {o : MO}, M1 b = some o → b ≠ D := fun h z => by rw [z, DM1] at h; cases h
    refine ⟨_, RgC.neg (by omega) (by omega) (by omega) (by omega), ?_⟩
    have hn2 : (1 + m0 - 1 - 0).toNat = mn := by omega
    rw [hn2]
    have at3 : ∀ {b : Addr} {o : MO}, M1 b = some o → mset M2 D (.lst (as.map W.r)) b = some o := fun {b o} h => by
      rw [mset_ne (neD h), l4 b (nst h)]
      exact h
    refine forRC (fun i ρ M' => ∃ (tss : List (List PyData)) (z7 : Option W), ρ = [some (.r st), some (.d (.int most)), some (.d (.list [.str "a", .str "b", .str "ab", .str "zz", .str "abcdefgh"])), some (.d (.int (1 + m0))), some (.d (.int slope)), some (.r el), some (.r lv), z7, some (.r D), y9] ∧ (∀ b o, M1 b = some o → M' b = some o) ∧ M' D = some (.lst (as.map W.r)) ∧ (∀ (j : Nat) (a : Addr) (ts : List PyData), as[j]? = some a → tss[j]? = some ts → M' a = some (.lst (ts.map W.d))) ∧ tss.length = mn + 1 ∧ sw (mn + 1 - i) tss ≤ 98 * i ∧ sn (mn + 1 - i) tss ≤ i ∧ ∀ (j l : Nat) (ts : List PyData), tss[j]? = some ts → ls[j]? = some l → ∀ t ∈ ts, TrD (10 - l) t)
      ⟨List.replicate (mn + 1) [], y7, rfl, fun b o h => at3 h, mset_same, fun j a ts h1 h2 => ?_, List.length_replicate, by rw [sw_rep]; exact Nat.zero_le _, by rw [sn_rep]; exact Nat.zero_le _, fun j l ts h1 _ t ht => ?_⟩ (fun _ _ _ _ _ => trivial) (fun i ρ M' N hi p hN => ?_) (fun ρ M' p => ?_)
    · rw [(List.mem_replicate.mp (List.mem_of_getElem? h2)).2]
      have ha := List.mem_of_getElem? h1
      rw [mset_ne (fun z => DnA (by rw [← z]; exact ha))]
      exact (l3 a ha).2
    · rw [(List.mem_replicate.mp (List.mem_of_getElem? h1)).2] at ht
      cases ht
    · obtain ⟨tss, z7, rfl, s7, D7, K7, lt7, sw7, sn7, tr7⟩ := p
      obtain ⟨kk, hkk⟩ : ∃ kk : Nat, kk + i = mn := ⟨mn - i, by omega⟩
      have hkv : 1 + m0 - 1 + ((i : Nat) : Int) * -1 = (kk : Int) := by omega
      have hk1 : 1 ≤ kk := by omega
      obtain ⟨e, he⟩ : ∃ e, es[kk]? = some e := ⟨es[kk]'(by omega), List.getElem?_eq_getElem _⟩
      obtain ⟨hek, hlev⟩ := Rl.eld kk e hk1 he
      obtain ⟨ae, hae⟩ : ∃ a, as[e]? = some a := ⟨as[e]'(by omega), List.getElem?_eq_getElem _⟩
      obtain ⟨ak, hak⟩ : ∃ a, as[kk]? = some a := ⟨as[kk]'(by omega), List.getElem?_eq_getElem _⟩
      obtain ⟨te, hte⟩ : ∃ t, tss[e]? = some t := ⟨tss[e]'(by omega), List.getElem?_eq_getElem _⟩
      obtain ⟨tk, htk⟩ : ∃ t, tss[kk]? = some t := ⟨tss[kk]'(by omega), List.getElem?_eq_getElem _⟩
      obtain ⟨le', hle'⟩ : ∃ l, ls[e]? = some l := ⟨ls[e]'(by omega), List.getElem?_eq_getElem _⟩
      obtain ⟨lk, hlk⟩ : ∃ l, ls[kk]? = some l := ⟨ls[kk]'(by omega), List.getElem?_eq_getElem _⟩
      have hll := hlev le' lk hle' hlk
      have hlk10 := Rl.lev kk lk hlk
      have aeA := List.mem_of_getElem? hae
      have atAe : atI (as.map W.r) (e : Int) = some (.r ae) := atI_nat (by rw [List.getElem?_map, hae]; rfl)
      have atAk : atI (as.map W.r) (kk : Int) = some (.r ak) := atI_nat (by rw [List.getElem?_map, hak]; rfl)
      have h9 := s7 _ _ e1
      have h8 := s7 _ _ (sub1 _ _ hM)
      have h7 := K7 e ae te hae hte
      have h6 := K7 kk ak tk hak htk
      rw [hkv]
      decreasing_trivial_pre_omega
      refine gO_i (nsW_get he) ?_
      decreasing_trivial_pre_omega
      intro r8 hr80 hr81
      decreasing_trivial_pre_omega
      refine gO_atD (ds := tags5.map .str) (fun d => ∃ s, s ∈ tags5 ∧ d = .str s) hr80 (by simpa [tags5] using hr81) (fun d hd => by
        obtain ⟨s, h1, h2⟩ := List.mem_map.mp hd
        exact ⟨s, h1, h2.symm⟩) fun d hd => ?_
      obtain ⟨tgs, htgs, rfl⟩ := hd
      have htag := tags5_ok tgs htgs
      have hlt : wtAll te ≤ sw (mn + 1 - i) tss := wt_sw (by omega) hte
      have hl2 := len_wt te
      have hsz : (te.map W.d).length < sizeLine := by
        rw [List.length_map]
        exact Nat.lt_of_le_of_lt (show te.length ≤ 100000 by omega) (by decide)
      decreasing_trivial_pre_omega
      refine hN _ _ ⟨tss.set e (te ++ [.tuple [.str tgs, .tuple tk.reverse]]), _, rfl, fun b o h => ?_, ?_, fun j a ts h1 h2 => ?_, by rw [List.length_set]; exact lt7, ?_, ?_, fun j l ts h1 h2 t ht => ?_⟩
      · rw [mset_ne (fun z => nst h (by rw [z]; exact aeA))]
        exact s7 b o h
      · rw [mset_ne (fun z => DnA (by rw [z]; exact aeA))]
        exact D7
      · by_cases cj : j = e
        · subst cj
          rw [hae] at h1
          cases h1
          rw [List.getElem?_set_self (by omega)] at h2
          cases h2
          rw [mset_same, List.map_append]
          rfl
        · rw [List.getElem?_set_ne (fun z => cj z.symm)] at h2
          rw [mset_ne (fun z => cj (nd_ix l2 h1 (by rw [z]; exact hae)))]
          exact K7 j a ts h1 h2
      · have e1 : mn + 1 - (i + 1) = kk := by omega
        have e2 : mn + 1 - i = kk + 1 := by omega
        rw [e2, sw_succ htk] at sw7
        rw [e1, sw_set hek hte, wt_node, wtAll_rev]
        omega
      · have e1 : mn + 1 - (i + 1) = kk := by omega
        have e2 : mn + 1 - i = kk + 1 := by omega
        rw [e2, sn_succ htk] at sn7
        rw [e1, sn_set hek hte, nn, nnAll_rev]
        omega
      · by_cases cj : j = e
        · subst cj
          rw [List.getElem?_set_self (by omega)] at h1
          cases h1
          rw [hle'] at h2
          cases h2
          rcases List.mem_append.mp ht with ht | ht
          · exact tr7 j _ te hte hle' t ht
          · rw [List.mem_singleton.mp ht]
            refine TrD.mono (show 10 - lk + 1 ≤ 10 - le' by omega) ⟨tgs, _, rfl, htag, fun kd hkd => ?_⟩
            exact tr7 kk lk tk htk hlk kd (List.mem_reverse.mp hkd)
        · rw [List.getElem?_set_ne (fun z => cj z.symm)] at h1
          exact tr7 j l ts h1 h2 t ht
    · obtain ⟨tss, z7, rfl, s7, D7, K7, lt7, sw7, sn7, tr7⟩ := p
      rw [show mn + 1 - mn = 1 by omega] at sw7 sn7
      obtain ⟨ak, hak⟩ : ∃ a, as[0]? = some a := ⟨as[0]'(by omega), List.getElem?_eq_getElem _⟩
      obtain ⟨tk, htk⟩ : ∃ t, tss[0]? = some t := ⟨tss[0]'(by omega), List.getElem?_eq_getElem _⟩
      have atAk : atI (as.map W.r) 0 = some (.r ak) := atI_nat (j := 0) (by rw [List.getElem?_map, hak]; rfl)
      have h8 := s7 _ _ (sub1 _ _ hM)
      have h6 := K7 0 ak tk hak htk
      decreasing_trivial_pre_omega
      intro r8 hr80 hr81
      decreasing_trivial_pre_omega
      refine gO_atD (ds := tags5.map .str) (fun d => ∃ s, s ∈ tags5 ∧ d = .str s) hr80 (by simpa [tags5] using hr81) (fun d hd => by
        obtain ⟨s, h1, h2⟩ := List.mem_map.mp hd
        exact ⟨s, h1, h2.symm⟩) fun d hd => ?_
      obtain ⟨tgs, htgs, rfl⟩ := hd
      have htag := tags5_ok tgs htgs
      decreasing_trivial_pre_omega
      refine ⟨M, fun a o h => s7 _ _ (sub1 _ _ h), h3 _ ?_ ?_ ?_⟩
      · refine ⟨tgs, _, rfl, htag, fun kd hkd => ?_⟩
        exact tr7 0 1 tk htk Rl.first kd (List.mem_reverse.mp hkd)
      · have hs1 : wtAll tk ≤ sw 1 tss := wt_sw (by omega) htk
        have hwn := wt_node tgs tk.reverse
        rw [wtAll_rev] at hwn
        omega
      · rw [show (1 : Nat) = 0 + 1 from rfl, sn_succ htk] at sn7
        rw [nn, nnAll_rev]
        omega
end
end Tl
set_option Elab.async false
set_option linter.all false
set_option maxRecDepth 100000
set_option maxHeartbeats 8000000
namespace Tl
open PySem L2 RZ
local macro_rules
  | `(tactic| decreasing_trivial) => `(tactic| ((with_reducible (conv => whnf)); (repeat ((first | (with_reducible refine gDs_c ?_) | (with_reducible refine gDs_n ?_) | (with_reducible refine gNs_c ?_) | (with_reducible refine gNs_n ?_) | (with_reducible refine gO_i tyAny_lt ?_) | (with_reducible refine gIs_c ?_) | (with_reducible refine gIs_n ?_) | (with_reducible refine gBs_c ?_) | (with_reducible refine gBs_n ?_) | (with_reducible refine gSs_c ?_) | (with_reducible refine gSs_n ?_) | (with_reducible refine gO_i tyIs_int ?_) | (with_reducible refine gO_i tyIs_bool ?_) | (with_reducible refine gO_i tyIs_str ?_) | (with_reducible refine gO_i tyIs_tuple ?_) | (with_reducible refine gO_i tyIs_list ?_) | (with_reducible refine gDs_i ?_) | (with_reducible refine gO_i (Eq.refl _) ?_) | (with_reducible refine gO_i (by assumption) ?_) | (with_reducible refine gO_i at_0 ?_) | (with_reducible refine gO_i at_m0 ?_) | (with_reducible refine gO_i at_1 ?_) | (with_reducible refine gO_i at_m1 ?_) | (with_reducible refine gO_i at_2 ?_) | (with_reducible refine gO_i at_m2 ?_) | (with_reducible refine gO_i at_3 ?_) | (with_reducible refine gO_i at_m3 ?_) | (with_reducible refine gO_i at_4 ?_) | (with_reducible refine gO_i at_m4 ?_) | (with_reducible refine gO_i at_5 ?_) | (with_reducible refine gO_i at_m5 ?_) | (with_reducible refine gO_i at_6 ?_) | (with_reducible refine gO_i at_m6 ?_) | (with_reducible refine gO_i at_7 ?_) | (with_reducible refine gO_i at_m7 ?_) | (with_reducible refine IfB.ngf ?_) | (with_reducible refine IfB.ngt ?_) | (with_reducible refine IfB.not ?_) | (with_reducible refine IfB.nil ?_) | (with_reducible refine IfB.nilT ?_) | (with_reducible refine IfB.f isE_c ?_) | (with_reducible refine IfB.t isE_n ?_) | (with_reducible refine IfB.t ?gha ?_; (case gha => rfl)) | (with_reducible refine IfB.f ?gha ?_; (case gha => rfl)) | (with_reducible refine IfB.t ?gha ?_; (case gha => assumption)) | (with_reducible refine IfB.f ?gha ?_; (case gha => assumption)) | (with_reducible refine IfB.yes (Eq.refl _) ?_) | (with_reducible refine IfB.yes ?gha ?_; (case gha => (first | omega | (simp only [len_c, len_n, List.length_map]; omega)))) | (with_reducible refine IfB.no ?gha ?_; (case gha => (first | omega | (simp only [len_c, len_n, List.length_map]; omega)))) | (with_reducible refine IfB.t ?gha ?_; (case gha => decide +kernel)) | (with_reducible refine IfB.f ?gha ?_; (case gha => decide +kernel))); (with_reducible (conv => whnf))))))
local macro_rules
  | `(tactic| decreasing_trivial_pre_omega) => `(tactic| (decreasing_trivial; (repeat ((first | ((with_reducible refine And.intro ?gha ?_); (case gha => (first | assumption | omega | exact rfl | (exact mset_same) | (exact ⟨_, mset_same⟩) | (exact Exists.intro _ (by first | exact mset_same | assumption | (rw [mset_ne (by assumption)]; first | exact mset_same | assumption))) | (exact sm_of (by omega) (by omega)) | (exact sz1000 (by first | omega | (simp; done) | (simp; omega))) | (exact Or.inl ⟨by decide, by decide⟩) | decide | (simp; done) | (refine ⟨?_, ?_⟩ <;> (first | assumption | omega | exact rfl | (exact mset_same) | (exact ⟨_, mset_same⟩) | (exact Exists.intro _ (by first | exact mset_same | assumption | (rw [mset_ne (by assumption)]; first | exact mset_same | assumption))) | (exact sm_of (by omega) (by omega)) | (exact sz1000 (by first | omega | (simp; done) | (simp; omega))) | (exact Or.inl ⟨by decide, by decide⟩) | decide | (simp; done))) | (refine ⟨?_, ?_, ?_⟩ <;> (first | assumption | omega | exact rfl | (exact mset_same) | (exact ⟨_, mset_same⟩) | (exact Exists.intro _ (by first | exact mset_same | assumption | (rw [mset_ne (by assumption)]; first | exact mset_same | assumption))) | (exact sm_of (by omega) (by omega)) | (exact sz1000 (by first | omega | (simp; done) | (simp; omega))) | (exact Or.inl ⟨by decide, by decide⟩) | decide | (simp; done))) | (refine ⟨?_, ?_, ?_, ?_⟩ <;> (first | assumption | omega | exact rfl | (exact mset_same) | (exact ⟨_, mset_same⟩) | (exact Exists.intro _ (by first | exact mset_same | assumption | (rw [mset_ne (by assumption)]; first | exact mset_same | assumption))) | (exact sm_of (by omega) (by omega)) | (exact sz1000 (by first | omega | (simp; done) | (simp; omega))) | (exact Or.inl ⟨by decide, by decide⟩) | decide | (simp; done)))))) | (with_reducible refine exW (by first | exact mset_same | assumption | (rw [mset_ne (by assumption)]; first | exact mset_same | assumption)) ?_)); decreasing_trivial))))
/-- one and the same data twice -/
@[reducible] def tfAlike (n : Nat) : TF := fun ws M R _ => g2 ws fun x y => gD y fun d => (asD M x fun e => e = d) ∧ (d.depth < n ∧ d.hasDict = false ∧ txt d = true) ∧ R (.d (.bool true)) M
theorem depth_get : ∀ {ds : List PyData} {i : Nat} {d : PyData}, ds[i]? = some d → d.depth ≤ PyData.depthAll ds ∧ (PyData.hasDictAll ds = false → d.hasDict = false)
  | [], _, _, e => by simp at e
  | a :: r, 0, d, e => by
    simp at e
    subst e
    rw [PyData.depthAll, PyData.hasDictAll]
    exact ⟨Nat.le_max_left _ _, fun h => by rw [Bool.or_eq_false_iff] at h; exact h.1⟩
  | a :: r, i + 1, d, e => by
    obtain ⟨h1, h2⟩ := depth_get (ds := r) (i := i) (by simpa using e)
    rw [PyData.depthAll, PyData.hasDictAll]
    exact ⟨Nat.le_trans h1 (Nat.le_max_right _ _), fun h => by rw [Bool.or_eq_false_iff] at h; exact h2 h.2⟩
section
variable {P : Program} {w : World} {K : PySem.W.Frag} {mg : Str → Option Value} {base : Heap}
abbrev sAlike : Stmt := top 26
theorem scAlike : FnScope ["_law_found", "_law_due", "_law_one", "_law_other"] ["_law_found", "_law_due"] (defScope sAlike) := ⟨rfl, rfl, rfl, by decide +kernel, rfl, by decide +kernel, by decide +kernel⟩
theorem ok_alike1 {f : Addr} {fd : FuncData} {n : Nat} (F : Fun K "_law_alike" "_law_alike" sAlike f fd) (U_law_alike : Use P w K mg base "_law_alike" ["_law_found", "_law_due"] n (spD K 2 (tfAlike n))) (T : Bl mg) (mz : mg "zip" = none) :
    FnOk P w K mg base CX0 (n + 1) f fd ["_law_found", "_law_due"] (spD K 2 (tfAlike (n + 1))) := by
  refine okD F scAlike rfl fun cdv A outer s H E hr => ?_
  refine ⟨_, _, (pss_cons (ps_if (pt_cmpR op_isN (pv 1) pe_non (nomark _)) (pss_one (ps_ret (pe_cmpR op_isN (pv 0) pe_non (nomark _)))) pss_nil)
    (pss_cons (ps_if (pt_val (pe_callB (r := rIsi K) call_isi (by rfl) T.isi PyProof.Rows.boot_isinstance (pa_cons (pv 1) (pa_cons (b_bool T) pa_nil)))) (pss_one (ps_ret (pe_and (pe_callB (r := rIsi K) call_isi (by rfl) T.isi PyProof.Rows.boot_isinstance (pa_cons (pv 0) (pa_cons (b_bool T) pa_nil))) (pe_one (pe_cmpR op_eq (pv 0) (pv 1) (nomark _)))))) pss_nil)
    (pss_cons (ps_if (pt_val (pe_callB (r := rIsi K) call_isi (by rfl) T.isi PyProof.Rows.boot_isinstance (pa_cons (pv 1) (pa_cons (b_int T) pa_nil)))) (pss_one (ps_ret (pe_and (pe_callB (r := rIsi K) call_isi (by rfl) T.isi PyProof.Rows.boot_isinstance (pa_cons (pv 0) (pa_cons (b_int T) pa_nil))) (pe_and (pe_not (pe_callB (r := rIsi K) call_isi (by rfl) T.isi PyProof.Rows.boot_isinstance (pa_cons (pv 0) (pa_cons (b_bool T) pa_nil)))) (pe_one (pe_cmpR op_eq (pv 0) (pv 1) (nomark _))))))) pss_nil)
    (pss_cons (ps_if (pt_val (pe_callB (r := rIsi K) call_isi (by rfl) T.isi PyProof.Rows.boot_isinstance (pa_cons (pv 1) (pa_cons (b_str T) pa_nil)))) (pss_one (ps_ret (pe_and (pe_callB (r := rIsi K) call_isi (by rfl) T.isi PyProof.Rows.boot_isinstance (pa_cons (pv 0) (pa_cons (b_str T) pa_nil))) (pe_one (pe_cmpR op_eq (pv 0) (pv 1) (nomark _)))))) pss_nil)
    (pss_cons (ps_if (PW.pt (pw_and (pt_val (pe_callB (r := rIsi K) call_isi (by rfl) T.isi PyProof.Rows.boot_isinstance (pa_cons (pv 1) (pa_cons (b_list T) pa_nil)))) (pw_and1 (pt_not (pt_val (pe_callB (r := rIsi K) call_isi (by rfl) T.isi PyProof.Rows.boot_isinstance (pa_cons (pv 0) (pa_cons (b_list T) pa_nil)))))))) (pss_one (ps_ret pe_bl)) pss_nil)
    (pss_cons (ps_if (PW.pt (pw_and (pt_val (pe_callB (r := rIsi K) call_isi (by rfl) T.isi PyProof.Rows.boot_isinstance (pa_cons (pv 1) (pa_cons (b_tuple T) pa_nil)))) (pw_and1 (pt_not (pt_val (pe_callB (r := rIsi K) call_isi (by rfl) T.isi PyProof.Rows.boot_isinstance (pa_cons (pv 0) (pa_cons (b_tuple T) pa_nil)))))))) (pss_one (ps_ret pe_bl)) pss_nil)
    (pss_cons (ps_if (pt_cmpR op_ne (pe_callB call_len_seq (by rfl) T.len PySem.boot_len (pa_cons (pv 0) pa_nil)) (pe_callB call_len_seq (by rfl) T.len PySem.boot_len (pa_cons (pv 1) pa_nil)) (nomark _)) (pss_one (ps_ret pe_bl)) pss_nil)
    (pss_cons (ps_for PassesOwn.never rfl (pi_zipA (by rfl) mz (pa_cons (pv 0) (pa_cons (pv 1) pa_nil))) (pg_tup rfl (pgs_cons (pg_name (i := 2) scAlike.nd rfl (.inl rfl)) (pgs_cons (pg_name (i := 3) scAlike.nd rfl (.inl rfl)) pgs_nil))) (pss_one (ps_if (pt_not (pt_val (pe_call U_law_alike.ok (hr.mono (by omega)) rfl U_law_alike.m U_law_alike.kp U_law_alike.b .nil pass0 (pa_cons (pv 2) (pa_cons (pv 3) pa_nil))))) (pss_one (ps_ret pe_bl)) pss_nil)))
    (pss_one (ps_ret pe_bl)))))))))),
    (ss_cons (ss_if (st_test (se_op so_isN se_nm se_non)) (ss_ret (se_op so_isN se_nm se_non)) ss_nil)
    (ss_cons (ss_if (st_val (se_cb sc_isi (sa_cons se_nm (sa_cons se_o sa_nil)))) (ss_ret (se_and (se_cb sc_isi (sa_cons se_nm (sa_cons se_o sa_nil))) (se_op so_eqS se_nm se_nm))) ss_nil)
    (ss_cons (ss_if (st_val (se_cb sc_isi (sa_cons se_nm (sa_cons se_o sa_nil)))) (ss_ret (se_and (se_cb sc_isi (sa_cons se_nm (sa_cons se_o sa_nil))) (se_and (se_not (se_cb sc_isi (sa_cons se_nm (sa_cons se_o sa_nil)))) (se_op so_eqS se_nm se_nm)))) ss_nil)
    (ss_cons (ss_if (st_val (se_cb sc_isi (sa_cons se_nm (sa_cons se_o sa_nil)))) (ss_ret (se_and (se_cb sc_isi (sa_cons se_nm (sa_cons se_o sa_nil))) (se_op so_eqS se_nm se_nm))) ss_nil)
    (ss_cons (ss_if (st_and (st_val (se_cb sc_isi (sa_cons se_nm (sa_cons se_o sa_nil)))) (st_not (st_val (se_cb sc_isi (sa_cons se_nm (sa_cons se_o sa_nil)))))) (ss_ret se_bl) ss_nil)
    (ss_cons (ss_if (st_and (st_val (se_cb sc_isi (sa_cons se_nm (sa_cons se_o sa_nil)))) (st_not (st_val (se_cb sc_isi (sa_cons se_nm (sa_cons se_o sa_nil)))))) (ss_ret se_bl) ss_nil)
    (ss_cons (ss_if (st_test (se_op so_neS (se_cb sc_len (sa_cons se_nm sa_nil)) (se_cb sc_len (sa_cons se_nm sa_nil)))) (ss_ret se_bl) ss_nil)
    (ss_cons (ss_for (si_zip (sa_cons se_nm (sa_cons se_nm sa_nil))) sg_pair (ss_if (st_not (st_val (se_call (sa_cons se_nm (sa_cons se_nm sa_nil))))) (ss_ret se_bl) ss_nil))
    (ss_ret se_bl))))))))), fun ws M R RX hl h => ?_⟩
  obtain ⟨x, y, rfl, h1⟩ := g2_of h
  obtain ⟨d, rfl, h2, ⟨hd, hh, ht⟩, h3⟩ := gD_of h1
  clear h h1 hl
  have loop : ∀ (ds : List PyData) (x y : W) (keep : Mem → Prop), keep M → PyData.depthAll ds < n → PyData.hasDictAll ds = false → txtAll ds = true →
      forGo (bPair 2 3) keep (ifS (notT (tbT (callT (tfAlike n) (consA (nmT 2) (consA (nmT 3) nilA))))) (retS (cT (W.d (.bool false)))) nextS) { nx := retS (cT (W.d (.bool true))) (endD R), rt := R } (zipR (ds.map W.d) (ds.map W.d)) [some x, some y, none, none] M := fun ds x y keep hk g1 g2 g3 => by
    refine forZ rfl (fun i ρ M' => M' = M ∧ ∃ a b, ρ = [some x, some y, a, b]) ⟨rfl, _, _, rfl⟩ (fun i ρ M' _ p => by rw [p.1]; exact hk) (fun i a c ρ M' N ha hc p hN => ?_) (fun ρ M' p => ?_)
    · obtain ⟨rfl, a', b', rfl⟩ := p
      rw [ha] at hc
      cases hc
      rw [List.getElem?_map] at ha
      obtain ⟨d, hd2, rfl⟩ := Option.map_eq_some_iff.mp ha
      obtain ⟨q1, q2⟩ := depth_get hd2
      have q3 := q2 g2
      have q4 := txtAll_get g3 hd2
      decreasing_trivial_pre_omega
      exact hN _ _ ⟨rfl, _, _, rfl⟩
    · obtain ⟨rfl, a', b', rfl⟩ := p
      exact h3
  have small : ∀ (ds : List PyData), PyData.depthAll ds + 1 < n + 1 → PyData.depthAll ds < n := fun ds h => by omega
  cases x with
  | o v => exact h2.elim
  | x a C dd fs => exact h2.elim
  | d e =>
    have e' : e = d := h2
    subst e'
    cases e with
    | none => simp only [start0, len_c, len_n, map_c, map_n, app_c, app_n, rep_0, rep_s, Nat.reduceAdd, Nat.reduceSub]; decreasing_trivial_pre_omega; exact h3
    | bool b => simp only [start0, len_c, len_n, map_c, map_n, app_c, app_n, rep_0, rep_s, Nat.reduceAdd, Nat.reduceSub]; decreasing_trivial_pre_omega; rw [decide_eq_true rfl]; exact h3
    | int b => simp only [start0, len_c, len_n, map_c, map_n, app_c, app_n, rep_0, rep_s, Nat.reduceAdd, Nat.reduceSub]; decreasing_trivial_pre_omega; rw [decide_eq_true rfl]; exact h3
    | str b => simp only [start0, len_c, len_n, map_c, map_n, app_c, app_n, rep_0, rep_s, Nat.reduceAdd, Nat.reduceSub]; decreasing_trivial_pre_omega; rw [decide_eq_true rfl]; exact h3
    | dict b => rw [PyData.hasDict] at hh; cases hh
    | list ds =>
      rw [PyData.depth] at hd
      rw [PyData.hasDict] at hh
      rw [txt] at ht
      simp only [start0, len_c, len_n, map_c, map_n, app_c, app_n, rep_0, rep_s, Nat.reduceAdd, Nat.reduceSub]
      decreasing_trivial_pre_omega
      exact loop ds _ _ _ trivial (by omega) hh ht
    | tuple ds =>
      rw [PyData.depth] at hd
      rw [PyData.hasDict] at hh
      rw [txt] at ht
      simp only [start0, len_c, len_n, map_c, map_n, app_c, app_n, rep_0, rep_s, Nat.reduceAdd, Nat.reduceSub]
      decreasing_trivial_pre_omega
      exact loop ds _ _ _ trivial (by omega) hh ht
  | r a =>
    obtain ⟨ds, ha, e⟩ := h2
    subst e
    rw [PyData.depth] at hd
    rw [PyData.hasDict] at hh
    rw [txt] at ht
    simp only [start0, len_c, len_n, map_c, map_n, app_c, app_n, rep_0, rep_s, Nat.reduceAdd, Nat.reduceSub]
    decreasing_trivial_pre_omega
    exact loop ds _ _ _ ha (by omega) hh ht
theorem ok_alike {f : Addr} {fd : FuncData} (F : Fun K "_law_alike" "_law_alike" sAlike f fd) (mF : mg "_law_alike" = some (.ref f)) (T : Bl mg) (mz : mg "zip" = none) : ∀ n, FnOk P w K mg base CX0 n f fd ["_law_found", "_law_due"] (spD K 2 (tfAlike n))
  | 0 => no0 fun ws M R RX h => by
    obtain ⟨x, y, rfl, h1⟩ := g2_of h
    obtain ⟨d, rfl, h2, ⟨hd, _⟩, h3⟩ := gD_of h1
    omega
  | n + 1 => ok_alike1 F ⟨f, fd, ok_alike F mF T mz n, mF, F.kp, F.binds (ps := ["_law_found", "_law_due"]) fun _ _ _ _ _ _ us hl => match us, hl with | [_, _], _ => rfl⟩ T mz
end
end Tl
set_option Elab.async false
set_option linter.all false
set_option maxRecDepth 100000
set_option maxHeartbeats 8000000
namespace Tl
open PySem L2 RZ
local macro_rules
  | `(tactic| decreasing_trivial) => `(tactic| ((with_reducible (conv => whnf)); (repeat ((first | (with_reducible refine gDs_c ?_) | (with_reducible refine gDs_n ?_) | (with_reducible refine gNs_c ?_) | (with_reducible refine gNs_n ?_) | (with_reducible refine gO_i tyAny_lt ?_) | (with_reducible refine gIs_c ?_) | (with_reducible refine gIs_n ?_) | (with_reducible refine gBs_c ?_) | (with_reducible refine gBs_n ?_) | (with_reducible refine gSs_c ?_) | (with_reducible refine gSs_n ?_) | (with_reducible refine gO_i tyIs_int ?_) | (with_reducible refine gO_i tyIs_bool ?_) | (with_reducible refine gO_i tyIs_str ?_) | (with_reducible refine gO_i tyIs_tuple ?_) | (with_reducible refine gO_i tyIs_list ?_) | (with_reducible refine gDs_i ?_) | (with_reducible refine gO_i (Eq.refl _) ?_) | (with_reducible refine gO_i (by assumption) ?_) | (with_reducible refine gO_i at_0 ?_) | (with_reducible refine gO_i at_m0 ?_) | (with_reducible refine gO_i at_1 ?_) | (with_reducible refine gO_i at_m1 ?_) | (with_reducible refine gO_i at_2 ?_) | (with_reducible refine gO_i at_m2 ?_) | (with_reducible refine gO_i at_3 ?_) | (with_reducible refine gO_i at_m3 ?_) | (with_reducible refine gO_i at_4 ?_) | (with_reducible refine gO_i at_m4 ?_) | (with_reducible refine gO_i at_5 ?_) | (with_reducible refine gO_i at_m5 ?_) | (with_reducible refine gO_i at_6 ?_) | (with_reducible refine gO_i at_m6 ?_) | (with_reducible refine gO_i at_7 ?_) | (with_reducible refine gO_i at_m7 ?_) | (with_reducible refine IfB.ngf ?_) | (with_reducible refine IfB.ngt ?_) | (with_reducible refine IfB.not ?_) | (with_reducible refine IfB.nil ?_) | (with_reducible refine IfB.nilT ?_) | (with_reducible refine IfB.f isE_c ?_) | (with_reducible refine IfB.t isE_n ?_) | (with_reducible refine IfB.t ?gha ?_; (case gha => rfl)) | (with_reducible refine IfB.f ?gha ?_; (case gha => rfl)) | (with_reducible refine IfB.t ?gha ?_; (case gha => assumption)) | (with_reducible refine IfB.f ?gha ?_; (case gha => assumption)) | (with_reducible refine IfB.yes (Eq.refl _) ?_) | (with_reducible refine IfB.yes ?gha ?_; (case gha => (first | omega | (simp only [len_c, len_n, List.length_map]; omega)))) | (with_reducible refine IfB.no ?gha ?_; (case gha => (first | omega | (simp only [len_c, len_n, List.length_map]; omega)))) | (with_reducible refine IfB.t ?gha ?_; (case gha => decide +kernel)) | (with_reducible refine IfB.f ?gha ?_; (case gha => decide +kernel))); (with_reducible (conv => whnf))))))
local macro_rules
  | `(tactic| decreasing_trivial_pre_omega) => `(tactic| (decreasing_trivial; (repeat ((first | ((with_reducible refine And.intro ?gha ?_); (case gha => (first | assumption | omega | exact rfl | (exact mset_same) | (exact ⟨_, mset_same⟩) | (exact Exists.intro _ (by first | exact mset_same | assumption | (rw [mset_ne (by assumption)]; first | exact mset_same | assumption))) | (exact sm_of (by omega) (by omega)) | (exact sz1000 (by first | omega | (simp; done) | (simp; omega))) | (exact Or.inl ⟨by decide, by decide⟩) | decide | (simp; done) | (refine ⟨?_, ?_⟩ <;> (first | assumption | omega | exact rfl | (exact mset_same) | (exact ⟨_, mset_same⟩) | (exact Exists.intro _ (by first | exact mset_same | assumption | (rw [mset_ne (by assumption)]; first | exact mset_same | assumption))) | (exact sm_of (by omega) (by omega)) | (exact sz1000 (by first | omega | (simp; done) | (simp; omega))) | (exact Or.inl ⟨by decide, by decide⟩) | decide | (simp; done))) | (refine ⟨?_, ?_, ?_⟩ <;> (first | assumption | omega | exact rfl | (exact mset_same) | (exact ⟨_, mset_same⟩) | (exact Exists.intro _ (by first | exact mset_same | assumption | (rw [mset_ne (by assumption)]; first | exact mset_same | assumption))) | (exact sm_of (by omega) (by omega)) | (exact sz1000 (by first | omega | (simp; done) | (simp; omega))) | (exact Or.inl ⟨by decide, by decide⟩) | decide | (simp; done))) | (refine ⟨?_, ?_, ?_, ?_⟩ <;> (first | assumption | omega | exact rfl | (exact mset_same) | (exact ⟨_, mset_same⟩) | (exact Exists.intro _ (by first | exact mset_same | assumption | (rw [mset_ne (by assumption)]; first | exact mset_same | assumption))) | (exact sm_of (by omega) (by omega)) | (exact sz1000 (by first | omega | (simp; done) | (simp; omega))) | (exact Or.inl ⟨by decide, by decide⟩) | decide | (simp; done)))))) | (with_reducible refine exW (by first | exact mset_same | assumption | (rw [mset_ne (by assumption)]; first | exact mset_same | assumption)) ?_)); decreasing_trivial))))
theorem len_nn : ∀ ks : List PyData, ks.length ≤ nnAll ks
  | [] => Nat.zero_le _
  | k :: ks => by
    have := len_nn ks
    have := nn_pos k
    rw [nnAll, List.length_cons]
    omega
theorem nnAll_take (ks : List PyData) (i : Nat) : nnAll (ks.take i) ≤ nnAll ks := by
  conv => rhs; rw [← List.take_append_drop i ks, nnAll_app]
  omega
theorem nn_mem : ∀ {ks : List PyData} {k : PyData}, k ∈ ks → nn k ≤ nnAll ks
  | k' :: ks, k, h => by
    rw [nnAll]
    rcases List.mem_cons.mp h with rfl | h
    · omega
    · have := nn_mem h
      omega
/-- the part at a path, None where there is none -/
@[reducible] def tfPartAt : TF := fun ws M R _ => ∃ (d : PyData) (q : List Nat) (n : Nat), ws = [.d d, .d (pathD q)] ∧ TrT n d ∧ R (.d (optP (sub d q))) M
def pls (q : List Nat) (rs : List (List Nat)) : List PyData := rs.map fun r => pathD (q ++ r)
theorem pls_app (q : List Nat) (a b : List (List Nat)) : pls q (a ++ b) = pls q a ++ pls q b := List.map_append
theorem pls_len (q : List Nat) (a : List (List Nat)) : (pls q a).length = a.length := List.length_map _
theorem pls_kid (q : List Nat) (i : Nat) (a : List (List Nat)) : pls (q ++ [i]) a = pls q (a.map (i :: ·)) := by
  unfold pls
  rw [List.map_map]
  refine List.map_congr_left fun r _ => ?_
  show pathD (q ++ [i] ++ r) = pathD (q ++ i :: r)
  rw [List.append_assoc]
  rfl
theorem path_cat (q : List Nat) (i : Nat) : PyData.tuple ((q.map fun n : Nat => .int (n : Int)) ++ [.int (i : Int)]) = pathD (q ++ [i]) := by
  unfold pathD
  rw [List.map_append]
  rfl
/-- all paths of a part, as a new list -/
@[reducible] def tfPaths (n : Nat) : TF := fun ws M R _ => ∃ (d : PyData) (q : List Nat), ws = [.d d, .d (pathD q)] ∧ (TrT n d ∧ nn d ≤ 200 ∧ q.length + n ≤ 100) ∧ ∀ p, M p = none → R (.r p) (mset M p (.lst ((pls q (plc d)).map W.d)))
/-- as data -/
@[reducible] def tfPls (n : Nat) : TF := fun ws M R _ => ∃ (d : PyData) (q : List Nat), ws = [.d d, .d (pathD q)] ∧ (TrT n d ∧ nn d ≤ 200 ∧ q.length + n ≤ 100) ∧ R (.d (.list (pls q (plc d)))) M
section
variable {P : Program} {w : World} {K : PySem.W.Frag} {mg : Str → Option Value} {base : Heap}
abbrev sPartAt : Stmt := top 15
theorem scPartAt : FnScope ["tree", "path", "part", "step"] ["tree", "path"] (defScope sPartAt) := ⟨rfl, rfl, rfl, by decide +kernel, rfl, by decide +kernel, by decide +kernel⟩
theorem ok_partAt {f : Addr} {fd : FuncData} {k : Nat} (F : Fun K "part_at" "part_at" sPartAt f fd) (T : Bl mg) : FnOk P w K mg base CX0 (k + 1) f fd ["tree", "path"] (spD K 2 tfPartAt) := by
  refine okD F scPartAt rfl fun cdv A outer s H E hr => ?_
  refine ⟨_, _, (pss_cons (ps_set (i := 2) scPartAt.nd rfl (.inl rfl) (pv 0))
    (pss_cons (ps_for PassesOwn.never rfl (pi_tup (pv 1)) (pg_name (i := 3) scPartAt.nd rfl (.inl rfl)) (pss_cons (ps_if (pt_cmpR op_ge (pv 3) (pe_callB call_len_seq (by rfl) T.len PySem.boot_len (pa_cons (pe_ix ix_tup (pv 2) pe_int (fun _ _ => rfl)) pa_nil)) (nomark _)) (pss_one (ps_ret pe_non)) pss_nil)
      (pss_one (ps_set (i := 2) scPartAt.nd rfl (.inl rfl) (pe_ix ix_tup (pe_ix ix_tup (pv 2) pe_int (fun _ _ => rfl)) (pv 3) (fun _ _ => rfl))))))
    (pss_one (ps_ret (pv 2))))),
    (ss_cons (ss_set se_nm)
    (ss_cons (ss_for (si_tup se_nm) sg_name (ss_cons (ss_if (st_test (se_op so_ge se_nm (se_cb sc_len (sa_cons (se_op so_ixT se_nm se_int) sa_nil)))) (ss_ret se_non) ss_nil)
      (ss_set (se_op so_ixT (se_op so_ixT se_nm se_int) se_nm))))
    (ss_ret se_nm))), fun ws M R RX hl h => ?_⟩
  obtain ⟨d, q, n, rfl, ht, h2⟩ := h
  unfold pathD
  simp only [start0, len_c, len_n, map_c, map_n, app_c, app_n, rep_0, rep_s, Nat.reduceAdd, Nat.reduceSub]
  decreasing_trivial
  rw [mapW]
  refine for1 (fun i ρ M' => M = M' ∧ ∃ (e : PyData) (m : Nat) (y : Option W), ρ = [some (W.d d), some (W.d (.tuple (q.map fun n : Nat => .int (n : Int)))), some (W.d e), y] ∧ TrT m e ∧ sub d q = sub e (q.drop i))
    ⟨rfl, d, n, none, rfl, ht, rfl⟩ (fun _ _ _ _ _ => trivial) (fun i a ρ M' N ha p hN => ?_) (fun ρ M' p => ?_)
  · obtain ⟨rfl, e, m, y, rfl, he, hs⟩ := p
    cases m with
    | zero => exact he.elim
    | succ m =>
      obtain ⟨s0, ks, rfl, _, hk⟩ := he
      have hi := (List.getElem?_eq_some_iff.mp ha).1
      rw [List.drop_eq_getElem_cons hi, (List.getElem?_eq_some_iff.mp ha).2, sub_node] at hs
      decreasing_trivial
      refine IfB.d (fun c => ?_) (fun c => ?_)
      · decreasing_trivial
        rw [hs, List.getElem?_eq_none (by omega)] at h2
        exact h2
      · obtain ⟨k, hk2⟩ : ∃ k, ks[a]? = some k := ⟨ks[a]'(by omega), List.getElem?_eq_getElem _⟩
        rw [hk2] at hs
        decreasing_trivial
        refine gO_i (atI_nat hk2) ?_
        decreasing_trivial
        exact hN _ _ ⟨rfl, k, m, _, rfl, hk k (List.mem_of_getElem? hk2), hs⟩
  · obtain ⟨rfl, e, m, y, rfl, he, hs⟩ := p
    rw [List.drop_length, sub_nil] at hs
    rw [hs] at h2
    exact h2
abbrev sPathsF : Stmt := top 16
theorem scPathsF : FnScope ["tree", "path", "paths", "at", "kid"] ["tree", "path"] (defScope sPathsF) := ⟨rfl, rfl, rfl, by decide +kernel, rfl, by decide +kernel, by decide +kernel⟩
theorem ok_pathsF1 {f : Addr} {fd : FuncData} {n : Nat} (F : Fun K "paths_from" "paths_from" sPathsF f fd) (Upaths_from : Use P w K mg base "paths_from" ["tree", "path"] n (spD K 2 (tfPls n))) (T : Bl mg) :
    FnOk P w K mg base CX0 (n + 1) f fd ["tree", "path"] (spD K 2 (tfPaths (n + 1))) := by
  refine okD F scPathsF rfl fun cdv A outer s H E hr => ?_
  refine ⟨_, _, (pss_cons (ps_set (i := 2) scPathsF.nd rfl (.inl rfl) (pe_lst (pa_cons (pv 1) pa_nil)))
    (pss_cons (ps_for PassesOwn.never rfl (pi_enumT (by rfl) T.enum (pa_cons (pe_ix ix_tup (pv 0) pe_int (fun _ _ => rfl)) pa_nil)) (pg_tup rfl (pgs_cons (pg_name (i := 3) scPathsF.nd rfl (.inl rfl)) (pgs_cons (pg_name (i := 4) scPathsF.nd rfl (.inl rfl)) pgs_nil))) (pss_one (ps_expr (pe_bm PySem.F.plainAttrs_list PySem.F.slot_list_extend PySem.F.type_list_extend mt_extend (pv 2) (pa_cons (pe_call Upaths_from.ok (hr.mono (by omega)) rfl Upaths_from.m Upaths_from.kp Upaths_from.b .nil pass0 (pa_cons (pv 4) (pa_cons (pe_op op_catA (pv 1) (pe_tup (pa_cons (pv 3) pa_nil))) pa_nil))) pa_nil)))))
    (pss_one (ps_ret (pv 2))))),
    (ss_cons (ss_set (se_lst (sa_cons se_nm sa_nil)))
    (ss_cons (ss_for (si_enT (sa_cons (se_op so_ixT se_nm se_int) sa_nil)) sg_pair (ss_drop (se_bmL sm_extend se_nm (sa_cons (se_call (sa_cons se_nm (sa_cons (se_op so_catT se_nm (se_tup (sa_cons se_nm sa_nil))) sa_nil))) sa_nil))))
    (ss_ret se_nm))), fun ws M R RX hl h => ?_⟩
  obtain ⟨d, q, rfl, ⟨ht, hn, hq⟩, h3⟩ := h
  obtain ⟨s0, ks, rfl, hs, hk⟩ := ht
  rw [plc_node] at h3
  rw [nn] at hn
  simp only [start0, len_c, len_n, map_c, map_n, app_c, app_n, rep_0, rep_s, Nat.reduceAdd, Nat.reduceSub]
  decreasing_trivial
  intro p hp
  decreasing_trivial
  refine forE (fun i ρ M' => mset M p (.lst ((pls q ([] :: plcAll 0 (ks.take i))).map W.d)) = M' ∧ ∃ y z, ρ = [some (W.d (PyData.tuple [PyData.str s0, PyData.tuple ks])), some (W.d (pathD q)), some (W.r p), y, z])
    ⟨by rw [List.take_zero, plcAll]; unfold pls; rw [List.map_cons, List.append_nil]; rfl, none, none, rfl⟩ (fun _ _ _ _ _ => trivial) (fun i a ρ M' N ha c hN => ?_) (fun ρ M' c => ?_)
  · obtain ⟨rfl, y, z, rfl⟩ := c
    rw [List.getElem?_map] at ha
    obtain ⟨kd, hkd, rfl⟩ := Option.map_eq_some_iff.mp ha
    have hm := List.mem_of_getElem? hkd
    have h1 := nn_mem hm
    have h2 := nnAll_take ks i
    have hi := (List.getElem?_eq_some_iff.mp hkd).1
    unfold pathD
    decreasing_trivial
    refine ⟨⟨_, mset_same⟩, ?_⟩
    decreasing_trivial
    refine ⟨sz1000 (by simp; omega), ?_⟩
    rw [path_cat]
    decreasing_trivial
    refine ⟨kd, q ++ [i], rfl, ⟨hk kd hm, by omega, by simp; omega⟩, ?_⟩
    decreasing_trivial
    refine ⟨_, mset_same, ?_⟩
    decreasing_trivial
    refine ⟨?_, ?_⟩
    · simp only [List.length_map, pls_len, List.length_cons, plcAll_len (n := n) _ (fun x hx => hk x (List.mem_of_mem_take hx)), plc_len (hk kd hm)]
      exact sz1000 (by omega)
    · rw [mset_mset]
      refine hN _ _ ⟨?_, _, _, rfl⟩
      congr 2
      rw [← List.map_append, pls_kid, ← pls_app, List.take_add_one, hkd, plcAll_app, List.cons_append]
      show List.map W.d (pls q ([] :: (plcAll 0 (ks.take i) ++ plcAll (0 + (ks.take i).length) [kd]))) = _
      rw [plcAll_one, List.length_take, show 0 + min i ks.length = i by omega]
  · obtain ⟨rfl, y, z, rfl⟩ := c
    rw [List.length_map, List.take_length]
    exact h3 p hp
theorem ok_pathsF {f : Addr} {fd : FuncData} (F : Fun K "paths_from" "paths_from" sPathsF f fd) (mF : mg "paths_from" = some (.ref f)) (T : Bl mg) : ∀ n, FnOk P w K mg base CX0 n f fd ["tree", "path"] (spD K 2 (tfPaths n))
  | 0 => no0 fun ws M R RX ⟨_, _, _, ⟨h, _⟩, _⟩ => h
  | n + 1 => ok_pathsF1 F ⟨f, fd, FnOk.dat (ok_pathsF F mF T n) fun ws M R RX hl ⟨d, q, e, h1, h2⟩ => ⟨d, q, e, h1, fun p hp => ⟨p, _, rfl, hp, rfl, h2⟩⟩, mF, F.kp, F.binds (ps := ["tree", "path"]) fun _ _ _ _ _ _ us hl => match us, hl with | [_, _], _ => rfl⟩ T
abbrev sPlaces : Stmt := top 28
theorem scPlaces : FnScope ["_law_tree_here", "_law_path", "_law_found", "_law_at", "_law_kid"] ["_law_tree_here", "_law_path"] (defScope sPlaces) := ⟨rfl, rfl, rfl, by decide +kernel, rfl, by decide +kernel, by decide +kernel⟩
theorem ok_places1 {f : Addr} {fd : FuncData} {n : Nat} (F : Fun K "_law_places" "_law_places" sPlaces f fd) (U_law_places : Use P w K mg base "_law_places" ["_law_tree_here", "_law_path"] n (spD K 2 (tfPls n))) (T : Bl mg) :
    FnOk P w K mg base CX0 (n + 1) f fd ["_law_tree_here", "_law_path"] (spD K 2 (tfPls (n + 1))) := by
  refine okD F scPlaces rfl fun cdv A outer s H E hr => ?_
  refine ⟨_, _, (pss_cons (ps_set (i := 2) scPlaces.nd rfl (.inl rfl) (pe_lst (pa_cons (pv 1) pa_nil)))
    (pss_cons (ps_for PassesOwn.never rfl (pi_enumT (by rfl) T.enum (pa_cons (pe_ix ix_tup (pv 0) pe_int (fun _ _ => rfl)) pa_nil)) (pg_tup rfl (pgs_cons (pg_name (i := 3) scPlaces.nd rfl (.inl rfl)) (pgs_cons (pg_name (i := 4) scPlaces.nd rfl (.inl rfl)) pgs_nil))) (pss_one (ps_set (i := 2) scPlaces.nd rfl (.inl rfl) (pe_op op_cat (pv 2) (pe_call U_law_places.ok (hr.mono (by omega)) rfl U_law_places.m U_law_places.kp U_law_places.b .nil pass0 (pa_cons (pv 4) (pa_cons (pe_op op_catA (pv 1) (pe_tup (pa_cons (pv 3) pa_nil))) pa_nil)))))))
    (pss_one (ps_ret (pv 2))))),
    (ss_cons (ss_set (se_lsf (sa_cons se_nm sa_nil)))
    (ss_cons (ss_for (si_enT (sa_cons (se_op so_ixT se_nm se_int) sa_nil)) sg_pair (ss_set (se_op so_catF se_nm (se_call (sa_cons se_nm (sa_cons (se_op so_catT se_nm (se_tup (sa_cons se_nm sa_nil))) sa_nil))))))
    (ss_ret se_nm))), fun ws M R RX hl h => ?_⟩
  obtain ⟨d, q, rfl, ⟨ht, hn, hq⟩, h3⟩ := h
  obtain ⟨s0, ks, rfl, hs, hk⟩ := ht
  rw [plc_node] at h3
  rw [nn] at hn
  simp only [start0, len_c, len_n, map_c, map_n, app_c, app_n, rep_0, rep_s, Nat.reduceAdd, Nat.reduceSub]
  decreasing_trivial
  refine forE (fun i ρ M' => M = M' ∧ ∃ y z, ρ = [some (W.d (PyData.tuple [PyData.str s0, PyData.tuple ks])), some (W.d (pathD q)), some (W.d (.list (pls q ([] :: plcAll 0 (ks.take i))))), y, z])
    ⟨rfl, none, none, by rw [List.take_zero, plcAll]; unfold pls; rw [List.map_cons, List.append_nil]; rfl⟩ (fun _ _ _ _ _ => trivial) (fun i a ρ M' N ha c hN => ?_) (fun ρ M' c => ?_)
  · obtain ⟨rfl, y, z, rfl⟩ := c
    rw [List.getElem?_map] at ha
    obtain ⟨kd, hkd, rfl⟩ := Option.map_eq_some_iff.mp ha
    have hm := List.mem_of_getElem? hkd
    have h1 := nn_mem hm
    have h2 := nnAll_take ks i
    have hi := (List.getElem?_eq_some_iff.mp hkd).1
    unfold pathD
    decreasing_trivial
    refine ⟨sz1000 (by simp; omega), ?_⟩
    rw [path_cat]
    decreasing_trivial
    refine ⟨kd, q ++ [i], rfl, ⟨hk kd hm, by omega, by simp; omega⟩, ?_⟩
    decreasing_trivial
    refine ⟨?_, ?_⟩
    · simp only [List.length_map, pls_len, List.length_cons, plcAll_len (n := n) _ (fun x hx => hk x (List.mem_of_mem_take hx)), plc_len (hk kd hm)]
      exact sz1000 (by omega)
    · have e : pls q ([] :: plcAll 0 (ks.take i)) ++ pls (q ++ [i]) (plc kd) = pls q ([] :: plcAll 0 (ks.take (i + 1))) := by
        rw [pls_kid, ← pls_app, List.take_add_one, hkd, plcAll_app, List.cons_append]
        show pls q ([] :: (plcAll 0 (ks.take i) ++ _)) = pls q ([] :: (plcAll 0 (ks.take i) ++ plcAll (0 + (ks.take i).length) [kd]))
        rw [plcAll_one, List.length_take, show 0 + min i ks.length = i by omega]
      rw [e]
      exact hN _ _ ⟨rfl, _, _, rfl⟩
  · obtain ⟨rfl, y, z, rfl⟩ := c
    rw [List.length_map, List.take_length]
    exact h3
theorem ok_places {f : Addr} {fd : FuncData} (F : Fun K "_law_places" "_law_places" sPlaces f fd) (mF : mg "_law_places" = some (.ref f)) (T : Bl mg) : ∀ n, FnOk P w K mg base CX0 n f fd ["_law_tree_here", "_law_path"] (spD K 2 (tfPls n))
  | 0 => no0 fun ws M R RX ⟨_, _, _, ⟨h, _⟩, _⟩ => h
  | n + 1 => ok_places1 F ⟨f, fd, ok_places F mF T n, mF, F.kp, F.binds (ps := ["_law_tree_here", "_law_path"]) fun _ _ _ _ _ _ us hl => match us, hl with | [_, _], _ => rfl⟩ T
end
end Tl
set_option Elab.async false
set_option linter.all false
set_option maxRecDepth 100000
set_option maxHeartbeats 4000000
/-! Deeds on trees that are data; trees of lists that may change. -/
namespace Tl
open PySem L2
/-! ### trees that are data -/
def kidD (d : PyData) (n : Nat) : PyData := (kidsD d).getD n .none
/-- a run of kids for many kids -/
def runD (at_ many : Nat) (run : List PyData) : PyData → PyData
  | .tuple [s, .tuple ks] => .tuple [s, .tuple (ks.take at_ ++ run ++ ks.drop (at_ + many))]
  | d => d
/-- another part at a place -/
def repl : List Nat → PyData → PyData → PyData
  | [], _, e => e
  | n :: q, d, e => runD n 1 [repl q (kidD d n) e] d
def partD (d : PyData) (q : List Nat) : PyData := (sub d q).getD .none
def runAt (d : PyData) (q : List Nat) (at_ many : Nat) (run : List PyData) : PyData := repl q d (runD at_ many run (partD d q))
/-- where a place stands behind a part taken out -/
def bo : List Nat → List Nat → List Nat
  | o, [] => o
  | [], _ => []
  | j :: o, [i] => if i < j then (j - 1) :: o else j :: o
  | j :: o, i :: k :: p => if j = i then j :: bo o (k :: p) else j :: o
/-- deeds -/
inductive Deed where
  | name (q : List Nat) (t : Str)
  | put (q : List Nat) (n : Nat) (e : PyData)
  | out (q : List Nat)
  | move (q o : List Nat) (n : Nat)
  | swap (q o : List Nat)
  | wrap (q : List Nat) (n m : Nat) (t : Str)
  | unwrap (q : List Nat)
def Deed.d : Deed → PyData
  | .name q t => .tuple [.str "name", pathD q, .str t]
  | .put q n e => .tuple [.str "put", pathD q, .int n, e]
  | .out q => .tuple [.str "out", pathD q]
  | .move q o n => .tuple [.str "move", pathD q, pathD o, .int n]
  | .swap q o => .tuple [.str "swap", pathD q, pathD o]
  | .wrap q n m t => .tuple [.str "wrap", pathD q, .int n, .int m, .str t]
  | .unwrap q => .tuple [.str "unwrap", pathD q]
def outD (d : PyData) (q : List Nat) : PyData := runAt d q.dropLast (q.getLastD 0) 1 []
/-- the tree behind a deed -/
def chg (d : PyData) : Deed → PyData
  | .name q t => repl q d (.tuple [.str t, .tuple (kidsD (partD d q))])
  | .put q n e => runAt d q n 0 [e]
  | .out q => outD d q
  | .move q o n => runAt (outD d q) (bo o q) n 0 [partD d q]
  | .swap q o => repl o (repl q d (partD d o)) (partD d q)
  | .wrap q n m t => runAt d q n m [.tuple [.str t, .tuple (((kidsD (partD d q)).drop n).take m)]]
  | .unwrap q => runAt d q.dropLast (q.getLastD 0) 1 (kidsD (partD d q))
theorem runD_node (s : PyData) (ks run : List PyData) (n m : Nat) : runD n m run (.tuple [s, .tuple ks]) = .tuple [s, .tuple (ks.take n ++ run ++ ks.drop (n + m))] := rfl
theorem kidsD_node (s : PyData) (ks : List PyData) : kidsD (.tuple [s, .tuple ks]) = ks := rfl
theorem partD_of {d e : PyData} {q : List Nat} (h : sub d q = some e) : partD d q = e := by rw [partD, h]; rfl
/-! ### trees of lists that may change -/
/-- a: the list of number, tag and kids; b: the list of kids -/
inductive AT where
  | node (a b : Addr) (n : Int) (t : PyData) (ks : List AT)
def AT.root : AT → Addr
  | .node a _ _ _ _ => a
def AT.box : AT → Addr
  | .node _ b _ _ _ => b
def AT.kids : AT → List AT
  | .node _ _ _ _ ks => ks
def AT.num : AT → Int
  | .node _ _ n _ _ => n
def AT.tag : AT → PyData
  | .node _ _ _ t _ => t
mutual
/-- told as data, by a word for each place -/
def AT.tel (fl : Int → PyData → PyData) : AT → PyData
  | .node _ _ n t ks => .tuple [fl n t, .tuple (tels fl ks)]
def tels (fl : Int → PyData → PyData) : List AT → List PyData
  | [] => []
  | k :: ks => k.tel fl :: tels fl ks
end
variable {fl : Int → PyData → PyData}
mutual
def AT.adr : AT → List Addr
  | .node a b _ _ ks => a :: b :: adrs ks
def adrs : List AT → List Addr
  | [] => []
  | k :: ks => k.adr ++ adrs ks
end
def rootsW (ks : List AT) : List W := ks.map fun k => .r k.root
mutual
def AT.ok (M : Mem) : AT → Prop
  | .node a b n t ks => M a = some (.lst [.d (.int n), .d t, .r b]) ∧ M b = some (.lst (rootsW ks)) ∧ oks M ks
def oks (M : Mem) : List AT → Prop
  | [] => True
  | k :: ks => k.ok M ∧ oks M ks
end
theorem tels_map : ∀ ks : List AT, tels fl ks = ks.map (AT.tel fl)
  | [] => by rw [tels]; rfl
  | k :: ks => by rw [tels, tels_map ks]; rfl
theorem still_node (a b : Addr) (n : Int) (t : PyData) (ks : List AT) : (AT.node a b n t ks).tel fl = .tuple [fl n t, .tuple (ks.map (AT.tel fl))] := by rw [AT.tel, tels_map]
theorem adrs_app : ∀ a b : List AT, adrs (a ++ b) = adrs a ++ adrs b
  | [], b => by rw [adrs]; rfl
  | k :: a, b => by rw [List.cons_append, adrs, adrs, adrs_app a b, List.append_assoc]
theorem adrs_mem : ∀ {ks : List AT} {k : AT} {x : Addr}, k ∈ ks → x ∈ k.adr → x ∈ adrs ks
  | k' :: ks, k, x, h, hx => by
    rw [adrs, List.mem_append]
    rcases List.mem_cons.mp h with rfl | h
    · exact .inl hx
    · exact .inr (adrs_mem h hx)
theorem mem_adrs : ∀ {ks : List AT} {x : Addr}, x ∈ adrs ks → ∃ k ∈ ks, x ∈ k.adr
  | [], x, h => by rw [adrs] at h; cases h
  | k :: ks, x, h => by
    rw [adrs, List.mem_append] at h
    rcases h with h | h
    · exact ⟨k, .head _, h⟩
    · obtain ⟨z, h1, h2⟩ := mem_adrs h
      exact ⟨z, .tail _ h1, h2⟩
theorem oks_iff {M : Mem} : ∀ {ks : List AT}, oks M ks ↔ ∀ k ∈ ks, k.ok M
  | [] => by rw [oks]; exact ⟨fun _ k h => (by cases h), fun _ => trivial⟩
  | k :: ks => by
    rw [oks, oks_iff (ks := ks)]
    exact ⟨fun h z hz => by
      rcases List.mem_cons.mp hz with rfl | hz
      · exact h.1
      · exact h.2 z hz, fun h => ⟨h k (.head _), fun z hz => h z (.tail _ hz)⟩⟩
mutual
theorem AT.ok.same {M M' : Mem} : ∀ {T : AT}, T.ok M → (∀ x ∈ T.adr, M' x = M x) → T.ok M'
  | .node a b n t ks, h, e => by
    rw [AT.ok] at h ⊢
    rw [AT.adr] at e
    exact ⟨by rw [e a (.head _)]; exact h.1, by rw [e b (.tail _ (.head _))]; exact h.2.1, oks_same h.2.2 fun x hx => e x (.tail _ (.tail _ hx))⟩
theorem oks_same {M M' : Mem} : ∀ {ks : List AT}, oks M ks → (∀ x ∈ adrs ks, M' x = M x) → oks M' ks
  | [], _, _ => by rw [oks]; trivial
  | k :: ks, h, e => by
    rw [oks] at h ⊢
    rw [adrs] at e
    exact ⟨AT.ok.same h.1 fun x hx => e x (List.mem_append.mpr (.inl hx)), oks_same h.2 fun x hx => e x (List.mem_append.mpr (.inr hx))⟩
end
/-- the tree at a place -/
def AT.at_ : List Nat → AT → Option AT
  | [], T => some T
  | i :: q, T => match T.kids[i]? with
    | some k => k.at_ q
    | none => none
def AT.withKids (T : AT) (ks : List AT) : AT := .node T.root T.box T.num T.tag ks
/-- another tree at a place -/
def AT.put : List Nat → AT → AT → AT
  | [], _, s => s
  | i :: q, T, s => match T.kids[i]? with
    | some k => T.withKids (T.kids.take i ++ [k.put q s] ++ T.kids.drop (i + 1))
    | none => T
/-- what a tree is made of, but for what stands at a place -/
def AT.ctx : List Nat → AT → List Addr
  | [], _ => []
  | i :: q, T => T.root :: T.box :: (match T.kids[i]? with
    | some k => adrs (T.kids.take i) ++ k.ctx q ++ adrs (T.kids.drop (i + 1))
    | none => [])
theorem at_nil (T : AT) : T.at_ [] = some T := by rw [AT.at_]
theorem at_cons {i : Nat} {q : List Nat} {T s : AT} : T.at_ (i :: q) = some s ↔ ∃ k, T.kids[i]? = some k ∧ k.at_ q = some s := by
  rw [AT.at_]
  cases c : T.kids[i]? with
  | none => exact ⟨fun h => (by cases h), fun ⟨k, h, _⟩ => (by cases h)⟩
  | some k => exact ⟨fun h => ⟨k, rfl, h⟩, fun ⟨z, h, q⟩ => (by cases h; exact q)⟩
theorem split3 {α : Type} {l : List α} {i : Nat} {x : α} (h : l[i]? = some x) : l = l.take i ++ [x] ++ l.drop (i + 1) := by
  have hi : i < l.length := (List.getElem?_eq_some_iff.mp h).1
  have e : l[i] = x := (List.getElem?_eq_some_iff.mp h).2
  rw [List.append_assoc, ← e, List.singleton_append, ← List.drop_eq_getElem_cons hi, List.take_append_drop]
theorem still_eta (T : AT) : T.tel fl = .tuple [fl T.num T.tag, .tuple (T.kids.map (AT.tel fl))] := by
  cases T
  exact still_node ..
theorem adr_eta (T : AT) : T.adr = T.root :: T.box :: adrs T.kids := by
  cases T
  rw [AT.adr]
  rfl
theorem ok_eta {M : Mem} {T : AT} : T.ok M ↔ M T.root = some (.lst [.d (.int T.num), .d T.tag, .r T.box]) ∧ M T.box = some (.lst (rootsW T.kids)) ∧ oks M T.kids := by
  cases T
  rw [AT.ok]
  rfl
theorem sub_still : ∀ {q : List Nat} {T : AT}, sub (T.tel fl) q = (T.at_ q).map (AT.tel fl)
  | [], T => by rw [sub_nil, at_nil]; rfl
  | i :: q, T => by
    rw [still_eta, sub_node, AT.at_, List.getElem?_map]
    cases c : T.kids[i]? with
    | none => rfl
    | some k => exact sub_still
theorem still_put : ∀ {q : List Nat} {T s u : AT}, T.at_ q = some u → (T.put q s).tel fl = repl q (T.tel fl) (s.tel fl)
  | [], T, s, u, _ => by rw [AT.put, repl]
  | i :: q, T, s, u, h => by
    obtain ⟨k, h1, h2⟩ := at_cons.mp h
    have hk : kidD (T.tel fl) i = k.tel fl := by rw [still_eta, kidD, kidsD_node, List.getD_eq_getElem?_getD, List.getElem?_map, h1]; rfl
    rw [AT.put, h1, repl, hk, ← still_put h2]
    conv => rhs; rw [still_eta T]
    show (T.withKids _).tel fl = _
    rw [runD_node, AT.withKids, still_node, List.map_append, List.map_append, List.map_take, List.map_drop]
    rfl
theorem adr_ctx : ∀ {q : List Nat} {T s : AT}, T.at_ q = some s → T.adr.Perm (T.ctx q ++ s.adr)
  | [], T, s, h => by rw [at_nil] at h; cases h; rw [AT.ctx]; exact .refl _
  | i :: q, T, s, h => by
    obtain ⟨k, h1, h2⟩ := at_cons.mp h
    rw [AT.ctx, h1, adr_eta]
    show (T.root :: T.box :: adrs T.kids).Perm (T.root :: T.box :: (adrs (T.kids.take i) ++ k.ctx q ++ adrs (T.kids.drop (i + 1)) ++ s.adr))
    refine .cons _ (.cons _ ?_)
    conv => lhs; rw [split3 h1, adrs_app, adrs_app, adrs, adrs, List.append_nil]
    rw [List.append_assoc, List.append_assoc, List.append_assoc]
    refine List.Perm.append_left _ ?_
    refine ((adr_ctx h2).append_right _).trans ?_
    rw [List.append_assoc]
    exact List.Perm.append_left _ List.perm_append_comm
theorem put_at : ∀ {q : List Nat} {T s u : AT}, T.at_ q = some u → (T.put q s).at_ q = some s
  | [], T, s, u, _ => by rw [AT.put, at_nil]
  | i :: q, T, s, u, h => by
    obtain ⟨k, h1, h2⟩ := at_cons.mp h
    have hi : i < T.kids.length := (List.getElem?_eq_some_iff.mp h1).1
    rw [AT.put, h1]
    refine at_cons.mpr ⟨k.put q s, ?_, put_at h2⟩
    show (T.kids.take i ++ [k.put q s] ++ T.kids.drop (i + 1))[i]? = _
    rw [List.append_assoc, List.getElem?_append_right (by rw [List.length_take]; omega), List.length_take, Nat.min_eq_left (by omega), Nat.sub_self]
    rfl
theorem put_ctx : ∀ {q : List Nat} {T s u : AT}, T.at_ q = some u → (T.put q s).ctx q = T.ctx q
  | [], T, s, u, _ => by rw [AT.ctx, AT.ctx]
  | i :: q, T, s, u, h => by
    obtain ⟨k, h1, h2⟩ := at_cons.mp h
    have hi : i < T.kids.length := (List.getElem?_eq_some_iff.mp h1).1
    have hl : (T.kids.take i).length = i := by rw [List.length_take]; omega
    have e : (T.kids.take i ++ [k.put q s] ++ T.kids.drop (i + 1))[i]? = some (k.put q s) := by
      rw [List.append_assoc, List.getElem?_append_right (by omega), hl, Nat.sub_self]
      rfl
    have e1 : (T.kids.take i ++ [k.put q s] ++ T.kids.drop (i + 1)).take i = T.kids.take i := by
      rw [List.append_assoc, List.take_append_of_le_length (by omega), List.take_of_length_le (by omega)]
    have e2 : (T.kids.take i ++ [k.put q s] ++ T.kids.drop (i + 1)).drop (i + 1) = T.kids.drop (i + 1) := by
      rw [List.drop_append_of_le_length (by rw [List.length_append, hl]; exact Nat.le_refl _), List.drop_of_length_le (by rw [List.length_append, hl]; exact Nat.le_refl _)]
      rfl
    rw [AT.put, h1]
    show (T.withKids _).ctx (i :: q) = _
    rw [AT.ctx, AT.ctx, h1, show ∀ ks, (T.withKids ks).kids = ks from fun _ => rfl, e, e1, e2]
    show _ :: _ :: (_ ++ (k.put q s).ctx q ++ _) = _
    rw [put_ctx h2]
    rfl
theorem adr_put {q : List Nat} {T s u : AT} (h : T.at_ q = some u) : (T.put q s).adr.Perm (T.ctx q ++ s.adr) := by
  have := adr_ctx (put_at (s := s) h)
  rw [put_ctx h] at this
  exact this
theorem put_root : ∀ {q : List Nat} {T s u : AT}, T.at_ q = some u → s.root = u.root → (T.put q s).root = T.root
  | [], T, s, u, h, e => by rw [at_nil] at h; cases h; rw [AT.put]; exact e
  | i :: q, T, s, u, h, _ => by
    obtain ⟨k, h1, h2⟩ := at_cons.mp h
    rw [AT.put, h1]
    rfl
theorem at_ok {M : Mem} : ∀ {q : List Nat} {T s : AT}, T.ok M → T.at_ q = some s → s.ok M
  | [], T, s, h, e => by rw [at_nil] at e; cases e; exact h
  | i :: q, T, s, h, e => by
    obtain ⟨k, h1, h2⟩ := at_cons.mp e
    exact at_ok (oks_iff.mp (ok_eta.mp h).2.2 k (List.mem_of_getElem? h1)) h2
/-- a part changes in place -/
theorem put_ok {M M' : Mem} : ∀ {q : List Nat} {T s u : AT}, T.ok M → T.at_ q = some u → s.root = u.root → s.ok M' → (∀ x ∈ T.ctx q, M' x = M x) → (T.put q s).ok M'
  | [], T, s, u, _, _, _, hs, _ => by rw [AT.put]; exact hs
  | i :: q, T, s, u, h, e, er, hs, hc => by
    obtain ⟨k, h1, h2⟩ := at_cons.mp e
    obtain ⟨o1, o2, o3⟩ := ok_eta.mp h
    rw [AT.ctx, h1] at hc
    have hc2 : ∀ x, x ∈ adrs (T.kids.take i) ∨ x ∈ k.ctx q ∨ x ∈ adrs (T.kids.drop (i + 1)) → M' x = M x := fun x hx => hc x (.tail _ (.tail _ (by
      show x ∈ adrs (T.kids.take i) ++ k.ctx q ++ adrs (T.kids.drop (i + 1))
      rw [List.mem_append, List.mem_append]
      rcases hx with hx | hx | hx
      · exact .inl (.inl hx)
      · exact .inl (.inr hx)
      · exact .inr hx)))
    rw [AT.put, h1]
    refine ok_eta.mpr ⟨?_, ?_, oks_iff.mpr fun z hz => ?_⟩
    · show M' T.root = some (.lst [.d (.int T.num), .d T.tag, .r T.box])
      rw [hc _ (.head _)]
      exact o1
    · show M' T.box = some (.lst (rootsW (T.kids.take i ++ [k.put q s] ++ T.kids.drop (i + 1))))
      rw [hc _ (.tail _ (.head _)), o2]
      have : rootsW (T.kids.take i ++ [k.put q s] ++ T.kids.drop (i + 1)) = rootsW T.kids := by
        conv => rhs; rw [split3 h1]
        unfold rootsW
        rw [List.map_append, List.map_append, List.map_append, List.map_append, List.map_singleton, List.map_singleton, put_root h2 er]
      rw [this]
    · have hz' : z ∈ T.kids.take i ++ [k.put q s] ++ T.kids.drop (i + 1) := hz
      rw [List.mem_append, List.mem_append, List.mem_singleton] at hz'
      rcases hz' with (hz | rfl) | hz
      · exact (oks_iff.mp o3 z (List.mem_of_mem_take hz)).same fun x hx => hc2 x (.inl (adrs_mem hz hx))
      · exact put_ok (oks_iff.mp o3 k (List.mem_of_getElem? h1)) h2 er hs fun x hx => hc2 x (.inr (.inl hx))
      · exact (oks_iff.mp o3 z (List.mem_of_mem_drop hz)).same fun x hx => hc2 x (.inr (.inr (adrs_mem hz hx)))
/-- told by its tags -/
@[reducible] def tgF : Int → PyData → PyData := fun _ t => t
end Tl
set_option Elab.async false
set_option linter.all false
set_option maxRecDepth 100000
set_option maxHeartbeats 4000000
/-! Trees of lists that may change: changed in place. -/
namespace Tl
open PySem L2
theorem one_box {T u : AT} {q : List Nat} (hc : T.adr.count u.box ≤ 1) (h : T.at_ q = some u) : u.box ∉ T.ctx q ∧ u.root ≠ u.box ∧ u.box ∉ adrs u.kids := by
  have e := (adr_ctx h).count_eq u.box
  rw [List.count_append, adr_eta u, List.count_cons, List.count_cons_self] at e
  refine ⟨fun z => ?_, fun z => ?_, fun z => ?_⟩
  · have := List.count_pos_iff.mpr z
    omega
  · rw [z, beq_self_eq_true, if_pos rfl] at e
    omega
  · have := List.count_pos_iff.mpr z
    omega
theorem one_root {T u : AT} {q : List Nat} (hc : T.adr.count u.root ≤ 1) (h : T.at_ q = some u) : u.root ∉ T.ctx q ∧ u.root ≠ u.box ∧ u.root ∉ adrs u.kids := by
  have e := (adr_ctx h).count_eq u.root
  rw [List.count_append, adr_eta u, List.count_cons_self, List.count_cons] at e
  refine ⟨fun z => ?_, fun z => ?_, fun z => ?_⟩
  · have := List.count_pos_iff.mpr z
    omega
  · have y : (u.box == u.root) = true := by rw [z]; exact beq_self_eq_true _
    rw [if_pos y] at e
    omega
  · have := List.count_pos_iff.mpr z
    omega
theorem nd_one {T : AT} (h : T.adr.Nodup) (a : Addr) : T.adr.count a ≤ 1 := List.nodup_iff_count.mp h a
theorem setKids_ok {M : Mem} {T u : AT} {q : List Nat} {ks : List AT} (h : T.ok M) (e : T.at_ q = some u) (hc : T.adr.count u.box ≤ 1) (hk : oks M ks) (hb : u.box ∉ adrs ks) : (T.put q (u.withKids ks)).ok (mset M u.box (.lst (rootsW ks))) := by
  obtain ⟨h1, h2, h3⟩ := one_box hc e
  have hu := ok_eta.mp (at_ok h e)
  refine put_ok h e rfl (ok_eta.mpr ⟨?_, ?_, ?_⟩) fun x hx => mset_ne fun z => h1 (z ▸ hx)
  · show mset M u.box _ u.root = _
    rw [mset_ne h2]
    exact hu.1
  · exact mset_same
  · exact oks_same hk fun x hx => mset_ne fun z => hb (z ▸ hx)
theorem setTag_ok {M : Mem} {T u : AT} {q : List Nat} {t : PyData} (h : T.ok M) (e : T.at_ q = some u) (hc : T.adr.count u.root ≤ 1) : (T.put q (.node u.root u.box u.num t u.kids)).ok (mset M u.root (.lst [.d (.int u.num), .d t, .r u.box])) := by
  obtain ⟨h1, h2, h3⟩ := one_root hc e
  have hu := ok_eta.mp (at_ok h e)
  refine put_ok h e rfl (ok_eta.mpr ⟨?_, ?_, ?_⟩) fun x hx => mset_ne fun z => h1 (z ▸ hx)
  · exact mset_same
  · show mset M u.root _ u.box = _
    rw [mset_ne h2.symm]
    exact hu.2.1
  · exact oks_same hu.2.2 fun x hx => mset_ne fun z => h3 (z ▸ hx)
/-- alike but for the kids -/
structure Alk (a b : AT) : Prop where
  r : a.root = b.root
  x : a.box = b.box
  n : a.num = b.num
  t : a.tag = b.tag
theorem Alk.refl (a : AT) : Alk a a := ⟨rfl, rfl, rfl, rfl⟩
end Tl
set_option Elab.async false
set_option linter.all false
set_option maxRecDepth 100000
set_option maxHeartbeats 4000000
/-! Trees of lists that may change: parts moved and swapped in place. -/
namespace Tl
open PySem L2
variable {fl : Int → PyData → PyData}
theorem roots_len (ks : List AT) : (rootsW ks).length = ks.length := List.length_map _
end Tl
set_option Elab.async false
set_option linter.all false
set_option maxRecDepth 100000
set_option maxHeartbeats 4000000
/-! Paths as data; what a deed needs; what refuses it. -/
namespace Tl
open PySem L2
theorem eqv_ints : ∀ a b : List Nat, PyData.eqvAll (a.map fun n : Nat => .int (n : Int)) (b.map fun n : Nat => .int (n : Int)) = decide (a = b)
  | [], [] => rfl
  | [], _ :: _ => rfl
  | _ :: _, [] => rfl
  | x :: a, y :: b => by
    rw [List.map_cons, List.map_cons, PyData.eqvAll, eqv_ints a b]
    show (((x : Int) == (y : Int)) && _) = _
    by_cases h : x = y
    · subst h
      by_cases g : a = b
      · subst g; simp
      · rw [decide_eq_false g, Bool.and_false, decide_eq_false fun z => g (List.cons.inj z).2]
    · have : ((x : Int) == (y : Int)) = false := beq_eq_false_iff_ne.mpr fun z => h (Int.ofNat.inj z)
      rw [this, Bool.false_and, decide_eq_false fun z => h (List.cons.inj z).1]
theorem eqv_path (a b : List Nat) : PyData.eqv (pathD a) (pathD b) = decide (a = b) := by
  unfold pathD
  rw [PyData.eqv, eqv_ints]
theorem ints_ok : ∀ a : List Nat, PyData.hasDictAll (a.map fun n : Nat => .int (n : Int)) = false ∧ PyData.canLayAll0 (a.map fun n : Nat => .int (n : Int)) = true ∧ PyData.depthAll (a.map fun n : Nat => .int (n : Int)) = 0
  | [] => ⟨rfl, rfl, rfl⟩
  | x :: a => by
    obtain ⟨h1, h2, h3⟩ := ints_ok a
    rw [List.map_cons, PyData.hasDictAll, PyData.canLayAll0, PyData.depthAll, h1, h2, h3]
    exact ⟨rfl, rfl, rfl⟩
theorem eqOk_paths (as : List (List Nat)) : eqOk (.list (as.map pathD)) = true := by
  have : ∀ as : List (List Nat), PyData.hasDictAll (as.map pathD) = false ∧ PyData.canLayAll0 (as.map pathD) = true ∧ PyData.depthAll (as.map pathD) ≤ 1 := fun as => by
    induction as with
    | nil => exact ⟨rfl, rfl, by decide⟩
    | cons a as ih =>
      obtain ⟨h1, h2, h3⟩ := ih
      obtain ⟨g1, g2, g3⟩ := ints_ok a
      have e1 : (pathD a).hasDict = false := by unfold pathD; rw [PyData.hasDict, g1]
      have e2 : (pathD a).canLay0 = true := by unfold pathD; rw [PyData.canLay0, g2]
      have e3 : (pathD a).depth = 1 := by unfold pathD; rw [PyData.depth, g3]
      rw [List.map_cons, PyData.hasDictAll, PyData.canLayAll0, PyData.depthAll, h1, h2, e1, e2, e3]
      exact ⟨rfl, rfl, by omega⟩
  obtain ⟨h1, h2, h3⟩ := this as
  unfold eqOk SeqAt.shaped
  rw [PyData.hasDict, PyData.canLay0, PyData.depth, h1, h2, decide_eq_true (by omega)]
  rfl
/-- t is the beginning of p -/
def pre (t p : List Nat) : Bool := decide (p.take t.length = t)
/-! ### what a deed is made of -/
def pathOk (q : List Nat) : Prop := q.length < 12 ∧ ∀ i ∈ q, i ≤ 59
def Deed.Ok : Deed → Prop
  | .name q t => pathOk q ∧ isTag (.str t) = true
  | .put q n e => pathOk q ∧ n ≤ 60 ∧ TrT 12 e ∧ nn e ≤ 60
  | .out q => pathOk q
  | .move q o n => pathOk q ∧ pathOk o ∧ n ≤ 60
  | .swap q o => pathOk q ∧ pathOk o
  | .wrap q n m t => pathOk q ∧ n ≤ 60 ∧ m ≤ 60 ∧ isTag (.str t) = true
  | .unwrap q => pathOk q
def Deed.root : Deed → Bool
  | .out q => q.isEmpty
  | .unwrap q => q.isEmpty
  | .move q _ _ => q.isEmpty
  | .swap q o => q.isEmpty || o.isEmpty
  | _ => false
def kidsN (d : PyData) (q : List Nat) : Nat := (kidsD (partD d q)).length
theorem path_txt (q : List Nat) : txt (pathD q) = true := by
  unfold pathD
  rw [txt]
  induction q with
  | nil => rfl
  | cons i q ih => rw [List.map_cons, txtAll, ih]; rfl
theorem tree_ok {d : PyData} (h1 : TrT 12 d) (h2 : nn d ≤ 60) : isTreeD d = true := by
  rw [isTreeD, room_nn h1 60 h2]
  rfl
end Tl
set_option Elab.async false
set_option linter.all false
set_option maxRecDepth 100000
set_option maxHeartbeats 4000000
/-! Trees behind deeds: their levels, places. -/
namespace Tl
open PySem L2
theorem nnAll_cat (a b : List PyData) : nnAll (a ++ b) = nnAll a + nnAll b := nnAll_app a b
theorem node_at {n : Nat} {d e : PyData} {q : List Nat} (h : TrT n d) (hs : sub d q = some e) : ∃ (s : Str) (ks : List PyData), e = .tuple [.str s, .tuple ks] ∧ q.length < n ∧ 1 + nnAll ks ≤ nn d ∧ (∀ k ∈ ks, TrT (n - q.length - 1) k) ∧ isTag (.str s) = true := by
  obtain ⟨h1, h2, h3⟩ := sub_tr h hs
  obtain ⟨k, hk⟩ : ∃ k, n - q.length = k + 1 := ⟨n - q.length - 1, by omega⟩
  rw [hk] at h1
  obtain ⟨s, ks, rfl, a, b⟩ := h1
  rw [nn] at h3
  exact ⟨s, ks, rfl, h2, h3, fun z hz => by rw [hk]; exact b z hz, a⟩
theorem nnAll_one (x : PyData) : nnAll [x] = nn x := by rw [nnAll, nnAll]; rfl
end Tl
set_option Elab.async false
set_option linter.all false
set_option maxRecDepth 100000
set_option maxHeartbeats 4000000
/-! Trees of lists: their numbers; how they begin. -/
namespace Tl
open PySem L2
mutual
def AT.nums : AT → List Int
  | .node _ _ n _ ks => n :: numss ks
def numss : List AT → List Int
  | [] => []
  | k :: ks => k.nums ++ numss ks
end
theorem numss_app : ∀ a b : List AT, numss (a ++ b) = numss a ++ numss b
  | [], b => by rw [numss]; rfl
  | k :: a, b => by rw [List.cons_append, numss, numss, numss_app a b, List.append_assoc]
/-- some numbers in a row -/
def rowI (k : Int) (n : Nat) : List Int := (List.range n).map fun i => k + (i : Nat)
theorem rowI_add (k : Int) (n m : Nat) : rowI k (n + m) = rowI k n ++ rowI (k + n) m := by
  unfold rowI
  rw [List.range_add, List.map_append, List.map_map]
  congr 1
  refine List.map_congr_left fun i _ => ?_
  show k + ((n + i : Nat) : Int) = k + n + (i : Nat)
  omega
theorem rowI_1 (k : Int) : rowI k 1 = [k] := by
  unfold rowI
  rw [show List.range 1 = [0] from rfl, List.map_singleton]
  congr 1
  omega
/-- a tree of lists that is new: begun at M, standing at M' -/
structure NewT (d : PyData) (k : Int) (M : Mem) (T : AT) (M' : Mem) : Prop where
  tel : T.tel tgF = d
  nums : T.nums = rowI k (nn d)
  ok : T.ok M'
  nd : T.adr.Nodup
  new : ∀ x ∈ T.adr, M x = none
/-- some of them -/
structure NewTs (ds : List PyData) (k : Int) (M : Mem) (ts : List AT) (M' : Mem) : Prop where
  tel : ts.map (AT.tel tgF) = ds
  nums : numss ts = rowI k (nnAll ds)
  ok : oks M' ts
  nd : (adrs ts).Nodup
  new : ∀ x ∈ adrs ts, M x = none
theorem NewTs.nil (k : Int) (M M' : Mem) : NewTs [] k M [] M' := ⟨rfl, by rw [numss]; rfl, by rw [oks]; trivial, by rw [adrs]; exact List.nodup_nil, fun x h => by rw [adrs] at h; cases h⟩
theorem oks_app {M : Mem} {a b : List AT} (h1 : oks M a) (h2 : oks M b) : oks M (a ++ b) := oks_iff.mpr fun k hk => (List.mem_append.mp hk).elim (oks_iff.mp h1 k) (oks_iff.mp h2 k)
theorem NewTs.snoc {ds : List PyData} {d : PyData} {k : Int} {M M1 M2 : Mem} {ts : List AT} {T : AT} (h : NewTs ds k M ts M1) (g : NewT d (k + (nnAll ds : Nat)) M1 T M2) (hs : ∀ x ∈ adrs ts, M2 x = M1 x) (hM : ∀ x, M1 x = none → M x = none) : NewTs (ds ++ [d]) k M (ts ++ [T]) M2 := by
  have hj : ∀ x ∈ adrs ts, x ∉ T.adr := fun x hx hT => by
    have e := g.new x hT
    obtain ⟨t, ht, hxt⟩ := mem_adrs hx
    have o := oks_iff.mp h.ok t ht
    have : ∃ v, M1 x = some v := by
      clear hx ht hT e
      have key : ∀ (t : AT), t.ok M1 → ∀ x ∈ t.adr, ∃ v, M1 x = some v := AT.rec (motive_1 := fun t => t.ok M1 → ∀ x ∈ t.adr, ∃ v, M1 x = some v) (motive_2 := fun ts => oks M1 ts → ∀ x ∈ adrs ts, ∃ v, M1 x = some v)
        (fun a b n t ks ih o x hx => by
          rw [AT.ok] at o
          rw [AT.adr] at hx
          rcases List.mem_cons.mp hx with rfl | hx
          · exact ⟨_, o.1⟩
          rcases List.mem_cons.mp hx with rfl | hx
          · exact ⟨_, o.2.1⟩
          · exact ih o.2.2 x hx)
        (fun o x hx => by rw [adrs] at hx; cases hx)
        (fun k ks ih1 ih2 o x hx => by
          rw [oks] at o
          rw [adrs, List.mem_append] at hx
          exact hx.elim (ih1 o.1 x) (ih2 o.2 x))
      exact key t o x hxt
    obtain ⟨v, hv⟩ := this
    rw [e] at hv
    cases hv
  have n1 : ∀ z : PyData, nnAll [z] = nn z := fun z => by rw [nnAll, nnAll]; rfl
  have a1 : ∀ T : AT, adrs [T] = T.adr := fun T => by rw [adrs, adrs, List.append_nil]
  refine ⟨by rw [List.map_append, h.tel, List.map_singleton, g.tel], ?_, ?_, ?_, ?_⟩
  · rw [numss_app, h.nums, numss, numss, List.append_nil, g.nums, nnAll_cat, n1, rowI_add]
  · exact oks_app (oks_same h.ok hs) (by rw [oks, oks]; exact ⟨g.ok, trivial⟩)
  · rw [adrs_app, a1]
    exact List.nodup_append.mpr ⟨h.nd, g.nd, fun x hx y hy e => hj x hx (e ▸ hy)⟩
  · intro x hx
    rw [adrs_app, a1, List.mem_append] at hx
    rcases hx with hx | hx
    · exact h.new x hx
    · exact hM x (g.new x hx)
/-- what stands in a tree of lists is something -/
theorem ok_some {M : Mem} {T : AT} (h : T.ok M) {x : Addr} (hx : x ∈ T.adr) : ∃ v, M x = some v := by
  have key : ∀ (t : AT), t.ok M → ∀ x ∈ t.adr, ∃ v, M x = some v := AT.rec (motive_1 := fun t => t.ok M → ∀ x ∈ t.adr, ∃ v, M x = some v) (motive_2 := fun ts => oks M ts → ∀ x ∈ adrs ts, ∃ v, M x = some v)
    (fun a b n t ks ih o x hx => by
      rw [AT.ok] at o
      rw [AT.adr] at hx
      rcases List.mem_cons.mp hx with rfl | hx
      · exact ⟨_, o.1⟩
      rcases List.mem_cons.mp hx with rfl | hx
      · exact ⟨_, o.2.1⟩
      · exact ih o.2.2 x hx)
    (fun o x hx => by rw [adrs] at hx; cases hx)
    (fun k ks ih1 ih2 o x hx => by
      rw [oks] at o
      rw [adrs, List.mem_append] at hx
      exact hx.elim (ih1 o.1 x) (ih2 o.2 x))
  exact key T h x hx
end Tl
set_option Elab.async false
set_option linter.all false
set_option maxRecDepth 100000
set_option maxHeartbeats 8000000
namespace Tl
open PySem L2 RZ
local macro_rules
  | `(tactic| decreasing_trivial) => `(tactic| ((with_reducible (conv => whnf)); (repeat ((first | (with_reducible refine gDs_c ?_) | (with_reducible refine gDs_n ?_) | (with_reducible refine gNs_c ?_) | (with_reducible refine gNs_n ?_) | (with_reducible refine gO_i tyAny_lt ?_) | (with_reducible refine gIs_c ?_) | (with_reducible refine gIs_n ?_) | (with_reducible refine gBs_c ?_) | (with_reducible refine gBs_n ?_) | (with_reducible refine gSs_c ?_) | (with_reducible refine gSs_n ?_) | (with_reducible refine gO_i tyIs_int ?_) | (with_reducible refine gO_i tyIs_bool ?_) | (with_reducible refine gO_i tyIs_str ?_) | (with_reducible refine gO_i tyIs_tuple ?_) | (with_reducible refine gO_i tyIs_list ?_) | (with_reducible refine gDs_i ?_) | (with_reducible refine gO_i (Eq.refl _) ?_) | (with_reducible refine gO_i (by assumption) ?_) | (with_reducible refine gO_i at_0 ?_) | (with_reducible refine gO_i at_m0 ?_) | (with_reducible refine gO_i at_1 ?_) | (with_reducible refine gO_i at_m1 ?_) | (with_reducible refine gO_i at_2 ?_) | (with_reducible refine gO_i at_m2 ?_) | (with_reducible refine gO_i at_3 ?_) | (with_reducible refine gO_i at_m3 ?_) | (with_reducible refine gO_i at_4 ?_) | (with_reducible refine gO_i at_m4 ?_) | (with_reducible refine gO_i at_5 ?_) | (with_reducible refine gO_i at_m5 ?_) | (with_reducible refine gO_i at_6 ?_) | (with_reducible refine gO_i at_m6 ?_) | (with_reducible refine gO_i at_7 ?_) | (with_reducible refine gO_i at_m7 ?_) | (with_reducible refine IfB.ngf ?_) | (with_reducible refine IfB.ngt ?_) | (with_reducible refine IfB.not ?_) | (with_reducible refine IfB.nil ?_) | (with_reducible refine IfB.nilT ?_) | (with_reducible refine IfB.f isE_c ?_) | (with_reducible refine IfB.t isE_n ?_) | (with_reducible refine IfB.t ?gha ?_; (case gha => rfl)) | (with_reducible refine IfB.f ?gha ?_; (case gha => rfl)) | (with_reducible refine IfB.t ?gha ?_; (case gha => assumption)) | (with_reducible refine IfB.f ?gha ?_; (case gha => assumption)) | (with_reducible refine IfB.yes (Eq.refl _) ?_) | (with_reducible refine IfB.yes ?gha ?_; (case gha => (first | omega | (simp only [len_c, len_n, List.length_map]; omega)))) | (with_reducible refine IfB.no ?gha ?_; (case gha => (first | omega | (simp only [len_c, len_n, List.length_map]; omega)))) | (with_reducible refine IfB.t ?gha ?_; (case gha => decide +kernel)) | (with_reducible refine IfB.f ?gha ?_; (case gha => decide +kernel))); (with_reducible (conv => whnf))))))
local macro_rules
  | `(tactic| decreasing_trivial_pre_omega) => `(tactic| (decreasing_trivial; (repeat ((first | ((with_reducible refine And.intro ?gha ?_); (case gha => (first | assumption | omega | exact rfl | (exact mset_same) | (exact ⟨_, mset_same⟩) | (exact Exists.intro _ (by first | exact mset_same | assumption | (rw [mset_ne (by assumption)]; first | exact mset_same | assumption))) | (exact sm_of (by omega) (by omega)) | (exact sz1000 (by first | omega | (simp; done) | (simp; omega))) | (exact Or.inl ⟨by decide, by decide⟩) | decide | (simp; done) | (refine ⟨?_, ?_⟩ <;> (first | assumption | omega | exact rfl | (exact mset_same) | (exact ⟨_, mset_same⟩) | (exact Exists.intro _ (by first | exact mset_same | assumption | (rw [mset_ne (by assumption)]; first | exact mset_same | assumption))) | (exact sm_of (by omega) (by omega)) | (exact sz1000 (by first | omega | (simp; done) | (simp; omega))) | (exact Or.inl ⟨by decide, by decide⟩) | decide | (simp; done))) | (refine ⟨?_, ?_, ?_⟩ <;> (first | assumption | omega | exact rfl | (exact mset_same) | (exact ⟨_, mset_same⟩) | (exact Exists.intro _ (by first | exact mset_same | assumption | (rw [mset_ne (by assumption)]; first | exact mset_same | assumption))) | (exact sm_of (by omega) (by omega)) | (exact sz1000 (by first | omega | (simp; done) | (simp; omega))) | (exact Or.inl ⟨by decide, by decide⟩) | decide | (simp; done))) | (refine ⟨?_, ?_, ?_, ?_⟩ <;> (first | assumption | omega | exact rfl | (exact mset_same) | (exact ⟨_, mset_same⟩) | (exact Exists.intro _ (by first | exact mset_same | assumption | (rw [mset_ne (by assumption)]; first | exact mset_same | assumption))) | (exact sm_of (by omega) (by omega)) | (exact sz1000 (by first | omega | (simp; done) | (simp; omega))) | (exact Or.inl ⟨by decide, by decide⟩) | decide | (simp; done)))))) | (with_reducible refine exW (by first | exact mset_same | assumption | (rw [mset_ne (by assumption)]; first | exact mset_same | assumption)) ?_)); decreasing_trivial))))
/-- a tree of lists is made of a tree -/
@[reducible] def tfLive (n : Nat) : TF := fun ws M R _ => g2 ws fun x y => gD x fun d => gR y fun c => ∃ k : Int, (M c = some (.lst [.d (.int k)]) ∧ TrT n d ∧ nn d ≤ 200) ∧ ∀ T M', NewT d k M T M' → M' c = some (.lst [.d (.int (k + (nn d : Nat)))]) → (∀ x, x ∉ T.adr → x ≠ c → M' x = M x) → R (.r T.root) M'
section
variable {P : Program} {w : World} {K : PySem.W.Frag} {mg : Str → Option Value} {base : Heap}
abbrev sLive : Stmt := top 29
theorem scLive : FnScope ["_law_tree_here", "_law_count", "_law_found", "_law_kid"] ["_law_tree_here", "_law_count"] (defScope sLive) := ⟨rfl, rfl, rfl, by decide +kernel, rfl, by decide +kernel, by decide +kernel⟩
theorem ok_live1 {f : Addr} {fd : FuncData} {n : Nat} (F : Fun K "_law_live" "_law_live" sLive f fd) (U_law_live : Use P w K mg base "_law_live" ["_law_tree_here", "_law_count"] n (spD K 2 (tfLive n))) (T : Bl mg) : FnOk P w K mg base CX0 (n + 1) f fd ["_law_tree_here", "_law_count"] (spD K 2 (tfLive (n + 1))) := by
  refine okD F scLive rfl fun cdv A outer s H E hr => ?_
  refine ⟨_, _, (pss_cons (ps_set (i := 2) scLive.nd rfl (.inl rfl) (pe_lst (pa_cons (pe_ix ix_list (pv 1) pe_int (fun _ _ => rfl)) (pa_cons (pe_ix ix_tup (pv 0) pe_int (fun _ _ => rfl)) (pa_cons (pe_lst pa_nil) pa_nil)))))
    (pss_cons (ps_asg (pe_op op_add (pe_ix ix_list (pv 1) pe_int (fun _ _ => rfl)) pe_int) (pg_sub (pv 1) pe_int set_list))
    (pss_cons (ps_for PassesOwn.never rfl (pi_tup (pe_ix ix_tup (pv 0) pe_int (fun _ _ => rfl))) (pg_name (i := 3) scLive.nd rfl (.inl rfl)) (pss_one (ps_expr (pe_bm PySem.F.plainAttrs_list PySem.F.slot_list_append PySem.F.type_list_append mt_append (pe_ix ix_list (pv 2) pe_int (fun _ _ => rfl)) (pa_cons (pe_call U_law_live.ok (hr.mono (by omega)) rfl U_law_live.m U_law_live.kp U_law_live.b .nil pass0 (pa_cons (pv 3) (pa_cons (pv 1) pa_nil))) pa_nil)))))
    (pss_one (ps_ret (pv 2)))))),
    (ss_cons (ss_set (se_lst (sa_cons (se_op so_ixL se_nm se_int) (sa_cons (se_op so_ixT se_nm se_int) (sa_cons (se_lst sa_nil) sa_nil)))))
    (ss_cons (ss_setIx (se_op so_add (se_op so_ixL se_nm se_int) se_int) se_nm se_int ts_list)
    (ss_cons (ss_for (si_tup (se_op so_ixT se_nm se_int)) sg_name (ss_drop (se_bmL sm_append (se_op so_ixL se_nm se_int) (sa_cons (se_call (sa_cons se_nm (sa_cons se_nm sa_nil))) sa_nil))))
    (ss_ret se_nm)))), fun ws M R RX hl h => ?_⟩
  obtain ⟨x, y, rfl, h1⟩ := g2_of h
  obtain ⟨d, rfl, h2⟩ := gD_of h1
  obtain ⟨c, rfl, k, ⟨hc, ht, hn⟩, h3⟩ := gR_of h2
  obtain ⟨s0, ks, rfl, hs, hk⟩ := ht
  rw [nn] at hn
  have hl1 := len_nn ks
  clear h1 h2
  simp only [start0, len_c, len_n, map_c, map_n, app_c, app_n, rep_0, rep_s, Nat.reduceAdd, Nat.reduceSub]
  decreasing_trivial_pre_omega
  intro b hb
  decreasing_trivial_pre_omega
  intro p hp
  have cb : c ≠ b := fun z => by rw [z, hb] at hc; cases hc
  have pb : p ≠ b := fun z => by rw [z, mset_same] at hp; cases hp
  rw [mset_ne pb] at hp
  have cp : c ≠ p := fun z => by rw [z, hp] at hc; cases hc
  have hc1 : mset (mset M b (.lst [])) p (.lst [.d (.int k), .d (.str s0), .r b]) c = some (.lst [.d (.int k)]) := by rw [mset_ne cp, mset_ne cb]; exact hc
  decreasing_trivial_pre_omega
  have bc : b ≠ c := cb.symm
  have bp : b ≠ p := pb.symm
  have e0 : ∀ k : Int, [W.d (.int k)].set (Int.toNat 0) (W.d (.int (k + 1))) = [.d (.int (k + 1))] := fun _ => rfl
  refine for1 (fun i ρ M1 => ∃ ts y, ρ = [some (.d (.tuple [.str s0, .tuple ks])), some (.r c), some (.r p), y] ∧ M1 p = some (.lst [.d (.int k), .d (.str s0), .r b]) ∧ M1 b = some (.lst (rootsW ts)) ∧ M1 c = some (.lst [.d (.int (k + 1 + (nnAll (ks.take i) : Nat)))]) ∧ NewTs (ks.take i) (k + 1) M ts M1 ∧ p ∉ adrs ts ∧ b ∉ adrs ts ∧ ∀ x, x ∉ adrs ts → x ≠ p → x ≠ b → x ≠ c → M1 x = M x)
    ⟨[], none, rfl, ?_, ?_, ?_, ?_, ?_, ?_, fun x _ g2 g3 g4 => ?_⟩ (fun _ _ _ _ _ => trivial) (fun i a ρ M1 N ha q hN => ?_) (fun ρ M1 q => ?_)
  · rw [mset_ne cp.symm, mset_same]
  · rw [mset_ne bc, mset_ne bp, mset_same]
    rfl
  · rw [mset_same, List.take_zero]
    show some (MO.lst [W.d (.int (k + 1))]) = some (MO.lst [W.d (.int (k + 1 + ((0 : Nat) : Int)))])
    rw [show k + 1 + ((0 : Nat) : Int) = k + 1 by omega]
  · rw [List.take_zero]
    exact .nil _ _ _
  · rw [adrs]; exact List.not_mem_nil
  · rw [adrs]; exact List.not_mem_nil
  · rw [mset_ne g4, mset_ne g2, mset_ne g3]
  · obtain ⟨ts, y, rfl, m1, m2, m3, m4, m5, m6, m7⟩ := q
    have hm := List.mem_of_getElem? ha
    have hi := (List.getElem?_eq_some_iff.mp ha).1
    have hn1 := nn_mem hm
    have hn2 := nnAll_take ks i
    decreasing_trivial_pre_omega
    refine ⟨_, ⟨m3, hk a hm, by omega⟩, fun T1 M2 g1 g2 g3 => ?_⟩
    have nb : b ∉ T1.adr := fun z => by have := g1.new b z; rw [m2] at this; cases this
    have np : p ∉ T1.adr := fun z => by have := g1.new p z; rw [m1] at this; cases this
    have k2 : M2 b = some (.lst (rootsW ts)) := by rw [g3 b nb bc]; exact m2
    have tl : ts.length = i := by
      have := congrArg List.length m4.tel
      rw [List.length_map, List.length_take] at this
      omega
    have sz : (rootsW ts).length < sizeLine := by rw [roots_len, tl]; exact small1000 (by omega)
    decreasing_trivial_pre_omega
    have hnew : ∀ x, M1 x = none → M x = none := fun x hx => by
      by_cases c1 : x ∈ adrs ts
      · exact m4.new x c1
      by_cases c2 : x = p
      · rw [c2]; exact hp
      by_cases c3 : x = b
      · rw [c3]; exact hb
      by_cases c4 : x = c
      · rw [c4, m3] at hx; cases hx
      rw [← m7 x c1 c2 c3 c4]
      exact hx
    have hold : ∀ x ∈ adrs ts, M2 x = M1 x := fun x hx => g3 x (fun z => by
      obtain ⟨t, h1, h2⟩ := mem_adrs hx
      obtain ⟨v, hv⟩ := ok_some (oks_iff.mp m4.ok t h1) h2
      rw [g1.new x z] at hv
      cases hv) fun z => by
        have := m4.new x hx
        rw [z, hc] at this
        cases this
    have hs2 := m4.snoc g1 hold hnew
    have tk : ks.take (i + 1) = ks.take i ++ [a] := by rw [List.take_add_one, ha]; rfl
    have ar : adrs (ts ++ [T1]) = adrs ts ++ T1.adr := by rw [adrs_app, adrs, adrs, List.append_nil]
    have nb2 : b ∉ adrs (ts ++ [T1]) := by
      rw [ar, List.mem_append]
      exact fun z => z.elim m6 nb
    refine hN _ _ ⟨ts ++ [T1], _, rfl, ?_, ?_, ?_, ?_, ?_, nb2, fun x x1 x2 x3 x4 => ?_⟩
    · rw [mset_ne pb, g3 p np cp.symm]
      exact m1
    · rw [mset_same]
      unfold rootsW
      rw [List.map_append]
      rfl
    · rw [mset_ne cb, g2, tk, nnAll_cat, show nnAll [a] = nn a from nnAll_one a, show k + 1 + ((nnAll (ks.take i) : Nat) : Int) + ((nn a : Nat) : Int) = k + 1 + ((nnAll (ks.take i) + nn a : Nat) : Int) by omega]
    · rw [tk]
      exact ⟨hs2.tel, hs2.nums, oks_same hs2.ok fun x hx => mset_ne fun z => nb2 (z ▸ hx), hs2.nd, hs2.new⟩
    · rw [ar, List.mem_append]
      exact fun z => z.elim m5 np
    · rw [ar, List.mem_append] at x1
      rw [mset_ne x3, g3 x (fun z => x1 (.inr z)) x4]
      exact m7 x (fun z => x1 (.inl z)) x2 x3 x4
  · obtain ⟨ts, y, rfl, m1, m2, m3, m4, m5, m6, m7⟩ := q
    rw [List.take_length] at m3 m4
    decreasing_trivial_pre_omega
    refine h3 (.node p b k (.str s0) ts) M1 ⟨?_, ?_, ?_, ?_, ?_⟩ ?_ fun x x1 x2 => ?_
    · rw [still_node, m4.tel]
    · rw [AT.nums, m4.nums, nn, rowI_add, rowI_1]
      rfl
    · rw [AT.ok]
      exact ⟨m1, m2, m4.ok⟩
    · rw [AT.adr]
      refine List.nodup_cons.mpr ⟨fun z => ?_, List.nodup_cons.mpr ⟨m6, m4.nd⟩⟩
      rcases List.mem_cons.mp z with z | z
      · exact pb z
      · exact m5 z
    · intro x hx
      rw [AT.adr] at hx
      rcases List.mem_cons.mp hx with rfl | hx
      · exact hp
      rcases List.mem_cons.mp hx with rfl | hx
      · exact hb
      · exact m4.new x hx
    · rw [m3, nn, show k + 1 + ((nnAll ks : Nat) : Int) = k + ((1 + nnAll ks : Nat) : Int) by omega]
    · rw [AT.adr] at x1
      simp only [List.mem_cons, not_or] at x1
      exact m7 x x1.2.2 x1.1 x1.2.1 x2
theorem ok_live {f : Addr} {fd : FuncData} (F : Fun K "_law_live" "_law_live" sLive f fd) (mF : mg "_law_live" = some (.ref f)) (T : Bl mg) : ∀ n, FnOk P w K mg base CX0 n f fd ["_law_tree_here", "_law_count"] (spD K 2 (tfLive n))
  | 0 => no0 fun ws M R RX h => by
    obtain ⟨x, y, rfl, h1⟩ := g2_of h
    obtain ⟨d, rfl, h2⟩ := gD_of h1
    obtain ⟨c, rfl, k, ⟨_, ht, _⟩, _⟩ := gR_of h2
    exact ht
  | n + 1 => ok_live1 F ⟨f, fd, ok_live F mF T n, mF, F.kp, F.binds (ps := ["_law_tree_here", "_law_count"]) fun _ _ _ _ _ _ us hl => match us, hl with | [_, _], _ => rfl⟩ T
/-- the part at a place -/
@[reducible] def tfFind : TF := fun ws M R _ => ∃ (T s : AT) (q : List Nat), ws = [.r T.root, .d (pathD q)] ∧ (T.ok M ∧ T.at_ q = some s) ∧ R (.r s.root) M
abbrev sFind : Stmt := top 30
theorem scFind : FnScope ["_law_live_here", "_law_path", "_law_number"] ["_law_live_here", "_law_path"] (defScope sFind) := ⟨rfl, rfl, rfl, by decide +kernel, rfl, by decide +kernel, by decide +kernel⟩
theorem ok_find {f : Addr} {fd : FuncData} {k : Nat} (F : Fun K "_law_find" "_law_find" sFind f fd) (T : Bl mg) : FnOk P w K mg base CX0 (k + 1) f fd ["_law_live_here", "_law_path"] (spD K 2 tfFind) := by
  refine okD F scFind rfl fun cdv A outer s H E hr => ?_
  refine ⟨_, _, (pss_cons (ps_for PassesOwn.never rfl (pi_tup (pv 1)) (pg_name (i := 2) scFind.nd rfl (.inl rfl)) (pss_one (ps_set (i := 0) scFind.nd rfl (.inl rfl) (pe_ix ix_list (pe_ix ix_list (pv 0) pe_int (fun _ _ => rfl)) (pv 2) (fun _ _ => rfl)))))
    (pss_one (ps_ret (pv 0)))),
    (ss_cons (ss_for (si_tup se_nm) sg_name (ss_set (se_op so_ixL (se_op so_ixL se_nm se_int) se_nm)))
    (ss_ret se_nm)), fun ws M R RX hl h => ?_⟩
  obtain ⟨T1, s1, q, rfl, ⟨ho, hs⟩, h3⟩ := h
  unfold pathD
  simp only [start0, len_c, len_n, map_c, map_n, app_c, app_n, rep_0, rep_s, Nat.reduceAdd, Nat.reduceSub]
  decreasing_trivial_pre_omega
  rw [mapW]
  refine for1 (fun i ρ M' => M' = M ∧ ∃ (S : AT) (y : Option W), ρ = [some (.r S.root), some (.d (.tuple (q.map fun n : Nat => .int (n : Int)))), y] ∧ S.ok M ∧ S.at_ (q.drop i) = some s1)
    ⟨rfl, T1, none, rfl, ho, hs⟩ (fun _ _ _ _ _ => trivial) (fun i a ρ M' N ha p hN => ?_) (fun ρ M' p => ?_)
  · obtain ⟨rfl, S, y, rfl, p1, p2⟩ := p
    have hi := (List.getElem?_eq_some_iff.mp ha).1
    rw [List.drop_eq_getElem_cons hi, (List.getElem?_eq_some_iff.mp ha).2] at p2
    obtain ⟨t, q1, q2⟩ := at_cons.mp p2
    obtain ⟨o1, o2, o3⟩ := ok_eta.mp p1
    have at1 : atI (rootsW S.kids) (a : Int) = some (.r t.root) := atI_nat (by unfold rootsW; rw [List.getElem?_map, q1]; rfl)
    decreasing_trivial_pre_omega
    exact hN _ _ ⟨rfl, t, _, rfl, oks_iff.mp o3 t (List.mem_of_getElem? q1), q2⟩
  · obtain ⟨rfl, S, y, rfl, p1, p2⟩ := p
    rw [List.drop_length, at_nil] at p2
    cases p2
    decreasing_trivial_pre_omega
    exact h3
end
end Tl
set_option Elab.async false
set_option linter.all false
set_option maxRecDepth 100000
set_option maxHeartbeats 4000000
/-! A deed done on a tree of lists: what holds behind it. -/
namespace Tl
open PySem L2
structure LvR (T : AT) (x : Deed) (c : Addr) (M : Mem) (T' : AT) (M' : Mem) : Prop where
  ok : T'.ok M'
  nd : T'.adr.Nodup
  root : T'.root = T.root
  tel : T'.tel tgF = chg (T.tel tgF) x
  old : ∀ z, M z ≠ none → z ∉ T.adr → z ≠ c → M' z = M z
  new : ∀ z ∈ T'.adr, z ∈ T.adr ∨ M z = none
theorem box_in {T u : AT} {q : List Nat} (h : T.at_ q = some u) : u.root ∈ T.adr ∧ u.box ∈ T.adr := by
  rw [(adr_ctx h).mem_iff, (adr_ctx h).mem_iff, List.mem_append, List.mem_append, adr_eta u]
  exact ⟨.inr (List.mem_cons_self ..), .inr (List.mem_cons_of_mem _ (List.mem_cons_self ..))⟩
theorem kids_in {T u : AT} {q : List Nat} (h : T.at_ q = some u) {z : Addr} (hz : z ∈ adrs u.kids) : z ∈ T.adr := by
  rw [(adr_ctx h).mem_iff, List.mem_append, adr_eta u]
  exact .inr (List.mem_cons_of_mem _ (List.mem_cons_of_mem _ hz))
theorem kids_nd {M : Mem} {T u : AT} {q : List Nat} {ks : List AT} (h : T.ok M) (hn : T.adr.Nodup) (hq : T.at_ q = some u) (n1 : (adrs ks).Nodup) (n2 : ∀ z ∈ adrs ks, z ∈ adrs u.kids ∨ M z = none) :
    (T.put q (u.withKids ks)).adr.Nodup ∧ (∀ z ∈ (T.put q (u.withKids ks)).adr, z ∈ T.adr ∨ M z = none) ∧ u.box ∉ adrs ks := by
  have e := (adr_ctx hq).nodup_iff.mp hn
  rw [adr_eta u] at e
  obtain ⟨d1, d2, d3⟩ := List.nodup_append.mp e
  obtain ⟨d4, d5⟩ := List.nodup_cons.mp d2
  obtain ⟨d6, d7⟩ := List.nodup_cons.mp d5
  have fresh : ∀ z, z ∈ T.adr → M z ≠ none := fun z hz c => by
    obtain ⟨v, hv⟩ := ok_some h hz
    rw [c] at hv
    cases hv
  have r1 : u.root ∉ adrs ks := fun z => (n2 _ z).elim (fun z => d4 (List.mem_cons_of_mem _ z)) (fresh _ (box_in hq).1)
  have b1 : u.box ∉ adrs ks := fun z => (n2 _ z).elim d6 (fresh _ (box_in hq).2)
  have p := adr_put (s := u.withKids ks) hq
  have ea : (u.withKids ks).adr = u.root :: u.box :: adrs ks := adr_eta _
  rw [ea] at p
  refine ⟨p.nodup_iff.mpr (List.nodup_append.mpr ⟨d1, List.nodup_cons.mpr ⟨fun z => ?_, List.nodup_cons.mpr ⟨b1, n1⟩⟩, fun x hx y hy e => ?_⟩), fun z hz => ?_, b1⟩
  · rcases List.mem_cons.mp z with z | z
    · exact d4 (by rw [z]; exact List.mem_cons_self ..)
    · exact r1 z
  · subst e
    rcases List.mem_cons.mp hy with z | hy
    · exact d3 x hx x (by rw [z]; exact List.mem_cons_self ..) rfl
    rcases List.mem_cons.mp hy with z | hy
    · exact d3 x hx x (by rw [z]; exact List.mem_cons_of_mem _ (List.mem_cons_self ..)) rfl
    rcases n2 x hy with z | z
    · exact d3 x hx x (List.mem_cons_of_mem _ (List.mem_cons_of_mem _ z)) rfl
    · exact fresh x (by rw [(adr_ctx hq).mem_iff, List.mem_append]; exact .inl hx) z
  · rw [p.mem_iff, List.mem_append] at hz
    rcases hz with hz | hz
    · exact .inl (by rw [(adr_ctx hq).mem_iff, List.mem_append]; exact .inl hz)
    rcases List.mem_cons.mp hz with z1 | hz
    · exact .inl (by rw [z1]; exact (box_in hq).1)
    rcases List.mem_cons.mp hz with z1 | hz
    · exact .inl (by rw [z1]; exact (box_in hq).2)
    exact (n2 z hz).imp (kids_in hq) id
theorem LvR.of {M M1 : Mem} {T u : AT} {q : List Nat} {ks : List AT} {c : Addr} {x : Deed} (h : T.ok M) (h1 : T.ok M1) (hn : T.adr.Nodup) (hq : T.at_ q = some u) (hk : oks M1 ks) (n1 : (adrs ks).Nodup) (n2 : ∀ z ∈ adrs ks, z ∈ adrs u.kids ∨ M z = none)
    (hold : ∀ z, M z ≠ none → z ∉ T.adr → z ≠ c → M1 z = M z) (tel : repl q (T.tel tgF) (.tuple [u.tag, .tuple (ks.map (AT.tel tgF))]) = chg (T.tel tgF) x) : LvR T x c M (T.put q (u.withKids ks)) (mset M1 u.box (.lst (rootsW ks))) := by
  obtain ⟨a1, a2, a3⟩ := kids_nd h hn hq n1 n2
  refine ⟨setKids_ok h1 hq (nd_one hn _) hk a3, a1, put_root hq rfl, ?_, fun z z1 z2 z3 => ?_, a2⟩
  · rw [still_put hq, ← tel]
    congr 1
    rw [AT.withKids, still_node]
  · rw [mset_ne (fun e => z2 (by rw [e]; exact (box_in hq).2))]
    exact hold z z1 z2 z3
theorem LvR.name {M : Mem} {T u : AT} {q : List Nat} {c : Addr} {t : Str} (h : T.ok M) (hn : T.adr.Nodup) (hq : T.at_ q = some u) : LvR T (.name q t) c M (T.put q (.node u.root u.box u.num (.str t) u.kids)) (mset M u.root (.lst [.d (.int u.num), .d (.str t), .r u.box])) := by
  have p := adr_put (s := .node u.root u.box u.num (.str t) u.kids) hq
  have ea : (AT.node u.root u.box u.num (.str t) u.kids).adr = u.adr := by rw [adr_eta u]; exact adr_eta _
  rw [ea] at p
  have p2 := p.trans (adr_ctx hq).symm
  refine ⟨setTag_ok h hq (nd_one hn _), p2.nodup_iff.mpr hn, put_root hq rfl, ?_, fun z z1 z2 z3 => ?_, fun z hz => .inl (p2.mem_iff.mp hz)⟩
  · rw [still_put hq, chg, partD_of (e := u.tel tgF) (by rw [sub_still, hq]; rfl), still_node, still_eta u, kidsD_node]
  · exact mset_ne fun e => z2 (by rw [e]; exact (box_in hq).1)
theorem kidsN_at {T u : AT} {q : List Nat} (h : T.at_ q = some u) : kidsN (T.tel tgF) q = u.kids.length := by
  rw [kidsN, partD_of (e := u.tel tgF) (by rw [sub_still, h]; rfl), still_eta u, kidsD_node, List.length_map]
end Tl
set_option Elab.async false
set_option linter.all false
set_option maxRecDepth 100000
set_option maxHeartbeats 4000000
/-! Trees and deeds are good to be shown; deeds that a law draws. -/
namespace Tl
open PySem L2
theorem adr_nums (T : AT) : T.adr.length = 2 * T.nums.length :=
  AT.rec (motive_1 := fun t => t.adr.length = 2 * t.nums.length) (motive_2 := fun ts => (adrs ts).length = 2 * (numss ts).length)
    (fun a b n t ks ih => by
      rw [AT.adr, AT.nums, List.length_cons, List.length_cons, List.length_cons, ih]
      omega)
    (by rw [adrs, numss]; rfl)
    (fun k ks ih1 ih2 => by
      rw [adrs, numss, List.length_append, List.length_append, ih1, ih2]
      omega) T
theorem NewT.len {d : PyData} {k : Int} {M M' : Mem} {T : AT} (h : NewT d k M T M') : T.adr.length = 2 * nn d := by
  rw [adr_nums, h.nums]
  unfold rowI
  rw [List.length_map, List.length_range]
theorem pathD_inj {a b : List Nat} (h : pathD a = pathD b) : a = b := by
  have := eqv_path a b
  rw [h, eqv_path] at this
  have e : decide (a = b) = true := by rw [← this]; exact decide_eq_true rfl
  exact of_decide_eq_true e
theorem int_inj {a b : Nat} (h : PyData.int (a : Int) = .int (b : Int)) : a = b := Int.ofNat.inj (PyData.int.inj h)
theorem Deed.inj : ∀ {x y : Deed}, x.d = y.d → x = y := fun {x y} h => by
  cases x <;> cases y <;> simp only [Deed.d, PyData.tuple.injEq, List.cons.injEq, PyData.str.injEq, and_true, true_and] at h <;> first
    | (exact absurd h.1 (by decide))
    | (exact absurd h (by decide))
    | (obtain ⟨h1, h2⟩ := h; rw [pathD_inj h1, h2])
    | (obtain ⟨h1, h2, h3⟩ := h; rw [pathD_inj h1, int_inj h2, h3])
    | (obtain ⟨h1, h2, h3⟩ := h; rw [pathD_inj h1, pathD_inj h2, int_inj h3])
    | (obtain ⟨h1, h2, h3, h4⟩ := h; rw [pathD_inj h1, int_inj h2, int_inj h3, h4])
    | (obtain ⟨h1, h2⟩ := h; rw [pathD_inj h1, pathD_inj h2])
    | (rw [pathD_inj h])
end Tl
set_option Elab.async false
set_option linter.all false
set_option maxRecDepth 100000
set_option maxHeartbeats 4000000
/-! Numbers of places, led through deeds: where a place stands behind. -/
namespace Tl
open PySem L2
/-! ### where a place stands behind a deed -/
/-! ### the numbers of a tree of lists, but for a part -/
theorem nums_eta (T : AT) : T.nums = T.num :: numss T.kids := by
  cases T
  rw [AT.nums]
  rfl
/-! ### places led -/
/-! ### a part moved, two exchanged -/
/-! ### trees alike by their numbers -/
end Tl
set_option Elab.async false
set_option linter.all false
set_option maxRecDepth 100000
set_option maxHeartbeats 4000000
/-! A deed done on a tree of lists: its numbers, led. -/
namespace Tl
open PySem L2
/-! ### each place with its number -/
mutual
def AT.npl (p : List Nat) : AT → List (Int × List Nat)
  | .node _ _ n _ ks => (n, p) :: npls p 0 ks
def npls (p : List Nat) : Nat → List AT → List (Int × List Nat)
  | _, [] => []
  | i, k :: ks => k.npl (p ++ [i]) ++ npls p (i + 1) ks
end
theorem npl_eta (p : List Nat) (T : AT) : T.npl p = (T.num, p) :: npls p 0 T.kids := by
  cases T
  rw [AT.npl]
  rfl
theorem npls_app (p : List Nat) : ∀ (i : Nat) (a b : List AT), npls p i (a ++ b) = npls p i a ++ npls p (i + a.length) b
  | i, [], b => by rw [npls]; rfl
  | i, k :: a, b => by rw [List.cons_append, npls, npls, npls_app p (i + 1) a b, List.append_assoc, List.length_cons, show i + 1 + a.length = i + (a.length + 1) by omega]
theorem npls_1 (p : List Nat) (i : Nat) (k : AT) : npls p i [k] = k.npl (p ++ [i]) := by rw [npls, npls, List.append_nil]
theorem npl_nums (T : AT) : ∀ p, (T.npl p).map (·.1) = T.nums :=
  AT.rec (motive_1 := fun T => ∀ p, (T.npl p).map (·.1) = T.nums) (motive_2 := fun ks => ∀ p i, (npls p i ks).map (·.1) = numss ks)
    (fun a b n t ks ih p => by rw [AT.npl, AT.nums, List.map_cons, ih])
    (fun p i => by rw [npls, numss]; rfl)
    (fun k ks ih1 ih2 p i => by rw [npls, numss, List.map_append, ih1, ih2]) T
theorem npl_mem (T : AT) : ∀ p n p', (n, p') ∈ T.npl p ↔ ∃ r s, p' = p ++ r ∧ T.at_ r = some s ∧ s.num = n :=
  AT.rec (motive_1 := fun T => ∀ p n p', (n, p') ∈ T.npl p ↔ ∃ r s, p' = p ++ r ∧ T.at_ r = some s ∧ s.num = n) (motive_2 := fun ks => ∀ p i n p', (n, p') ∈ npls p i ks ↔ ∃ j r k s, ks[j]? = some k ∧ p' = p ++ (i + j) :: r ∧ k.at_ r = some s ∧ s.num = n)
    (fun a b m t ks ih p n p' => by
      rw [AT.npl, List.mem_cons, ih]
      constructor
      · rintro (h | ⟨j, r, k, s, h1, h2, h3, h4⟩)
        · injection h with h1 h2
          exact ⟨[], _, by rw [List.append_nil]; exact h2, at_nil _, h1.symm⟩
        · exact ⟨j :: r, s, by rw [h2, Nat.zero_add], at_cons.mpr ⟨k, h1, h3⟩, h4⟩
      · rintro ⟨r, s, h1, h2, h3⟩
        cases r with
        | nil =>
          rw [at_nil] at h2
          cases h2
          exact .inl (by rw [h1, List.append_nil, ← h3]; rfl)
        | cons j r =>
          obtain ⟨k, g1, g2⟩ := at_cons.mp h2
          exact .inr ⟨j, r, k, s, g1, by rw [h1, Nat.zero_add], g2, h3⟩)
    (fun p i n p' => by
      rw [npls]
      constructor
      · intro h; cases h
      · rintro ⟨j, r, k, s, h1, _⟩; simp at h1)
    (fun k ks ih1 ih2 p i n p' => by
      rw [npls, List.mem_append, ih1, ih2]
      constructor
      · rintro (⟨r, s, h1, h2, h3⟩ | ⟨j, r, k2, s, h1, h2, h3, h4⟩)
        · exact ⟨0, r, k, s, rfl, by rw [h1, List.append_assoc]; rfl, h2, h3⟩
        · exact ⟨j + 1, r, k2, s, by simpa using h1, by rw [h2, show i + 1 + j = i + (j + 1) by omega], h3, h4⟩
      · rintro ⟨j, r, k2, s, h1, h2, h3, h4⟩
        cases j with
        | zero =>
          simp at h1
          subst h1
          exact .inl ⟨r, s, by rw [h2, List.append_assoc]; rfl, h3, h4⟩
        | succ j =>
          exact .inr ⟨j, r, k2, s, by simpa using h1, by rw [h2, show i + 1 + j = i + (j + 1) by omega], h3, h4⟩) T
def numD (x : Int × List Nat) : PyData := .tuple [.int x.1, pathD x.2]
end Tl
set_option Elab.async false
set_option linter.all false
set_option maxRecDepth 100000
set_option maxHeartbeats 8000000
namespace Tl
open PySem L2 RZ
local macro_rules
  | `(tactic| decreasing_trivial) => `(tactic| ((with_reducible (conv => whnf)); (repeat ((first | (with_reducible refine gDs_c ?_) | (with_reducible refine gDs_n ?_) | (with_reducible refine gNs_c ?_) | (with_reducible refine gNs_n ?_) | (with_reducible refine gO_i tyAny_lt ?_) | (with_reducible refine gIs_c ?_) | (with_reducible refine gIs_n ?_) | (with_reducible refine gBs_c ?_) | (with_reducible refine gBs_n ?_) | (with_reducible refine gSs_c ?_) | (with_reducible refine gSs_n ?_) | (with_reducible refine gO_i tyIs_int ?_) | (with_reducible refine gO_i tyIs_bool ?_) | (with_reducible refine gO_i tyIs_str ?_) | (with_reducible refine gO_i tyIs_tuple ?_) | (with_reducible refine gO_i tyIs_list ?_) | (with_reducible refine gDs_i ?_) | (with_reducible refine gO_i (Eq.refl _) ?_) | (with_reducible refine gO_i (by assumption) ?_) | (with_reducible refine gO_i at_0 ?_) | (with_reducible refine gO_i at_m0 ?_) | (with_reducible refine gO_i at_1 ?_) | (with_reducible refine gO_i at_m1 ?_) | (with_reducible refine gO_i at_2 ?_) | (with_reducible refine gO_i at_m2 ?_) | (with_reducible refine gO_i at_3 ?_) | (with_reducible refine gO_i at_m3 ?_) | (with_reducible refine gO_i at_4 ?_) | (with_reducible refine gO_i at_m4 ?_) | (with_reducible refine gO_i at_5 ?_) | (with_reducible refine gO_i at_m5 ?_) | (with_reducible refine gO_i at_6 ?_) | (with_reducible refine gO_i at_m6 ?_) | (with_reducible refine gO_i at_7 ?_) | (with_reducible refine gO_i at_m7 ?_) | (with_reducible refine IfB.ngf ?_) | (with_reducible refine IfB.ngt ?_) | (with_reducible refine IfB.not ?_) | (with_reducible refine IfB.nil ?_) | (with_reducible refine IfB.nilT ?_) | (with_reducible refine IfB.f isE_c ?_) | (with_reducible refine IfB.t isE_n ?_) | (with_reducible refine IfB.t ?gha ?_; (case gha => rfl)) | (with_reducible refine IfB.f ?gha ?_; (case gha => rfl)) | (with_reducible refine IfB.t ?gha ?_; (case gha => assumption)) | (with_reducible refine IfB.f ?gha ?_; (case gha => assumption)) | (with_reducible refine IfB.yes (Eq.refl _) ?_) | (with_reducible refine IfB.yes ?gha ?_; (case gha => (first | omega | (simp only [len_c, len_n, List.length_map]; omega)))) | (with_reducible refine IfB.no ?gha ?_; (case gha => (first | omega | (simp only [len_c, len_n, List.length_map]; omega)))) | (with_reducible refine IfB.t ?gha ?_; (case gha => decide +kernel)) | (with_reducible refine IfB.f ?gha ?_; (case gha => decide +kernel))); (with_reducible (conv => whnf))))))
local macro_rules
  | `(tactic| decreasing_trivial_pre_omega) => `(tactic| (decreasing_trivial; (repeat ((first | ((with_reducible refine And.intro ?gha ?_); (case gha => (first | assumption | omega | exact rfl | (exact mset_same) | (exact ⟨_, mset_same⟩) | (exact Exists.intro _ (by first | exact mset_same | assumption | (rw [mset_ne (by assumption)]; first | exact mset_same | assumption))) | (exact sm_of (by omega) (by omega)) | (exact sz1000 (by first | omega | (simp; done) | (simp; omega))) | (exact Or.inl ⟨by decide, by decide⟩) | decide | (simp; done) | (refine ⟨?_, ?_⟩ <;> (first | assumption | omega | exact rfl | (exact mset_same) | (exact ⟨_, mset_same⟩) | (exact Exists.intro _ (by first | exact mset_same | assumption | (rw [mset_ne (by assumption)]; first | exact mset_same | assumption))) | (exact sm_of (by omega) (by omega)) | (exact sz1000 (by first | omega | (simp; done) | (simp; omega))) | (exact Or.inl ⟨by decide, by decide⟩) | decide | (simp; done))) | (refine ⟨?_, ?_, ?_⟩ <;> (first | assumption | omega | exact rfl | (exact mset_same) | (exact ⟨_, mset_same⟩) | (exact Exists.intro _ (by first | exact mset_same | assumption | (rw [mset_ne (by assumption)]; first | exact mset_same | assumption))) | (exact sm_of (by omega) (by omega)) | (exact sz1000 (by first | omega | (simp; done) | (simp; omega))) | (exact Or.inl ⟨by decide, by decide⟩) | decide | (simp; done))) | (refine ⟨?_, ?_, ?_, ?_⟩ <;> (first | assumption | omega | exact rfl | (exact mset_same) | (exact ⟨_, mset_same⟩) | (exact Exists.intro _ (by first | exact mset_same | assumption | (rw [mset_ne (by assumption)]; first | exact mset_same | assumption))) | (exact sm_of (by omega) (by omega)) | (exact sz1000 (by first | omega | (simp; done) | (simp; omega))) | (exact Or.inl ⟨by decide, by decide⟩) | decide | (simp; done)))))) | (with_reducible refine exW (by first | exact mset_same | assumption | (rw [mset_ne (by assumption)]; first | exact mset_same | assumption)) ?_)); decreasing_trivial))))
@[reducible] def tfNums (n : Nat) : TF := fun ws M R _ => ∃ (T : AT) (q : List Nat), ws = [.r T.root, .d (pathD q)] ∧ (T.ok M ∧ TrT n (T.tel tgF) ∧ nn (T.tel tgF) ≤ 200 ∧ q.length + n ≤ 100) ∧ R (.d (.list ((T.npl q).map numD))) M
theorem npls_take (q : List Nat) (ks : List AT) (i : Nat) (k : AT) (h : ks[i]? = some k) : npls q 0 (ks.take (i + 1)) = npls q 0 (ks.take i) ++ k.npl (q ++ [i]) := by
  rw [List.take_add_one, h, npls_app, show (some k).toList = [k] from rfl, npls_1, List.length_take, Nat.min_eq_left (Nat.le_of_lt (List.getElem?_eq_some_iff.mp h).1), Nat.zero_add]
theorem npl_len (T : AT) (p : List Nat) : (T.npl p).length = T.nums.length := by rw [← npl_nums T p, List.length_map]
theorem npls_nums : ∀ (q : List Nat) (i : Nat) (ks : List AT), (npls q i ks).map (·.1) = numss ks
  | _, _, [] => by rw [npls, numss]; rfl
  | q, i, k :: ks => by rw [npls, numss, List.map_append, npl_nums, npls_nums q (i + 1) ks]
theorem numss_take_le (ks : List AT) (i : Nat) : (numss (ks.take i)).length ≤ (numss ks).length := by
  conv => rhs; rw [← List.take_append_drop i ks, numss_app, List.length_append]
  omega
theorem nn_nums (T : AT) : T.nums.length = nn (T.tel tgF) :=
  AT.rec (motive_1 := fun T => T.nums.length = nn (T.tel tgF)) (motive_2 := fun ks => (numss ks).length = nnAll (ks.map (AT.tel tgF)))
    (fun a b n t ks ih => by rw [AT.nums, still_node, List.length_cons, ih, nn]; omega)
    (by rw [numss]; rfl)
    (fun k ks ih1 ih2 => by rw [numss, List.length_append, ih1, ih2, List.map_cons, nnAll]) T
section
variable {P : Program} {w : World} {K : PySem.W.Frag} {mg : Str → Option Value} {base : Heap}
abbrev sNums : Stmt := top 31
theorem scNums : FnScope ["_law_live_here", "_law_path", "_law_found", "_law_k", "_law_kid"] ["_law_live_here", "_law_path"] (defScope sNums) := ⟨rfl, rfl, rfl, by decide +kernel, rfl, by decide +kernel, by decide +kernel⟩
theorem ok_nums1 {f : Addr} {fd : FuncData} {n : Nat} (F : Fun K "_law_numbers" "_law_numbers" sNums f fd) (U_law_numbers : Use P w K mg base "_law_numbers" ["_law_live_here", "_law_path"] n (spD K 2 (tfNums n))) (T : Bl mg) :
    FnOk P w K mg base CX0 (n + 1) f fd ["_law_live_here", "_law_path"] (spD K 2 (tfNums (n + 1))) := by
  refine okD F scNums rfl fun cdv A outer s H E hr => ?_
  refine ⟨_, _, (pss_cons (ps_set (i := 2) scNums.nd rfl (.inl rfl) (pe_lst (pa_cons (pe_tup (pa_cons (pe_ix ix_list (pv 0) pe_int (fun _ _ => rfl)) (pa_cons (pv 1) pa_nil))) pa_nil)))
    (pss_cons (ps_for PassesOwn.never rfl (pi_enum (by rfl) T.enum (pa_cons (pe_ix ix_list (pv 0) pe_int (fun _ _ => rfl)) pa_nil)) (pg_tup rfl (pgs_cons (pg_name (i := 3) scNums.nd rfl (.inl rfl)) (pgs_cons (pg_name (i := 4) scNums.nd rfl (.inl rfl)) pgs_nil))) (pss_one (ps_set (i := 2) scNums.nd rfl (.inl rfl) (pe_op op_cat (pv 2) (pe_call U_law_numbers.ok (hr.mono (by omega)) rfl U_law_numbers.m U_law_numbers.kp U_law_numbers.b .nil pass0 (pa_cons (pv 4) (pa_cons (pe_op op_catA (pv 1) (pe_tup (pa_cons (pv 3) pa_nil))) pa_nil)))))))
    (pss_one (ps_ret (pv 2))))),
    (ss_cons (ss_set (se_lsf (sa_cons (se_tup (sa_cons (se_op so_ixL se_nm se_int) (sa_cons se_nm sa_nil))) sa_nil)))
    (ss_cons (ss_for (si_enL (sa_cons (se_op so_ixL se_nm se_int) sa_nil)) sg_pair (ss_set (se_op so_catF se_nm (se_call (sa_cons se_nm (sa_cons (se_op so_catT se_nm (se_tup (sa_cons se_nm sa_nil))) sa_nil))))))
    (ss_ret se_nm))), fun ws M R RX hl h => ?_⟩
  obtain ⟨T1, q, rfl, ⟨ho, ht, hn, hq⟩, h3⟩ := h
  obtain ⟨o1, o2, o3⟩ := ok_eta.mp ho
  rw [npl_eta] at h3
  have te := still_eta (fl := tgF) T1
  obtain ⟨s0, ks, e1, _, hk⟩ := ht
  have e3 := te.symm.trans e1
  injection e3 with e3
  simp only [List.cons.injEq, PyData.tuple.injEq, and_true] at e3
  obtain ⟨_, e3⟩ := e3
  have ln := nn_nums T1
  rw [nums_eta, List.length_cons] at ln
  simp only [start0, len_c, len_n, map_c, map_n, app_c, app_n, rep_0, rep_s, Nat.reduceAdd, Nat.reduceSub]
  decreasing_trivial_pre_omega
  refine forE (fun i ρ M' => M = M' ∧ ∃ y z, ρ = [some (.r T1.root), some (.d (pathD q)), some (.d (.list (((T1.num, q) :: npls q 0 (T1.kids.take i)).map numD))), y, z])
    ⟨rfl, none, none, rfl⟩ (fun _ _ _ _ p => by rw [← p.1]; exact o2) (fun i a ρ M' N ha c hN => ?_) (fun ρ M' c => ?_)
  · obtain ⟨rfl, y, z, rfl⟩ := c
    unfold rootsW at ha
    rw [List.getElem?_map] at ha
    obtain ⟨kd, hkd, rfl⟩ := Option.map_eq_some_iff.mp ha
    have hm := List.mem_of_getElem? hkd
    have hi := (List.getElem?_eq_some_iff.mp hkd).1
    have l1 := numss_take_le T1.kids i
    have l2 := numss_take_le T1.kids (i + 1)
    have l3 := congrArg List.length (npls_take q T1.kids i kd hkd)
    have l4 : ∀ j, (npls q 0 (T1.kids.take j)).length = (numss (T1.kids.take j)).length := fun j => by rw [← npls_nums q 0, List.length_map]
    rw [List.length_append, l4, l4] at l3
    unfold pathD
    decreasing_trivial_pre_omega
    have h4 : kd.tel tgF ∈ ks := by rw [← e3]; exact List.mem_map_of_mem hm
    have h5 := nn_mem h4
    have h6 := nn_nums kd
    rw [e1, nn] at hn ln
    refine ⟨kd, q ++ [i], by rw [path_cat], ⟨oks_iff.mp o3 kd hm, hk _ h4, by omega, by simp; omega⟩, ?_⟩
    have l5 := npl_len kd (q ++ [i])
    decreasing_trivial_pre_omega
    refine ⟨?_, ?_⟩
    · simp only [List.length_map, List.length_cons, l4]
      exact sz1000 (by omega)
    · rw [← List.map_append, List.cons_append, ← npls_take q T1.kids i kd hkd]
      exact hN _ _ ⟨rfl, _, _, rfl⟩
  · obtain ⟨rfl, y, z, rfl⟩ := c
    rw [roots_len, List.take_length]
    exact h3
theorem ok_nums {f : Addr} {fd : FuncData} (F : Fun K "_law_numbers" "_law_numbers" sNums f fd) (mF : mg "_law_numbers" = some (.ref f)) (T : Bl mg) : ∀ n, FnOk P w K mg base CX0 n f fd ["_law_live_here", "_law_path"] (spD K 2 (tfNums n))
  | 0 => no0 fun ws M R RX ⟨_, _, _, ⟨_, h, _⟩, _⟩ => h
  | n + 1 => ok_nums1 F ⟨f, fd, ok_nums F mF T n, mF, F.kp, F.binds (ps := ["_law_live_here", "_law_path"]) fun _ _ _ _ _ _ us hl => match us, hl with | [_, _], _ => rfl⟩ T
end
end Tl
set_option Elab.async false
set_option linter.all false
set_option maxRecDepth 100000
set_option maxHeartbeats 8000000
namespace Tl
open PySem L2 RZ
local macro_rules
  | `(tactic| decreasing_trivial) => `(tactic| ((with_reducible (conv => whnf)); (repeat ((first | (with_reducible refine gDs_c ?_) | (with_reducible refine gDs_n ?_) | (with_reducible refine gNs_c ?_) | (with_reducible refine gNs_n ?_) | (with_reducible refine gO_i tyAny_lt ?_) | (with_reducible refine gIs_c ?_) | (with_reducible refine gIs_n ?_) | (with_reducible refine gBs_c ?_) | (with_reducible refine gBs_n ?_) | (with_reducible refine gSs_c ?_) | (with_reducible refine gSs_n ?_) | (with_reducible refine gO_i tyIs_int ?_) | (with_reducible refine gO_i tyIs_bool ?_) | (with_reducible refine gO_i tyIs_str ?_) | (with_reducible refine gO_i tyIs_tuple ?_) | (with_reducible refine gO_i tyIs_list ?_) | (with_reducible refine gDs_i ?_) | (with_reducible refine gO_i (Eq.refl _) ?_) | (with_reducible refine gO_i (by assumption) ?_) | (with_reducible refine gO_i at_0 ?_) | (with_reducible refine gO_i at_m0 ?_) | (with_reducible refine gO_i at_1 ?_) | (with_reducible refine gO_i at_m1 ?_) | (with_reducible refine gO_i at_2 ?_) | (with_reducible refine gO_i at_m2 ?_) | (with_reducible refine gO_i at_3 ?_) | (with_reducible refine gO_i at_m3 ?_) | (with_reducible refine gO_i at_4 ?_) | (with_reducible refine gO_i at_m4 ?_) | (with_reducible refine gO_i at_5 ?_) | (with_reducible refine gO_i at_m5 ?_) | (with_reducible refine gO_i at_6 ?_) | (with_reducible refine gO_i at_m6 ?_) | (with_reducible refine gO_i at_7 ?_) | (with_reducible refine gO_i at_m7 ?_) | (with_reducible refine IfB.ngf ?_) | (with_reducible refine IfB.ngt ?_) | (with_reducible refine IfB.not ?_) | (with_reducible refine IfB.nil ?_) | (with_reducible refine IfB.nilT ?_) | (with_reducible refine IfB.f isE_c ?_) | (with_reducible refine IfB.t isE_n ?_) | (with_reducible refine IfB.t ?gha ?_; (case gha => rfl)) | (with_reducible refine IfB.f ?gha ?_; (case gha => rfl)) | (with_reducible refine IfB.t ?gha ?_; (case gha => assumption)) | (with_reducible refine IfB.f ?gha ?_; (case gha => assumption)) | (with_reducible refine IfB.yes (Eq.refl _) ?_) | (with_reducible refine IfB.yes ?gha ?_; (case gha => (first | omega | (simp only [len_c, len_n, List.length_map]; omega)))) | (with_reducible refine IfB.no ?gha ?_; (case gha => (first | omega | (simp only [len_c, len_n, List.length_map]; omega)))) | (with_reducible refine IfB.t ?gha ?_; (case gha => decide +kernel)) | (with_reducible refine IfB.f ?gha ?_; (case gha => decide +kernel))); (with_reducible (conv => whnf))))))
local macro_rules
  | `(tactic| decreasing_trivial_pre_omega) => `(tactic| (decreasing_trivial; (repeat ((first | ((with_reducible refine And.intro ?gha ?_); (case gha => (first | assumption | omega | exact rfl | (exact mset_same) | (exact ⟨_, mset_same⟩) | (exact Exists.intro _ (by first | exact mset_same | assumption | (rw [mset_ne (by assumption)]; first | exact mset_same | assumption))) | (exact sm_of (by omega) (by omega)) | (exact sz1000 (by first | omega | (simp; done) | (simp; omega))) | (exact Or.inl ⟨by decide, by decide⟩) | decide | (simp; done) | (refine ⟨?_, ?_⟩ <;> (first | assumption | omega | exact rfl | (exact mset_same) | (exact ⟨_, mset_same⟩) | (exact Exists.intro _ (by first | exact mset_same | assumption | (rw [mset_ne (by assumption)]; first | exact mset_same | assumption))) | (exact sm_of (by omega) (by omega)) | (exact sz1000 (by first | omega | (simp; done) | (simp; omega))) | (exact Or.inl ⟨by decide, by decide⟩) | decide | (simp; done))) | (refine ⟨?_, ?_, ?_⟩ <;> (first | assumption | omega | exact rfl | (exact mset_same) | (exact ⟨_, mset_same⟩) | (exact Exists.intro _ (by first | exact mset_same | assumption | (rw [mset_ne (by assumption)]; first | exact mset_same | assumption))) | (exact sm_of (by omega) (by omega)) | (exact sz1000 (by first | omega | (simp; done) | (simp; omega))) | (exact Or.inl ⟨by decide, by decide⟩) | decide | (simp; done))) | (refine ⟨?_, ?_, ?_, ?_⟩ <;> (first | assumption | omega | exact rfl | (exact mset_same) | (exact ⟨_, mset_same⟩) | (exact Exists.intro _ (by first | exact mset_same | assumption | (rw [mset_ne (by assumption)]; first | exact mset_same | assumption))) | (exact sm_of (by omega) (by omega)) | (exact sz1000 (by first | omega | (simp; done) | (simp; omega))) | (exact Or.inl ⟨by decide, by decide⟩) | decide | (simp; done)))))) | (with_reducible refine exW (by first | exact mset_same | assumption | (rw [mset_ne (by assumption)]; first | exact mset_same | assumption)) ?_)); decreasing_trivial))))
/-- all paths of a part in the walk behind, as a new list; as data -/
@[reducible] def tfPathsB (n : Nat) : TF := fun ws M R _ => ∃ (d : PyData) (q : List Nat), ws = [.d d, .d (pathD q)] ∧ (TrT n d ∧ nn d ≤ 100 ∧ q.length + n ≤ 100) ∧ ∀ p, M p = none → R (.r p) (mset M p (.lst ((pls q (plb d)).map W.d)))
@[reducible] def tfPlsB (n : Nat) : TF := fun ws M R _ => ∃ (d : PyData) (q : List Nat), ws = [.d d, .d (pathD q)] ∧ (TrT n d ∧ nn d ≤ 100 ∧ q.length + n ≤ 100) ∧ R (.d (.list (pls q (plb d)))) M
section
variable {P : Program} {w : World} {K : PySem.W.Frag} {mg : Str → Option Value} {base : Heap}
abbrev sPathsB : Stmt := top 22
theorem scPathsB : FnScope ["tree", "path", "paths", "at", "kid"] ["tree", "path"] (defScope sPathsB) := ⟨rfl, rfl, rfl, by decide +kernel, rfl, by decide +kernel, by decide +kernel⟩
theorem ok_pathsB1 {f : Addr} {fd : FuncData} {n : Nat} (F : Fun K "paths_behind" "paths_behind" sPathsB f fd) (Upaths_behind : Use P w K mg base "paths_behind" ["tree", "path"] n (spD K 2 (tfPlsB n))) (T : Bl mg) :
    FnOk P w K mg base CX0 (n + 1) f fd ["tree", "path"] (spD K 2 (tfPathsB (n + 1))) := by
  refine okD F scPathsB rfl fun cdv A outer s H E hr => ?_
  refine ⟨_, _, (pss_cons (ps_set (i := 2) scPathsB.nd rfl (.inl rfl) (pe_lst pa_nil))
    (pss_cons (ps_for PassesOwn.never rfl (pi_enumT (by rfl) T.enum (pa_cons (pe_ix ix_tup (pv 0) pe_int (fun _ _ => rfl)) pa_nil)) (pg_tup rfl (pgs_cons (pg_name (i := 3) scPathsB.nd rfl (.inl rfl)) (pgs_cons (pg_name (i := 4) scPathsB.nd rfl (.inl rfl)) pgs_nil))) (pss_one (ps_expr (pe_bm PySem.F.plainAttrs_list PySem.F.slot_list_extend PySem.F.type_list_extend mt_extend (pv 2) (pa_cons (pe_call Upaths_behind.ok (hr.mono (by omega)) rfl Upaths_behind.m Upaths_behind.kp Upaths_behind.b .nil pass0 (pa_cons (pv 4) (pa_cons (pe_op op_catA (pv 1) (pe_tup (pa_cons (pv 3) pa_nil))) pa_nil))) pa_nil)))))
    (pss_cons (ps_expr (pe_bm PySem.F.plainAttrs_list PySem.F.slot_list_append PySem.F.type_list_append mt_append (pv 2) (pa_cons (pv 1) pa_nil)))
    (pss_one (ps_ret (pv 2)))))),
    (ss_cons (ss_set (se_lst sa_nil))
    (ss_cons (ss_for (si_enT (sa_cons (se_op so_ixT se_nm se_int) sa_nil)) sg_pair (ss_drop (se_bmL sm_extend se_nm (sa_cons (se_call (sa_cons se_nm (sa_cons (se_op so_catT se_nm (se_tup (sa_cons se_nm sa_nil))) sa_nil))) sa_nil))))
    (ss_cons (ss_drop (se_bmL sm_append se_nm (sa_cons se_nm sa_nil)))
    (ss_ret se_nm)))), fun ws M R RX hl h => ?_⟩
  obtain ⟨d, q, rfl, ⟨ht, hn, hq⟩, h3⟩ := h
  obtain ⟨s0, ks, rfl, hs, hk⟩ := ht
  rw [plb_node] at h3
  rw [nn] at hn
  simp only [start0, len_c, len_n, map_c, map_n, app_c, app_n, rep_0, rep_s, Nat.reduceAdd, Nat.reduceSub]
  decreasing_trivial
  intro p hp
  decreasing_trivial
  refine forE (fun i ρ M' => mset M p (.lst ((pls q (plbAll 0 (ks.take i))).map W.d)) = M' ∧ ∃ y z, ρ = [some (W.d (PyData.tuple [PyData.str s0, PyData.tuple ks])), some (W.d (pathD q)), some (W.r p), y, z])
    ⟨by rw [List.take_zero, plbAll]; rfl, none, none, rfl⟩ (fun _ _ _ _ _ => trivial) (fun i a ρ M' N ha c hN => ?_) (fun ρ M' c => ?_)
  · obtain ⟨rfl, y, z, rfl⟩ := c
    rw [List.getElem?_map] at ha
    obtain ⟨kd, hkd, rfl⟩ := Option.map_eq_some_iff.mp ha
    have hm := List.mem_of_getElem? hkd
    have h1 := nn_mem hm
    have h2 := nnAll_take ks i
    have hi := (List.getElem?_eq_some_iff.mp hkd).1
    unfold pathD
    decreasing_trivial
    refine ⟨⟨_, mset_same⟩, ?_⟩
    decreasing_trivial
    refine ⟨sz1000 (by simp; omega), ?_⟩
    rw [path_cat]
    decreasing_trivial
    refine ⟨kd, q ++ [i], rfl, ⟨hk kd hm, by omega, by simp; omega⟩, ?_⟩
    decreasing_trivial
    refine ⟨_, mset_same, ?_⟩
    decreasing_trivial
    refine ⟨?_, ?_⟩
    · simp only [List.length_map, pls_len, plbAll_len (n := n) _ (fun x hx => hk x (List.mem_of_mem_take hx)), plb_len (hk kd hm)]
      exact sz1000 (by omega)
    · rw [mset_mset]
      refine hN _ _ ⟨?_, _, _, rfl⟩
      congr 2
      rw [← List.map_append, pls_kid, ← pls_app, List.take_add_one, hkd, plbAll_app]
      show List.map W.d (pls q (plbAll 0 (ks.take i) ++ plbAll (0 + (ks.take i).length) [kd])) = _
      rw [plbAll_one, List.length_take, show 0 + min i ks.length = i by omega]
  · obtain ⟨rfl, y, z, rfl⟩ := c
    rw [List.length_map, List.take_length]
    have hlb := plbAll_len 0 hk
    decreasing_trivial
    refine ⟨⟨_, mset_same⟩, ?_⟩
    decreasing_trivial
    refine ⟨_, mset_same, ?_, ?_⟩
    · rw [List.length_map, pls_len, hlb]
      exact small1000 (by omega)
    · rw [mset_mset]
      have := h3 p hp
      rw [pls_app, List.map_append] at this
      have e : (pls q [[]]).map W.d = [W.d (pathD q)] := by
        unfold pls
        rw [List.map_cons, List.append_nil]
        rfl
      rw [e] at this
      exact this
theorem ok_pathsB {f : Addr} {fd : FuncData} (F : Fun K "paths_behind" "paths_behind" sPathsB f fd) (mF : mg "paths_behind" = some (.ref f)) (T : Bl mg) : ∀ n, FnOk P w K mg base CX0 n f fd ["tree", "path"] (spD K 2 (tfPathsB n))
  | 0 => no0 fun ws M R RX ⟨_, _, _, ⟨h, _⟩, _⟩ => h
  | n + 1 => ok_pathsB1 F ⟨f, fd, FnOk.dat (ok_pathsB F mF T n) fun ws M R RX hl ⟨d, q, e, h1, h2⟩ => ⟨d, q, e, h1, fun p hp => ⟨p, _, rfl, hp, rfl, h2⟩⟩, mF, F.kp, F.binds (ps := ["tree", "path"]) fun _ _ _ _ _ _ us hl => match us, hl with | [_, _], _ => rfl⟩ T
end
end Tl
set_option Elab.async false
set_option linter.all false
set_option maxRecDepth 100000
set_option maxHeartbeats 4000000
/-! sorted: of data that are alike (tuples may be empty), of any length. -/
namespace Tl
open PySem L2 PyProof.Rows
open PySem.W (alike alikeAll AllAlike Sortable dataLe dataLt SortsAt EachIs keyToks keyToksAll)
mutual
theorem alike_nd1 : ∀ d : PyData, alike d d = true → d.hasDict = false
  | .none, _ => rfl
  | .bool _, _ => rfl
  | .int _, _ => rfl
  | .str _, _ => rfl
  | .list xs, h => by
    rw [PyData.hasDict]
    exact alike_nds xs (by simpa only [alike] using h)
  | .tuple xs, h => by
    rw [PyData.hasDict]
    exact alike_nds xs (by simpa only [alike] using h)
  | .dict _, h => by simp [alike] at h
theorem alike_nds : ∀ xs : List PyData, alikeAll xs xs = true → PyData.hasDictAll xs = false
  | [], _ => rfl
  | x :: xs, h => by
    have h2 := PySem.W.alike_all_cons h
    rw [PyData.hasDictAll, alike_nd1 x h2.1, alike_nds xs h2.2]
    rfl
end
/-- data that can be sorted -/
structure SrtOk (ds : List PyData) : Prop where
  al : AllAlike ds
  ty : Sortable ds ∨ ∀ d ∈ ds, ∃ xs, d = .tuple xs
  dp : ∀ d ∈ ds, d.depth ≤ 60
/-- sorted, by Python's order of alike data -/
def srt (ds : List PyData) : List PyData := ds.mergeSort (dataLe false id)
section
variable {M : Model} {prog : Program} {w : World} {A : Around} {E : Value → Shared → Prop} {s : Shared}
/-- the first items of tuples, where there are some -/
theorem firsts_tup : ∀ (vs : List Value) (ds : List PyData) {Q : List (Option Value) → Shared → Prop}, EachIs (fun v d => ∃ as, Reads s.heap v d as) vs ds → (∀ d ∈ ds, ∃ xs, d = .tuple xs) →
    (∀ fs : List (Option Value), fs.length = ds.length → (∀ (i : Nat) (x : PyData), ds[i]? = some x → ∃ f, fs[i]? = some f ∧ (f.isSome = true ↔ x ≠ .tuple [])) → Q fs s) → wpAny M A (vs.mapM firstOfTuple') Q E s
  | [], _, _, e, _, h => by
    cases e
    rw [List.mapM_nil]
    exact wpAny_pure (h [] rfl fun i x q => by simp at q)
  | v :: vs, _, Q, e, ht, h => by
    cases e with
    | @cons _ d _ ds r t =>
      obtain ⟨as, r⟩ := r
      obtain ⟨xs, rfl⟩ := ht _ (List.mem_cons_self ..)
      cases r with
      | @tuple a o us n _ _ ho hc hd hr =>
        rw [List.mapM_cons]
        refine wpAny_bind ?_
        rw [PySem.W.kas_first_eq]
        refine wpAny_bind (PySem.W.Looks.here (show PySem.W.Looks M s.heap (typeOf (.ref a)) o.cls from (PySem.W.Looks.ld ho).andThen .now) ?_)
        rw [hc, if_neg (by decide)]
        refine wpAny_bind (listItems_at ho hd (wpAny_pure ?_))
        refine wpAny_bind (firsts_tup vs ds (Q := fun bs s' => wpAny M A (pure (us[0]? :: bs)) Q E s') t (fun d hd => ht d (List.mem_cons_of_mem _ hd)) fun fs h1 h2 => wpAny_pure (h _ (by rw [List.length_cons, List.length_cons, h1]) fun i x q => ?_))
        cases i with
        | zero =>
          rw [List.getElem?_cons_zero] at q ⊢
          cases q
          refine ⟨_, rfl, ?_⟩
          have hl : us.size = xs.length := by simpa using SeqAt.ReadsAll.length _ _ _ hr
          cases xs with
          | nil =>
            have : us = #[] := Array.eq_empty_of_size_eq_zero hl
            subst this
            simp
          | cons x r =>
            have h0 : 0 < us.size := by rw [hl, List.length_cons]; exact Nat.succ_pos _
            rw [Array.getElem?_eq_getElem h0]
            simp
        | succ i =>
          rw [List.getElem?_cons_succ] at q ⊢
          exact h2 i x q
/-- one tuple against another -/
theorem oneLt_tup {f : Bool} {xs ys : List PyData} {a b : Value} {as bs : List Addr} {Q : Bool → Shared → Prop} (ra : Reads s.heap a (.tuple xs) as) (rb : Reads s.heap b (.tuple ys) bs) (h : alike (.tuple xs) (.tuple ys) = true)
    (hu : A.units + min (PyData.tuple xs).depth (PyData.tuple ys).depth < cLine) (hq : Q (dataLt (.tuple xs) (.tuple ys)) s) : wpAny (model prog w) A (oneLt' f a b) Q E s := by
  cases f with
  | false =>
    rw [oneLt'_eq]
    simp only [Bool.false_eq_true, if_false]
    exact wpAny_bind (PySem.W.rcLt_alike _ _ A s a b as bs ra rb h (by simp) hu prog w E _ (wpAny_truthy_bool hq))
  | true =>
    have hal : alikeAll xs ys = true := by simpa [alike] using h
    cases ra with
    | @tuple l o vs n _ as1 h1 h2 h3 h4 =>
      cases rb with
      | @tuple m p ws k _ bs1 k1 k2 k3 k4 =>
        have n1 : vs.size = xs.length := by simpa using SeqAt.ReadsAll.length _ _ _ h4
        have n2 : ws.size = ys.length := by simpa using SeqAt.ReadsAll.length _ _ _ k4
        rw [PySem.W.dataLt_tuple, ← PySem.W.firstLt_toks xs ys hal, ← n1, ← n2] at hq
        rw [oneLt'_eq]
        simp only [if_true]
        refine wpAny_bind (wpAny_cRoomFor (SeqAt.room_here hu) ?_)
        obtain ⟨cls, dd, data, sl⟩ := o
        obtain ⟨cls2, dd2, data2, sl2⟩ := p
        simp only at h2 h3 k2 k3
        subst h2 h3 k2 k3
        refine wpAny_bind (wpAny_callSpecialIfBound?_slot (T := "tuple") ⟨_, h1, rfl⟩ F.slot_tuple_lt (call_meets F.slot_tuple_lt ⟨_, h1, rfl⟩ F.entry_tuple_lt (F.args_tuple_lt_2 _ _)
          (SeqAt.tuple_ltAt l m vs ws n k dd dd2 sl sl2 (SeqAt.pairEq xs ys) (fun j => dataLt (xs.getD j .none) (ys.getD j .none))) ⟨h1, k1, fun j j1 j2 => ?_, fun j j1 j2 hj => ?_, ?_⟩))
        · have := PySem.W.eqAt_alikeAll xs ys A.in1 s vs.toList ws.toList _ _ h4 k4 hal (SeqAt.room_in hu) j (by simpa using j1) (by simpa using j2)
          simpa using this
        · have := PySem.W.rcLt_alikeAll xs ys A.in1 s vs.toList ws.toList _ _ h4 k4 hal (SeqAt.room_in hu) j (by simpa using j1) (by simpa using j2) hj
          simpa using this
        · exact wpAny_truthy_bool hq
/-- tuples, empty ones among them, can be sorted -/
theorem sorts_tups {vs : List Value} {ds : List PyData} (e : EachIs (fun v d => ∃ as, Reads s.heap v d as) vs ds) (hal : AllAlike ds) (ht : ∀ d ∈ ds, ∃ xs, d = .tuple xs) (hu : ∀ d, d ∈ ds → A.units + d.depth < cLine) :
    SortsAt prog w A s (PySem.W.dataKind s.heap ds) vs := by
  by_cases hne : ∀ d ∈ ds, d ≠ .tuple []
  · refine SortsAt.data e hal (.inl fun d hd => ?_) hu
    obtain ⟨xs, rfl⟩ := ht d hd
    cases xs with
    | nil => exact absurd rfl (hne _ hd)
    | cons x r => exact ⟨x, r, rfl⟩
  refine ⟨fun v hv => ?_, ?_⟩
  · obtain ⟨d, hd, as, r⟩ := e.left v hv
    exact ⟨_, PySem.W.dataKind_some hal hd r⟩
  have cmp : ∀ (f : Bool) (E : Value → Shared → Prop) {x y : Value} {a b : (PySem.W.dataKind s.heap ds).α} {Q : Bool → Shared → Prop}, (PySem.W.dataKind s.heap ds).keyOf x = some a → (PySem.W.dataKind s.heap ds).keyOf y = some b →
      Q ((PySem.W.dataKind s.heap ds).blt a b) s → wpAny (model prog w) A (oneLt' f x y) Q E s := by
    intro f E x y a b Q ha hb hq
    obtain ⟨d, as, hd, ra, rfl⟩ := PySem.W.dataKind_inv ha
    obtain ⟨d', as', hd', rb, rfl⟩ := PySem.W.dataKind_inv hb
    have hdd := hal d hd d' hd'
    have hm := Nat.lt_of_le_of_lt (Nat.add_le_add_left (Nat.min_le_left d.depth d'.depth) A.units) (hu d hd)
    obtain ⟨xs, rfl⟩ := ht d hd
    obtain ⟨ys, rfl⟩ := ht d' hd'
    exact oneLt_tup ra rb hdd hm hq
  have some0 : ∃ d ∈ ds, d = .tuple [] := by
    apply Classical.byContradiction
    intro c
    exact hne fun d hd z => c ⟨d, hd, z⟩
  by_cases h0 : ds[0]? = some (.tuple [])
  · refine ⟨oneType', fun E x y a b Q ha hb hq => ?_, fun h2 E Q hq => ?_⟩
    · rw [keyLt'_oneType]
      exact cmp true E ha hb hq
    · rw [keyKind'_eq, List.mapM_toArray, map_eq_pure_bind]
      refine wpAny_bind (wpAny_bind (firsts_tup vs ds e ht fun fs h1 h2' => wpAny_pure ?_))
      obtain ⟨f, hf1, hf2⟩ := h2' 0 _ h0
      have hf3 : f.isSome = false := by
        cases c : f.isSome with
        | false => rfl
        | true => exact absurd rfl (hf2.mp c)
      obtain ⟨g, gs, rfl⟩ : ∃ g gs, fs = g :: gs := by
        cases fs with
        | nil => simp at hf1
        | cons g gs => exact ⟨g, gs, rfl⟩
      rw [List.getElem?_cons_zero] at hf1
      rw [← Option.some.inj hf1] at hf3
      have hn : g = none := by simpa using hf3
      subst hn
      rw [if_neg (by simp), if_neg (by simp)]
      rw [oneTypeOnly'_eq, List.mapM_toArray, map_eq_pure_bind]
      refine wpAny_bind (wpAny_bind (wpAny_bind (PySem.W.kas_mapM (r := Value.type "tuple") _ (fun v hv Q' hq => PySem.W.Looks.here ?_ hq) (wpAny_pure ?_))))
      · obtain ⟨d, hd, as, r⟩ := e.left v hv
        obtain ⟨xs, rfl⟩ := ht d hd
        exact PySem.W.looks_reads r
      · have hall : ((List.map (fun _ => Value.type "tuple") vs).toArray.all fun x => x == Value.type "tuple") = true := by
          simp only [List.all_toArray, List.all_map, List.all_eq_true]
          intro _ _
          exact beq_self_eq_true _
        have h0 : (List.map (fun _ => Value.type "tuple") vs).toArray[0]? = some (Value.type "tuple") := by
          cases vs with
          | nil => simp at h2
          | cons v r => simp
        rw [h0]
        simp only [hall, if_true]
        exact wpAny_pure (wpAny_pure hq)
  · refine ⟨general', fun E x y a b Q ha hb hq => ?_, fun h2 E Q hq => ?_⟩
    · show wpAny (model prog w) A (oneLt' false _ _) Q E s
      exact cmp false E ha hb hq
    · rw [keyKind'_eq, List.mapM_toArray, map_eq_pure_bind]
      refine wpAny_bind (wpAny_bind (firsts_tup vs ds e ht fun fs h1 h2' => wpAny_pure ?_))
      obtain ⟨d, hd, rfl⟩ := some0
      obtain ⟨i, hi⟩ := List.getElem?_of_mem hd
      obtain ⟨f, hf1, hf2⟩ := h2' i _ hi
      have hf3 : f.isSome = false := by
        cases c : f.isSome with
        | false => rfl
        | true => exact absurd rfl (hf2.mp c)
      have hall : ¬ (fs.toArray.all fun x => x.isSome) = true := by
        rw [List.all_toArray, List.all_eq_true]
        intro c
        have := c f (List.mem_of_getElem? hf1)
        rw [hf3] at this
        exact Bool.false_ne_true this
      rw [if_neg hall]
      obtain ⟨d0, hd0⟩ : ∃ d0, ds[0]? = some d0 := by
        cases ds with
        | nil => simp at hd
        | cons d0 r => exact ⟨d0, rfl⟩
      obtain ⟨g, hg1, hg2⟩ := h2' 0 _ hd0
      have hg3 : g.isSome = true := hg2.mpr fun z => h0 (by rw [hd0, z])
      rw [if_pos (by rw [List.getElem?_toArray, hg1]; simpa using hg3)]
      exact wpAny_pure hq
theorem sorts_any {vs : List Value} {ds : List PyData} (e : EachIs (fun v d => ∃ as, Reads s.heap v d as) vs ds) (k : SrtOk ds) (hu : A.units + 60 < cLine) : SortsAt prog w A s (PySem.W.dataKind s.heap ds) vs := by
  have hu' : ∀ d, d ∈ ds → A.units + d.depth < cLine := fun d hd => Nat.lt_of_le_of_lt (Nat.add_le_add_left (k.dp d hd) _) hu
  rcases k.ty with h | h
  · exact SortsAt.data e k.al h hu'
  · exact sorts_tups e k.al h hu'
end
end Tl
set_option Elab.async false
set_option linter.all false
set_option maxRecDepth 100000
set_option maxHeartbeats 4000000
/-! Tables by seven words, as the top leaves them. -/
namespace Tl
open PySem L2
/-- a value of a table stands at p -/
def TVAt (K : PySem.W.Frag) (p : Addr) : TV → Prop
  | .f b => p = b
  | .d y => ∀ F, Dx K F (.ref p) y
/-- a tuple of words that the top has left -/
theorem wrds {K : PySem.W.Frag} {p : Addr} {o : Option Addr} {its : Array Value} {n : Nat} {l : Array (Option Value)} {zs : List Str} (g : K.lookup p = some ⟨.type "tuple", o, .seq its n, l⟩) (hz : its.size ≤ 100) (h : Vals (zs.map V.str) its.toList) : TVAt K p (.d (.tuple (zs.map .str))) := fun F => by
  have d : ∀ zs : List Str, DxL K F (zs.map V.str) (zs.map PyData.str) := fun zs => by
    induction zs with
    | nil => exact .nil
    | cons z zs ih => exact .cons (.str z) ih
  exact .tup (.inr ⟨_, its, n, g, rfl, rfl, Nat.le_trans hz (by decide), h⟩) (d zs)
end Tl
set_option Elab.async false
set_option linter.all false
set_option maxRecDepth 100000
set_option maxHeartbeats 4000000
/-! Dicts that may change: made, stored into, looked up, walked. -/
namespace Tl
open PySem PySem.Spec PyProof.Rows L2
section
variable {K : PySem.W.Frag} {F H : Hp} {M : Mem}
section
variable {κ : Type} [DecidableEq κ]
theorem PrR.nil : PrR K F ([] : List (κ × V)) [] := ⟨rfl, .nil⟩
theorem PrR.cons {p : κ × V} {q : κ × W} {kv : List (κ × V)} {kw : List (κ × W)} (h1 : p.1 = q.1) (h2 : RW K F p.2 q.2) (h3 : PrR K F kv kw) : PrR K F (p :: kv) (q :: kw) :=
  ⟨by rw [List.map_cons, List.map_cons, h1, h3.1], .cons h2 h3.2⟩
theorem PrR.app {a c : List (κ × V)} {b d : List (κ × W)} (h : PrR K F a b) (g : PrR K F c d) : PrR K F (a ++ c) (b ++ d) :=
  ⟨by rw [List.map_append, List.map_append, h.1, g.1], by rw [List.map_append, List.map_append]; exact h.2.app g.2⟩
theorem PrR.got {kv : List (κ × V)} {kw : List (κ × W)} (h : PrR K F kv kw) {i : Nat} {q : κ × W} (e : kw[i]? = some q) : ∃ v, kv[i]? = some (q.1, v) ∧ RW K F v q.2 := by
  have hi : i < kw.length := (List.getElem?_eq_some_iff.mp e).1
  have h1 : (kv.map (·.1))[i]? = (kw.map (·.1))[i]? := by rw [h.1]
  rw [List.getElem?_map, List.getElem?_map, e] at h1
  obtain ⟨p, hp, e2⟩ := Option.map_eq_some_iff.mp h1
  obtain ⟨v, hv, r⟩ := h.2.got (i := i) (x := q.2) (by rw [List.getElem?_map, e]; rfl)
  rw [List.getElem?_map, hp] at hv
  cases hv
  exact ⟨p.2, by rw [hp]; exact congrArg some (Prod.ext e2 rfl), r⟩
end
theorem Rl.dK (h : Rl K F H M) {a : Addr} {kw : List (L2.Key × W)} (e : M a = some (.dK kw)) : ∃ kv, H a = some (.dK kv) ∧ PrR K F kv kw := by
  obtain ⟨_, h1, kv, rfl, h2⟩ := h.at_ a _ e
  exact ⟨kv, h1, h2⟩
theorem Rl.lkK (h : Rl K F H M) {a : Addr} {ob : Obj} {kv : List (L2.Key × V)} {kw : List (L2.Key × W)} (e : M a = some (.lkK ob kv kw)) : H a = some (.frz ob (.dK kv)) ∧ PrR K F kv kw := by
  obtain ⟨_, h1, rfl, h2⟩ := h.at_ a _ e
  exact ⟨h1, h2⟩
end
end Tl
set_option Elab.async false
set_option linter.all false
set_option maxRecDepth 100000
set_option maxHeartbeats 4000000
/-! x is True, x is not True, of truths. -/
set_option Elab.async false
set_option linter.all false
set_option maxRecDepth 100000
set_option maxHeartbeats 4000000
/-! Errors that leave a def and are caught by a suite that raises itself: the def's promise under L2N.CX. -/
namespace Tl
open PySem PySem.Spec PyProof.Rows L2
section
variable {P : Program} {w : World} {K : PySem.W.Frag} {mg : Str → Option Value} {base : Heap}
theorem ok_ofN {k : Nat} {f : Addr} {fd : FuncData} {ps : List Str} {sp : Sp} (F : FnOk P w K mg base (L2N.CX P w) k f fd ps sp) : FnOk P w K mg base (L2.CX P w) k f fd ps sp :=
  ⟨F.len, fun A outer s H args us vs Q E hr he hb hv hs => codeAny_mono (F.run A outer s H args us vs Q E hr he hb hv hs) fun r s' h => by
    cases r with
    | ok fl => cases fl <;> exact h
    | error e =>
      obtain ⟨a, B, H', cls, d, e1, fl, z⟩ := h
      exact ⟨a, B, H', cls, d, e1, L2H.flyingZ_imp (fun _ => L2N.Zn.zc) fl, z⟩⟩
structure UseN (P : Program) (w : World) (K : PySem.W.Frag) (mg : Str → Option Value) (base : Heap) (x : Str) (ps : List Str) (k : Nat) (sp : Sp) where
  f : Addr
  fd : FuncData
  ok : FnOk P w K mg base (L2N.CX P w) k f fd ps sp
  m : mg x = some (.ref f)
  kp : PySem.W.keepIn K (.ref f) = true
  b : Binds K fd ps []
def UseN.up {x : Str} {ps : List Str} {j k : Nat} {sp : Sp} (U : UseN P w K mg base x ps j sp) (h : j ≤ k) : UseN P w K mg base x ps k sp := ⟨U.f, U.fd, U.ok.mono h, U.m, U.kp, U.b⟩
def UseN.x {x : Str} {ps : List Str} {k : Nat} {sp : Sp} (U : UseN P w K mg base x ps k sp) : UseX P w K mg base x ps k sp := ⟨U.f, U.fd, ok_ofN U.ok, U.m, U.kp, U.b⟩
end
section
variable {K : PySem.W.Frag} {Wx Wout : WX} {RE : REx}
/-- kept.n, the error known by its fields -/
@[reducible] def kfN (C0 : Addr) (n : Str) (T : TDE) : TDE := fun ρ M R => T ρ M fun x M1 => match x with | .x a C dd fs => (C = C0 ∧ M1 a = some (.exc C dd)) ∧ gO (fs.lookup n) fun y => R (.d y) M1 | _ => False
theorem se_kfN {C0 : Addr} {n : Str} {te : TE} {T : TDE} (h : SE K Wx RE te T) : SE K Wx RE (fun σ H Q => te σ H fun x H1 => ∃ (a dd : Addr) (fs : List (Str × V)) (v : V), x = .ref a ∧ H1 a = some (CgO (.ref C0) (some dd) a) ∧ H1 dd = some (.xd fs) ∧ fs.lookup n = some v ∧ Q v H1) (kfN C0 n T) := fun F H M σ ρ R Q hr hx hs ht k =>
  h F H M σ ρ _ _ hr hx hs ht fun v H1 F1 M1 x r1 g1 rx q1 => by
    cases x with
    | x a C dd fs =>
      obtain ⟨⟨rfl, h3⟩, h4⟩ := q1
      obtain ⟨y, h5, h6⟩ := gO_of h4
      cases rx with
      | x fx =>
        cases dd with
        | none =>
          have fx : fs = [] := fx
          rw [fx] at h5
          cases h5
        | some dd =>
          obtain ⟨fv, e1, e2, e3⟩ := fx
          obtain ⟨u, hu, du⟩ := dx_lookup e2 e3 h5
          obtain ⟨o, e4, e5⟩ := r1.at_ a _ h3
          exact ⟨a, dd, fv, u, rfl, by rw [e4]; exact congrArg some e5, r1.fh _ _ e1, hu, k _ H1 F1 M1 _ r1 g1 (.d du) h6⟩
    | d _ => exact q1.elim
    | r _ => exact q1.elim
    | o _ => exact q1.elim
end
end Tl
set_option Elab.async false
set_option linter.all false
set_option maxRecDepth 100000
set_option maxHeartbeats 4000000
/-! count and index of True in a list of truths; a held error's field, whatever its class. -/
set_option Elab.async false
set_option linter.all false
set_option maxRecDepth 100000
set_option maxHeartbeats 4000000
/-! sorted(xs) of data: the rule and its reading; the law's source made by a def that hands back [script, 0, 0, 0]. -/
namespace Tl
open PySem L2 PyProof.Rows
open PySem.W (alike alikeAll AllAlike dataLe dataLt SortsAt EachIs keyToks)
/-- values sorted as their data are -/
def byD (zs : List (V × PyData)) : List (V × PyData) := zs.mergeSort (dataLe false fun p => p.2)
def rSortedD (K : PySem.W.Frag) : List V → Hp → VK → Prop := fun vs H Q => ∃ (a : Addr) (zs : List (V × PyData)), vs = [.ref a] ∧ SqL K H a (zs.map (·.1)) ∧ DpAll K H (zs.map (·.1)) (zs.map (·.2)) ∧ SrtOk (zs.map (·.2)) ∧
  ∀ p : Addr, H p = none → Q (.ref p) (upd H p (.lst ((byD zs).map (·.1))))
theorem each_vals : ∀ {zs : List (V × PyData)} {us : List Value}, Vals (zs.map (·.1)) us → EachIs (fun v (z : V × PyData) => RelV z.1 v) us zs
  | [], _, h => by cases h; exact .nil
  | z :: zs, _, h => by cases h with | cons a b => exact .cons a (each_vals b)
theorem vals_each : ∀ {zs : List (V × PyData)} {us : List Value}, EachIs (fun v (z : V × PyData) => RelV z.1 v) us zs → Vals (zs.map (·.1)) us
  | [], _, h => by cases h; exact .nil
  | z :: zs, _, h => by cases h with | cons a b => exact .cons a (vals_each b)
theorem each_reads {X : Cx} {pins : List (Addr × Obj)} {σ : L2.St} {H : Hp} {s : Shared} (I : Inv X pins σ H s) : ∀ {zs : List (V × PyData)} {us : List Value}, Vals (zs.map (·.1)) us → DpAll X.K H (zs.map (·.1)) (zs.map (·.2)) → EachIs (fun v (z : V × PyData) => ∃ as, Reads s.heap v z.2 as) us zs
  | [], _, h, _ => by cases h; exact .nil
  | z :: zs, _, h, d => by
    cases h with
    | cons a b =>
      cases d with
      | cons d1 d2 => exact .cons (Dp.reads I _ _ _ d1 a) (each_reads I b d2)
theorem alike_all_nd {ds : List PyData} (h : AllAlike ds) : PyData.hasDictAll ds = false := by
  induction ds with
  | nil => rfl
  | cons d r ih =>
    rw [PyData.hasDictAll, alike_nd1 d (h d (List.mem_cons_self ..) d (List.mem_cons_self ..)), ih fun x hx y hy => h x (List.mem_cons_of_mem _ hx) y (List.mem_cons_of_mem _ hy)]
    rfl
theorem byD_len (zs : List (V × PyData)) : (byD zs).length = zs.length := List.length_mergeSort _
theorem cr_sortedD {X : Cx} (hu : X.A.units + 62 < cLine) : CallR X (.builtin "sorted") (rSortedD X.K) := by
  intro pins s σ H vs us Q I r h
  obtain ⟨a, zs, rfl, hs, hd, hk, q⟩ := h
  obtain ⟨its, rv, hl, hz⟩ := I.list hs
  rw [Vals.ref1 r]
  have er := each_reads I rv hd
  have er' : EachIs (fun v (z : V × PyData) => ∃ as, Reads (PySem.W.sortingHeap (PySem.W.copyHeap s.heap its) (s.heap.objs.size + 1) its) v z.2 as) its zs := er.mono fun _ _ ⟨as, r⟩ => ⟨as, PyProof.Rows.Reads.keeps (fun _ _ => PySem.W.sorting_copy_old) r⟩
  have hlen : its.length ≤ sizeLine := by rw [← rv.length]; exact hz
  refine PySem.W.sorted_vals hl.isList (sorts_any (s := { s with heap := PySem.W.sortingHeap (PySem.W.copyHeap s.heap its) (s.heap.objs.size + 1) its }) (PySem.W.each_map (R := fun v d => ∃ as, Reads (PySem.W.sortingHeap (PySem.W.copyHeap s.heap its) (s.heap.objs.size + 1) its) v d as) (fun z : V × PyData => z.2) er') hk (by show X.A.units + 2 + 60 < cLine; omega)) hlen ?_
  have eo := PySem.W.sortVals_data (h' := PySem.W.sortingHeap (PySem.W.copyHeap s.heap its) (s.heap.objs.size + 1) its) (enc := fun z : V × PyData => z.2) false (each_vals rv) er' hk.al
  generalize PySem.W.sortVals _ false its its = out at eo ⊢
  obtain ⟨ep, he'⟩ := PyProof.Rows.sortedAll_at s.heap its out.toArray
  refine ⟨.ref _, upd H (s.heap.objs.size + 1) (.lst ((byD zs).map (·.1))), I.laid (t' := s.toks) (fun _ _ => PyProof.Rows.sortedAll_old) (Nat.le_succ _) ⟨?_, out, ep, vals_each eo, he'⟩, rfl, q _ (I.hok.fresh (Nat.le_succ _))⟩
  rw [List.length_map, byD_len, ← List.length_map (f := (·.1)) (as := zs)]
  exact hz
section
variable {K : PySem.W.Frag} {Wx : WX} {RE : REx}
theorem DxL.zip {F : Hp} : ∀ {vs : List V} {ds : List PyData}, DxL K F vs ds → ∃ zs : List (V × PyData), zs.map (·.1) = vs ∧ zs.map (·.2) = ds ∧ ∀ z ∈ zs, Dx K F z.1 z.2
  | _, _, .nil => ⟨[], rfl, rfl, fun _ h => by cases h⟩
  | _, _, .cons (v := v) (d := d) a b => by
    obtain ⟨zs, h1, h2, h3⟩ := DxL.zip b
    refine ⟨(v, d) :: zs, by rw [List.map_cons, h1], by rw [List.map_cons, h2], fun z hz => ?_⟩
    rcases List.mem_cons.mp hz with e | e
    · rw [e]; exact a
    · exact h3 z e
theorem DxL.unzip {F : Hp} : ∀ {zs : List (V × PyData)}, (∀ z ∈ zs, Dx K F z.1 z.2) → DxL K F (zs.map (·.1)) (zs.map (·.2))
  | [], _ => .nil
  | z :: zs, h => .cons (h z (List.mem_cons_self ..)) (DxL.unzip fun y hy => h y (List.mem_cons_of_mem _ hy))
theorem byD_snd (zs : List (V × PyData)) : (byD zs).map (·.2) = srt (zs.map (·.2)) := List.map_mergeSort fun _ _ _ _ => rfl
/-- sorted(..), as data -/
@[reducible] def fSortedF1 : FL := fun xs M R => g1 xs fun x => gW M x fun ws => gDs ws fun ds => SrtOk ds ∧ R (.d (.list (srt ds))) M
theorem sc_sortedF : SC K (rSortedD K) fSortedF1 := fun F H M vs xs R Q hr rx hf k => by
  obtain ⟨x, rfl, h1⟩ := g1_of hf
  obtain ⟨v, rfl, r⟩ := rx.one
  obtain ⟨a, us, ws, rfl, h2, h3, h4⟩ := gW_of hr r h1
  obtain ⟨ds, rfl, h5, h6⟩ := gDs_of h4
  obtain ⟨zs, rfl, rfl, hz⟩ := h3.undat.zip
  refine ⟨a, zs, rfl, SqL.of h2, DxL.dp _ _ (DxL.mono hr.fh _ _ h3.undat) (alike_all_nd h5.al), h5, fun p hp => ?_⟩
  have h7 : DxL K F ((byD zs).map (·.1)) (srt (zs.map (·.2))) := by
    rw [← byD_snd]
    exact DxL.unzip fun z m => hz z ((List.mergeSort_perm _ _).mem_iff.mp m)
  obtain ⟨r2, g2, rz⟩ := hr.list hp h7
  exact k _ _ _ _ _ r2 g2 rz h6
end
theorem room62 {A : Around} {k : Nat} (hr : Room k A) : A.units + 62 < cLine := Nat.lt_of_le_of_lt (Nat.add_le_add_left (by decide : 62 ≤ 64) _) hr.units
end Tl
set_option Elab.async false
set_option linter.all false
set_option maxRecDepth 100000
set_option maxHeartbeats 4000000
/-! sorted(xs, key=len), xs tuples: stably by their lengths. -/
namespace Tl
open PySem L2 PyProof.Rows
open PySem.W (alike alikeAll AllAlike dataLe dataLt SortsAt EachIs keyToks KeyPure Sortable)
/-- a tuple's length, as a key -/
def kLen : PyData → PyData
  | .tuple ds => .int ds.length
  | _ => .int 0
theorem kLen_int (d : PyData) : ∃ i, kLen d = .int i := by
  unfold kLen
  split
  · exact ⟨_, rfl⟩
  · exact ⟨0, rfl⟩
def byLen (zs : List (V × PyData)) : List (V × PyData) := zs.mergeSort (dataLe false fun p => kLen p.2)
def rSortedLen (K : PySem.W.Frag) : List V → Hp → VK → Prop := fun vs H Q => ∃ (a : Addr) (zs : List (V × PyData)), vs = [.ref a] ∧ SqL K H a (zs.map (·.1)) ∧ (∀ z ∈ zs, ∃ p xs ds, z = (V.ref p, PyData.tuple ds) ∧ SqT K H p xs ∧ xs.length = ds.length) ∧
  ∀ p : Addr, H p = none → Q (.ref p) (upd H p (.lst ((byLen zs).map (·.1))))
theorem run_sortedLen {X : Cx} (hu : X.A.units + 62 < cLine) {pins : List (Addr × Obj)} {s : Shared} {σ : L2.St} {H : Hp} {vs : List V} {us : List Value} {Q : VK} (I : Inv X pins σ H s) (r : Vals vs us) (h : rSortedLen X.K vs H Q) :
    wpAny (model X.prog X.w) X.A (call (.builtin "sorted") us [(Str.ofString "key", .builtin "len")]) (EP X pins σ Q) X.xe s := by
  obtain ⟨a, zs, rfl, hs, hz, q⟩ := h
  obtain ⟨its, rv, hl, hsz⟩ := I.list hs
  rw [Vals.ref1 r]
  have hlen : zs.length ≤ sizeLine := by rw [List.length_map] at hsz; exact hsz
  refine PySem.W.sorted_key_data (b := false) (R := fun v (z : V × PyData) => RelV z.1 v) (bs := zs) (fun z => kLen z.2) hl.isList (each_vals rv) ?_ ?_ hlen (fun x hx => ?_) ?_ ?_ (fun x => PyProof.Rows.ksk_t4 "len" x) (fun v z rz hz2 h0 tk hk => ?_) fun out c h' tk hk hn ho hlen2 eo => ?_
  · intro x hx y hy
    obtain ⟨z, _, rfl⟩ := List.mem_map.mp hx
    obtain ⟨z2, _, rfl⟩ := List.mem_map.mp hy
    obtain ⟨i, e⟩ := kLen_int z.2
    obtain ⟨j, e2⟩ := kLen_int z2.2
    rw [e, e2]
    simp [alike]
  · refine .inr fun d hd => ?_
    obtain ⟨z, _, rfl⟩ := List.mem_map.mp hd
    obtain ⟨i, e⟩ := kLen_int z.2
    rw [e]
    exact ⟨(fun z => by cases z), fun xs z => by cases z⟩
  · obtain ⟨i, e⟩ := kLen_int x.2
    rw [e]
    show X.A.units + 2 + 0 < cLine
    omega
  · exact PyProof.Rows.ksk_s1 _ _
  · exact fun x => PyProof.Rows.ksk_l1 _ _
  · obtain ⟨p, xs, ds, rfl, ht, he⟩ := hz z hz2
    obtain ⟨ti, tv, pt, tz⟩ := I.tuple ht
    obtain rfl : v = Value.ref p := rz
    have hl2 := tv.length
    have hn := line63
    refine PyProof.Rows.len_tuple (s := { s with heap := h0, toks := tk }) (pt.keeps hk) (by simp only [List.size_toArray] <;> omega) ?_
    refine ⟨h0, _, rfl, fun _ _ e => e, ?_⟩
    show Reads h0 _ (.int (ds.length : Nat)) []
    rw [List.size_toArray, ← hl2, he]
    exact .int _ _
  · refine ⟨.ref _, upd H (s.heap.objs.size + 1) (.lst ((byLen zs).map (·.1))), I.laid (t' := tk) hk (Nat.le_succ _) ⟨?_, out, c, vals_each eo, ho⟩, rfl, q _ (I.hok.fresh (Nat.le_succ _))⟩
    rw [List.length_map, byLen, List.length_mergeSort]
    exact hlen
def tSortedLen (K : PySem.W.Frag) (t : TA) : TE := fun σ H Q => t σ H fun vs H1 => rSortedLen K vs H1 Q
theorem pe_sortedLen {X : Cx} {e : Expr} {t : TA} {p1 p2 kpos pos : Pos} (hu : X.A.units + 62 < cLine) (hg : Gl X "sorted") (hm : X.mg "sorted" = none) (hg2 : Gl X "len") (hm2 : X.mg "len" = none) (ha : PA X [e] t)
    (he : backTo pos (starEach [e] X.env) = (false, eval e X.env) :: backTo pos (starEach [] X.env) := by rfl) (hpl : (backTo pos (starEach [e] X.env)).any (·.1) = false := by rfl) :
    PE X (.Call (.Name "sorted" p1) [e] [⟨some "key", .Name "len" p2, kpos⟩] pos) (tSortedLen X.K t) := by
  refine ⟨fun pins s σ H Q I h => ?_⟩
  refine wpAny_Call_Name_kw (ld_blt I hg hm PyProof.Rows.boot_sorted ?_)
  refine PyProof.Rows.callWith_kw (thn (ha.run pos pins s σ H _ I h) fun us s1 ⟨vs, H1, I1, r1, q1⟩ => ?_) he hpl rfl rfl
  show wpAny _ _ (evalAll ((do let v ← eval (.Name "len" p2) X.env; standAt pos; pure v) :: [])) _ _ s1
  refine wpAny_evalAll_cons (wpAny_bind (ld_blt I1 hg2 hm2 PySem.boot_len (wpAny_bind (wpAny_standAt (wpAny_pure ?_)))))
  refine wpAny_evalAll_nil ?_
  exact run_sortedLen hu I1 r1 q1
/-- data sorted by their lengths, stably -/
def srtL (ds : List PyData) : List PyData := ds.mergeSort (dataLe false kLen)
theorem byLen_snd (zs : List (V × PyData)) : (byLen zs).map (·.2) = srtL (zs.map (·.2)) := by
  unfold byLen srtL
  exact List.map_mergeSort (f := fun z : V × PyData => z.2) (r := dataLe false fun p : V × PyData => kLen p.2) (s := dataLe false kLen) (fun a _ b _ => rfl)
section
variable {K : PySem.W.Frag} {Wx : WX} {RE : REx}
theorem tup_zs {F H : Hp} (h : Same F H) {zs : List (V × PyData)} (hz : ∀ z ∈ zs, Dx K F z.1 z.2) (ht : ∀ d ∈ zs.map (·.2), ∃ xs, d = .tuple xs) : ∀ z ∈ zs, ∃ p xs ds, z = (V.ref p, PyData.tuple ds) ∧ SqT K H p xs ∧ xs.length = ds.length := fun z hm => by
  obtain ⟨v, d⟩ := z
  obtain ⟨ds, rfl⟩ := ht d (List.mem_map.mpr ⟨_, hm, rfl⟩)
  have := hz _ hm
  cases this with
  | tup h1 h2 => exact ⟨_, _, ds, rfl, same_t h h1, h2.len⟩
/-- sorted(xs, key=len): a new list -/
@[reducible] def fSortedL : FL := fun xs M R => g1 xs fun x => gW M x fun ws => gDs ws fun ds => (∀ d ∈ ds, ∃ xs, d = .tuple xs) ∧ ∀ p, M p = none → R (.r p) (mset M p (.lst ((srtL ds).map W.d)))
theorem sc_sortedL : SC K (rSortedLen K) fSortedL := fun F H M vs xs R Q hr rx hf k => by
  obtain ⟨x, rfl, h1⟩ := g1_of hf
  obtain ⟨v, rfl, r⟩ := rx.one
  obtain ⟨a, us, ws, rfl, h2, h3, h4⟩ := gW_of hr r h1
  obtain ⟨ds, rfl, h5, h6⟩ := gDs_of h4
  obtain ⟨zs, rfl, rfl, hz⟩ := h3.undat.zip
  refine ⟨a, zs, rfl, SqL.of h2, tup_zs hr.fh hz h5, fun p hp => ?_⟩
  have h7 : RWs K F ((byLen zs).map (·.1)) ((srtL (zs.map (·.2))).map W.d) := by
    rw [← byLen_snd]
    exact .dat (DxL.unzip fun z m => hz z ((List.mergeSort_perm _ _).mem_iff.mp m))
  obtain ⟨r2, g2⟩ := hr.born (u := .lst ((byLen zs).map (·.1))) (o := .lst ((srtL (zs.map (·.2))).map W.d)) hp ⟨_, rfl, h7⟩
  exact k _ _ _ _ _ r2 g2 (.r p) (h6 p (hr.new hp))
end
end Tl
set_option Elab.async false
set_option linter.all false
set_option maxRecDepth 100000
set_option maxHeartbeats 4000000
/-! A lambda made by a def: what stands behind its making; a lambda of one name called on a tuple, at the heap alone. -/
namespace Tl
open PySem PySem.Spec L2 PyProof.Rows
open PySem.W (KeyPure)
/-- the table at P has a code object more, or none -/
def TabStep (H : Hp) (P : Addr) (q : Str) (H1 : Hp) : Prop := H1 = H ∨ ∃ (ps more : Array Value) (b : Addr), H P = some (.tbl ps) ∧ H b = none ∧ TriplesOk (ps ++ more).toList ∧
  (∀ (z : Pos) (x : Value), codeAmong z (ps ++ more).toList = some x → codeAmong z ps.toList = some x ∨ x = .ref b) ∧ H1 = upd (upd H P (.tbl (ps ++ more))) b (LamX.CodeO b q)
theorem TabStep.ext {H H1 : Hp} {P : Addr} {q : Str} (t : TabStep H P q H1) {a : Addr} {u : HO} (h : H a = some u) (n : ∀ ps, u ≠ .tbl ps) : H1 a = some u := by
  rcases t with rfl | ⟨ps, more, b, h1, h2, _, _, rfl⟩
  · exact h
  · rw [upd_ne (ne_of_none h h2), upd_ne (fun z => n ps (Option.some.inj (h.symm.trans (by rw [z]; exact h1))))]
    exact h
theorem TabStep.none {H H1 : Hp} {P : Addr} {q : Str} (t : TabStep H P q H1) {a : Addr} (h : H1 a = none) : H a = none := by
  rcases t with rfl | ⟨ps, more, b, h1, h2, _, _, rfl⟩
  · exact h
  · by_cases e : a = b
    · rw [e]; exact h2
    · rw [upd_ne e] at h
      by_cases e2 : a = P
      · rw [e2, upd_same] at h; cases h
      · rw [upd_ne e2] at h; exact h
theorem TabStep.sqL {K : PySem.W.Frag} {H H1 : Hp} {P : Addr} {q : Str} (t : TabStep H P q H1) {a : Addr} {xs : List V} (h : SqL K H a xs) : SqL K H1 a xs := by
  rcases h with h | h
  · rcases h with h | ⟨o, h⟩
    · exact .inl (.inl (t.ext h fun ps z => by cases z))
    · exact .inl (.inr ⟨o, t.ext h fun ps z => by cases z⟩)
  · exact .inr h
section
variable {X : Cx} {pins : List (Addr × Obj)} {σ : L2.St} {H : Hp} {s : Shared}
/-- the lambda is made -/
theorem lam_make3 {c P : Addr} {q : Str} {params : Arguments} {body : Expr} {scope : Scope} {pos : Pos} {E : Value → Shared → Prop} {Q : Value → Shared → Prop} (I : Inv X pins σ H s) (TB : LamX.TabB X.base X.mg c P) (cd : X.env.code = .ref c) (eq : X.env.qual ++ "<lambda>" = q)
    (hT : LamX.TabS H P q) (df : defaultsOf params X.env = ([], [])) (fr : ∀ y ∈ scope.names, y.2 = .free → ∃ c, X.env.cells.lookup y.1 = some c)
    (go : ∀ (f b : Addr) (pm ctv : Value) (H1 : Hp) (s1 : Shared), Inv X pins σ H1 s1 → TabStep H P q H1 → s1.heap.get? f = some (PySem.W.kla_obj "<lambda>" q params body scope (cloFrom X.env.cells scope.names []) pm b ctv) → H1 f = none → f ∉ frs X.stack → H1 b = some (LamX.CodeO b q) → Q (.ref f) s1) :
    wpAny (model X.prog X.w) X.A (eval (.Lambda params body scope pos) X.env) Q E s := by
  subst eq
  obtain ⟨ps, e1, ht, ha⟩ := hT
  have fl : ∀ f, s.heap.objs.size ≤ f → f ∉ frs X.stack := fun f hf z => by
    rcases List.mem_cons.mp (I.stkSub f z) with e | e
    · rw [e] at hf; exact absurd I.lt (Nat.not_lt.mpr hf)
    · exact absurd e (I.nofs hf)
  have hP : s.heap.get? P = some { cls := .none, data := .fields ps } := I.hok P _ e1
  have bm := TB.bm.keeps I.bk
  refine PySem.W.kla_eval df ?_
  rcases hc : codeAmong pos ps.toList with _ | cv
  · refine PySem.W.kla_makeFunction (mg := X.mg) (c := c) (P := P) (ps := ps) (closure_ok fr) I.ok.glob (I.mod.glob.keeps I.bk) cd (TB.code.keeps I.bk) hP ht hc TB.gP bm fun b ctv g tk hx hge hlt hrec htb => ?_
    obtain ⟨b2, oc, vs, t, eb, hoc, hd, hv⟩ := hrec
    cases eb
    have nb : H b = none := I.hok.fresh hge
    have z0 : s.heap.objs.size ≤ g.objs.size := Nat.le_trans hge (Nat.le_of_lt hlt)
    have J := LamX.inv_table (t' := tk) (more := #[rawInt pos.line, rawInt pos.col, .ref b]) (h' := g.push (PySem.W.kla_obj "<lambda>" (X.env.qual ++ "<lambda>") params body scope (cloFrom X.env.cells scope.names []) ((X.mg "__name__").getD .none) b ctv)) I e1
      (fun a o ne e => Heap.get?_push_of_some _ (hx a o ne e)) (Heap.get?_push_of_some _ htb) hge ⟨oc, vs, t, Heap.get?_push_of_some _ hoc, hd, hv⟩
    have eL : (ps ++ #[rawInt pos.line, rawInt pos.col, .ref b]).toList = ps.toList ++ [rawInt pos.line, rawInt pos.col, .ref b] := by simp
    refine go g.objs.size b _ ctv _ _ J (.inr ⟨ps, _, b, e1, nb, by rw [eL]; exact PySem.TriplesOk_snoc _ _ _ _ ht, fun z x hz => ?_, rfl⟩) (Heap.get?_push_size _ rfl) ?_ (fl _ z0) upd_same
    · rw [eL] at hz
      exact LamX.among_app _ ht hz
    · rw [upd_ne (Nat.ne_of_gt hlt), upd_ne (Nat.ne_of_gt (Nat.lt_of_lt_of_le (Heap.lt_size hP) z0))]
      exact I.hok.fresh z0
  · obtain ⟨b, rfl, hco⟩ := ha pos cv hc
    refine PySem.W.kla_makeFunctionHit (mg := X.mg) (c := c) (P := P) (ps := ps) (closure_ok fr) I.ok.glob (I.mod.glob.keeps I.bk) cd (TB.code.keeps I.bk) hP ht hc bm fun ctv g tk hx z0 => ?_
    exact go g.objs.size b _ ctv H _ (I.kept fun a o e => Heap.get?_push_of_some _ (hx a o e)) (.inl rfl) (Heap.get?_push_size _ rfl) (I.hok.fresh z0) (fl _ z0) hco
end
section
variable {prog : Program} {w : World} {A : Around} {s : Shared}
/-- a lambda of one name called: its body run in its own frame -/
theorem lam_call1 {f b : Addr} {q x : Str} {params : Arguments} {body : Expr} {scope : Scope} {pm ctv v : Value} {R : Value → Shared → Prop} (hroom : A.depth < recursionLimit) (ho : s.heap.get? f = some (PySem.W.kla_obj "<lambda>" q params body scope [] pm b ctv)) (hc : s.heap.CodeRec (.ref b) q) (nl : s.heap.NoLimit)
    (hk : scope.kind = .function) (hco : scope.isCoroutine = false) (hgen : scope.isGenerator = false) (hl : scope.names.lookup x = some .local) (hn : ∀ y ∈ scope.names, y.2 ≠ .cell)
    (hb : bindArgs (PySem.W.kla_fn "<lambda>" q params body scope [] pm (.ref b) ctv) ⟨[v], []⟩ = pure [(x, v)])
    (go : ∀ (g : Heap) (tk : Nat), (∀ a o, s.heap.get? a = some o → g.get? a = some o) → g.Ns s.heap.objs.size (fun y => [(x, v)].reverse.lookup y) →
      wpAny (model prog w) (A.deeper (PySem.W.envX q scope s.heap.objs.size f (.ref b) [])) (eval body (PySem.W.envX q scope s.heap.objs.size f (.ref b) [])) R (fun _ _ => False) { s with heap := g, toks := tk }) :
    wpAny (model prog w) A (call (.ref f) [v]) R (fun _ _ => False) s := by
  refine wpAny_call ?_
  refine PySem.W.kla_callFunE hroom ho rfl hco hgen rfl hc ?_
  rw [hb]
  refine wpAny_pure (wpAny_newFunctionEnv hn (fun y hy => ?_) (fun g hns hsb => ⟨nl.fresh _ hsb, ?_⟩) hk)
  · rcases List.mem_cons.mp hy with e | e
    · rw [e]; exact hl
    · cases e
  · refine PySem.W.kla_codeExpr (wpAny_mono (go g _ (fun a o e => hsb.extBut a o (Nat.ne_of_lt (Heap.lt_size e)) (Heap.get?_push_of_some _ e)) hns) (fun u s2 h => h) fun _ _ h => h.elim)
end
end Tl
set_option Elab.async false
set_option linter.all false
set_option maxRecDepth 100000
set_option maxHeartbeats 4000000
/-! Two lambdas over pairs (number, path): p[1] + (i,) and (len(p[1]), p[1]). -/
namespace Tl
open PySem PySem.Spec L2 PyProof.Rows
open PySem.W (KeyPure)
mutual
theorem reads_nil {h : Heap} : ∀ (d : PyData) (v : Value) (as : List Addr), Reads h v d as → keyOk d = true → as = []
  | .int _, _, _, r, _ => by cases r; rfl
  | .tuple ds, _, _, r, k => by
    cases r with
    | tuple _ _ _ r => exact readsAll_nil ds _ _ r (by rw [keyOk] at k; exact k)
  | .none, _, _, _, k => by simp [keyOk] at k
  | .bool _, _, _, _, k => by simp [keyOk] at k
  | .str _, _, _, _, k => by simp [keyOk] at k
  | .list _, _, _, _, k => by simp [keyOk] at k
  | .dict _, _, _, _, k => by simp [keyOk] at k
theorem readsAll_nil {h : Heap} : ∀ (ds : List PyData) (vs : List Value) (as : List Addr), ReadsAll h vs ds as → keyOks ds = true → as = []
  | [], _, _, r, _ => by cases r; rfl
  | d :: ds, _, _, r, k => by
    rw [keyOks, Bool.and_eq_true] at k
    cases r with
    | cons a b =>
      rw [reads_nil d _ _ a k.1, readsAll_nil ds _ _ b k.2]
      rfl
end
mutual
theorem key_nd : ∀ d : PyData, keyOk d = true → d.hasDict = false
  | .int _, _ => rfl
  | .tuple ds, k => by
    rw [PyData.hasDict]
    exact key_nds ds (by rw [keyOk] at k; exact k)
  | .none, _ => rfl
  | .bool _, _ => rfl
  | .str _, _ => rfl
  | .list _, k => by simp [keyOk] at k
  | .dict _, k => by simp [keyOk] at k
theorem key_nds : ∀ ds : List PyData, keyOks ds = true → PyData.hasDictAll ds = false
  | [], _ => rfl
  | d :: ds, k => by
    rw [keyOks, Bool.and_eq_true] at k
    rw [PyData.hasDictAll, key_nd d k.1, key_nds ds k.2]
    rfl
end
theorem readsAll_app {h : Heap} : ∀ {vs ws : List Value} {ds es : List PyData} {bs : List Addr}, ReadsAll h vs ds [] → ReadsAll h ws es bs → ReadsAll h (vs ++ ws) (ds ++ es) bs
  | [], _, _, _, _, r, q => by cases r; exact q
  | v :: vs, ws, _, es, bs, r, q => by
    generalize e0 : ([] : List Addr) = as at r
    cases r with
    | cons a b =>
      obtain ⟨h1, h2⟩ := List.append_eq_nil_iff.mp e0.symm
      subst h1
      subst h2
      exact ReadsAll.cons (as := []) a (readsAll_app b q)
theorem readsAll_len {h : Heap} : ∀ {vs : List Value} {ds : List PyData} {as : List Addr}, ReadsAll h vs ds as → vs.length = ds.length
  | [], _, _, r => by cases r; rfl
  | v :: vs, _, _, r => by
    cases r with
    | cons a b => rw [List.length_cons, List.length_cons, readsAll_len b]
/-- the pair (number, path) and what its path holds -/
structure PairAt (h : Heap) (v : Value) (ds : List PyData) : Prop where
  ex : ∃ (a c : Addr) (n : Value) (its : List Value), v = .ref a ∧ IsTup h a [n, .ref c].toArray ∧ IsTup h c its.toArray ∧ ReadsAll h its ds []
theorem isTup_keep {h g : Heap} (k : ∀ a o, h.get? a = some o → g.get? a = some o) {a : Addr} {xs : Array Value} (t : IsTup h a xs) : IsTup g a xs := by
  obtain ⟨o, h1, h2, n, h3⟩ := t
  exact ⟨o, k _ _ h1, h2, n, h3⟩
theorem PairAt.keep {h g : Heap} (k : ∀ a o, h.get? a = some o → g.get? a = some o) {v : Value} {ds : List PyData} (p : PairAt h v ds) : PairAt g v ds := by
  obtain ⟨a, c, n, its, h1, h2, h3, h4⟩ := p.ex
  exact ⟨a, c, n, its, h1, isTup_keep k h2, isTup_keep k h3, PyProof.Rows.ReadsAll.keeps k h4⟩
theorem pair_of {h : Heap} {v : Value} {e : PyData} {ds : List PyData} {as : List Addr} (r : Reads h v (.tuple [e, .tuple ds]) as) (k : keyOk (.tuple [e, .tuple ds]) = true) : PairAt h v ds := by
  have k2 : keyOks ds = true := by
    rw [keyOk, keyOks, keyOks, keyOk, Bool.and_eq_true, Bool.and_eq_true] at k
    exact k.2.1
  cases r with
  | tuple h1 h2 h3 h4 =>
    rename_i a o vs n
    generalize e0 : vs.toList = l at h4
    cases h4 with
    | cons r1 r2 =>
      cases r2 with
      | cons r2 r3 =>
        cases r3
        cases r2 with
        | tuple g1 g2 g3 g4 =>
          have z := readsAll_nil ds _ _ g4 k2
          subst z
          rename_i v1 va a2 o2 vs2 n2
          refine ⟨⟨a, a2, v1, vs2.toList, rfl, ⟨o, h1, h2, n, ?_⟩, ⟨o2, g1, g2, n2, ?_⟩, g4⟩⟩
          · rw [h3, ← e0]
          · rw [g3]
section
variable {prog : Program} {w : World} {A : Around} {S : Shared} {env : Env} {x : Str} {v : Value} {Q : Value → Shared → Prop} {E : Value → Shared → Prop}
/-- x[1] of a pair -/
theorem ev_p1 {a c : Addr} {n : Value} {p1 p2 p3 : Pos} {j : Nat} (hk : env.scope.kind = .function) (hl : env.kindOf x = some .local) (hn : S.heap.Ns env.locals (fun y => [(x, v)].reverse.lookup y)) (hv : v = .ref a) (ht : IsTup S.heap a [n, .ref c].toArray)
    (go : ∀ t, Q (.ref c) { S with toks := t }) (hd : (x == ("__debug__" : Str)) = false := by decide) : wpAny (model prog w) A (eval (.Subscript (.Name x p1) (.Constant (.int 1) j p2) p3) env) Q E S := by
  subst hv
  refine Subscript_ (wpAny_Name (wpAny_loadName_local hk hl hn (v := .ref a) (by simp) (wpAny_Constant_int ?_)) hd)
  exact item_tupleL (j := 1) (s := { S with toks := S.toks + 1 }) ht (by decide) (by decide) (by rfl) (by rfl) (go _)
end
section
variable {prog : Program} {w : World} {A : Around} {s0 : Shared} {g : Heap} {tk : Nat} {env : Env} {x : Str} {v : Value} {E : Value → Shared → Prop}
/-- x[1] + (i,) -/
theorem ev_keyB {ds : List PyData} {i : Int} {p1 p2 p3 p4 p5 p6 : Pos} {j j2 k : Nat} (kp : ∀ a o, s0.heap.get? a = some o → g.get? a = some o) (hk : env.scope.kind = .function) (hl : env.kindOf x = some .local) (hn : g.Ns env.locals (fun y => [(x, v)].reverse.lookup y))
    (p : PairAt g v ds) (hz : ds.length < 1000) (hd : (x == ("__debug__" : Str)) = false := by decide) :
    wpAny (model prog w) A (eval (.BinOp (.Subscript (.Name x p1) (.Constant (.int 1) j p2) p3) .Add (.Tuple [.Constant (.int i) j2 p4] k p5) p6) env) (KeyPure (.tuple (ds ++ [.int i])) s0) E { s0 with heap := g, toks := tk } := by
  obtain ⟨a, c, n, its, rfl, h2, h3, h4⟩ := p.ex
  have hl4 := readsAll_len h4
  refine wpAny_BinOp (ev_p1 (S := { s0 with heap := g, toks := tk }) (a := a) (c := c) (n := n) hk hl hn rfl h2 (fun t => ?_) hd)
  refine wpAny_Tuple_spliced ?_
  show wpAny _ _ (spliced ((false, eval (.Constant (.int i) j2 p4) env) :: [])) _ _ _
  refine Calls.spliced_cons (wpAny_Constant_int (Calls.spliced_nil ⟨by rw [sizeLine_eq]; simp, ?_⟩))
  have nw : IsTup (g.push { cls := .type "tuple", data := .seq [Value.int i t].toArray }) g.objs.size [Value.int i t].toArray := IsTup.new _ _
  have up : ∀ b o, g.get? b = some o → (g.push { cls := .type "tuple", data := .seq [Value.int i t].toArray }).get? b = some o := fun b o e => Heap.get?_push_of_some _ e
  by_cases hi : its = []
  · subst hi
    refine cat_tup0 (ws := [Value.int i t]) (isTup_keep up h3) nw ⟨_, _, rfl, fun b o e => up b o (kp b o e), ?_⟩
    have e0 : ds = [] := List.length_eq_zero_iff.mp (by rw [← hl4]; rfl)
    subst e0
    obtain ⟨o, e1, e2, m, e3⟩ := nw
    exact Reads.tuple e1 e2 e3 (.cons (as := []) (.int i t) .nil)
  · refine HT.cat_tup (isTup_keep up h3) nw hi (fun z => by cases z) (fun _ => ⟨_, _, rfl, fun b o e => Heap.get?_push_of_some _ (up b o (kp b o e)), ?_⟩) (by rw [sizeLine_eq, hl4]; simp; omega)
    refine Reads.tuple (n := 0) (Heap.get?_push_size _ rfl) rfl rfl ?_
    rw [List.toList_toArray]
    exact readsAll_app (PyProof.Rows.ReadsAll.keeps (fun b o e => Heap.get?_push_of_some _ (up b o e)) h4) (.cons (as := []) (.int i t) .nil)
/-- (len(x[1]), x[1]) -/
theorem ev_keyL {mg mb : Str → Option Value} {ds : List PyData} {p1 p2 p3 p4 p5 p6 p7 p8 p9 : Pos} {j j2 k : Nat} (kp : ∀ a o, s0.heap.get? a = some o → g.get? a = some o) (hk : env.scope.kind = .function) (hl : env.kindOf x = some .local) (hn : g.Ns env.locals (fun y => [(x, v)].reverse.lookup y))
    (hg : env.kindOf "len" = some .globalImplicit) (hgl : g.Ns env.globals mg) (hm : mg "len" = none) (hb : g.Ns env.builtins mb) (hmb : mb "len" = some (.builtin "len"))
    (p : PairAt g v ds) (hz : ds.length < 1000) (hd : (x == ("__debug__" : Str)) = false := by decide) :
    wpAny (model prog w) A (eval (.Tuple [.Call (.Name "len" p1) [.Subscript (.Name x p2) (.Constant (.int 1) j p3) p4] [] p5, .Subscript (.Name x p6) (.Constant (.int 1) j2 p7) p8] k p9) env) (KeyPure (.tuple [.int ds.length, .tuple ds]) s0) E { s0 with heap := g, toks := tk } := by
  obtain ⟨a, c, n, its, rfl, h2, h3, h4⟩ := p.ex
  have hl4 := readsAll_len h4
  have ln := line63
  refine wpAny_Tuple_spliced ?_
  show wpAny _ _ (spliced ((false, eval (.Call (.Name "len" p1) [.Subscript (.Name x p2) (.Constant (.int 1) j p3) p4] [] p5) env) :: (false, eval (.Subscript (.Name x p6) (.Constant (.int 1) j2 p7) p8) env) :: [])) _ _ _
  refine Calls.spliced_cons (wpAny_Call_Name_kw (Calls.Name_function_global hk hg (Calls.loadGlobal_builtin (s := { s0 with heap := g, toks := tk }) hgl hm hb hmb (PyProof.Rows.callWith_builtin1 ?_))))
  show wpAny _ _ (spliced ((false, eval (.Subscript (.Name x p2) (.Constant (.int 1) j p3) p4) env) :: [])) _ _ _
  refine Calls.spliced_cons (ev_p1 (S := { s0 with heap := g, toks := tk }) (a := a) (c := c) (n := n) hk hl hn rfl h2 (fun t => Calls.spliced_nil ?_) hd)
  refine PyProof.Rows.len_tuple (s := { s0 with heap := g, toks := t }) h3 (by simp only [List.size_toArray]; omega) ?_
  refine Calls.spliced_cons (ev_p1 (S := { s0 with heap := g, toks := t + 1 + 1 }) (a := a) (c := c) (n := n) hk hl hn rfl h2 (fun t2 => Calls.spliced_nil ⟨by rw [sizeLine_eq]; simp, ?_⟩) hd)
  refine ⟨_, _, rfl, fun b o e => Heap.get?_push_of_some _ (kp b o e), ?_⟩
  obtain ⟨o3, e1, e2, m, e3⟩ := h3
  refine Reads.tuple (n := 0) (as := []) (Heap.get?_push_size _ rfl) rfl rfl ?_
  rw [List.toList_toArray]
  refine .cons (as := []) (bs := []) ?_ (.cons (as := []) (bs := []) (Reads.tuple (Heap.get?_push_of_some _ e1) e2 e3 ?_) .nil)
  · rw [List.size_toArray, hl4]
    exact .int _ _
  · exact PyProof.Rows.ReadsAll.keeps (fun b o e => Heap.get?_push_of_some _ e) h4
end
end Tl
set_option Elab.async false
set_option linter.all false
set_option maxRecDepth 100000
set_option maxHeartbeats 4000000
/-! sorted(xs, key=lambda p: ..), xs pairs (number, path). -/
namespace Tl
open PySem PySem.Spec L2 PyProof.Rows
open PySem.W (KeyPure AllAlike Sortable dataLe dataLt SortsAt EachIs keyToks)
theorem TabStep.sqT {K : PySem.W.Frag} {H H1 : Hp} {P : Addr} {q : Str} (t : TabStep H P q H1) {a : Addr} {xs : List V} (h : SqT K H a xs) : SqT K H1 a xs := by
  rcases h with h | h
  · rcases h with h | ⟨o, h⟩
    · exact .inl (.inl (t.ext h fun ps z => by cases z))
    · exact .inl (.inr ⟨o, t.ext h fun ps z => by cases z⟩)
  · exact .inr h
mutual
theorem TabStep.dp {K : PySem.W.Frag} {H H1 : Hp} {P : Addr} {q : Str} (t : TabStep H P q H1) : ∀ (d : PyData) (v : V), Dp K H v d → Dp K H1 v d
  | .none, _, h => by cases h; exact .non
  | .bool b, _, h => by cases h; exact .bl b
  | .int i, _, h => by cases h; exact .int i
  | .str x, _, h => by cases h; exact .str x
  | .list ds, _, h => by
    cases h with
    | lst hs ha => exact .lst (t.sqL hs) (TabStep.dps t ds _ ha)
  | .tuple ds, _, h => by
    cases h with
    | tup hs ha => exact .tup (t.sqT hs) (TabStep.dps t ds _ ha)
  | .dict _, _, h => by cases h
theorem TabStep.dps {K : PySem.W.Frag} {H H1 : Hp} {P : Addr} {q : Str} (t : TabStep H P q H1) : ∀ (ds : List PyData) (vs : List V), DpAll K H vs ds → DpAll K H1 vs ds
  | [], _, h => by cases h; exact .nil
  | d :: ds, _, h => by
    cases h with
    | cons h1 h2 => exact .cons (TabStep.dp t d _ h1) (TabStep.dps t ds _ h2)
end
/-- a pair of a number and a path -/
def KOk (d : PyData) : Prop := ∃ (e : PyData) (q : List Nat), d = .tuple [e, pathD q] ∧ keyOk d = true ∧ q.length < 50
/-- what the lambda's body gives of such a pair -/
def KeyEv (prog : Program) (w : World) (mg : Str → Option Value) (body : Expr) (scope : Scope) (x : Str) (key : PyData → PyData) : Prop :=
  ∀ (A : Around) (s0 : Shared) (g : Heap) (tk : Nat) (q : Str) (L f : Addr) (cd v : Value) (d : PyData) (as : List Addr), (∀ a o, s0.heap.get? a = some o → g.get? a = some o) → g.Ns L (fun y => [(x, v)].reverse.lookup y) →
    g.Ns mainGlobals mg → (∃ mb, g.Ns builtinsNs mb ∧ mb "len" = some (.builtin "len")) → Reads g v d as → KOk d →
    wpAny (model prog w) A (eval body (PySem.W.envX q scope L f cd [])) (KeyPure (key d) s0) (fun _ _ => False) { s0 with heap := g, toks := tk }
/-- stably, by a key -/
def byK (key : PyData → PyData) (zs : List (V × PyData)) : List (V × PyData) := zs.mergeSort (dataLe false fun p => key p.2)
def rSortedK (K : PySem.W.Frag) (P : Addr) (q : Str) (key : PyData → PyData) : List V → Hp → VK → Prop := fun vs H Q => ∃ (a : Addr) (zs : List (V × PyData)), vs = [.ref a] ∧ SqL K H a (zs.map (·.1)) ∧ DpAll K H (zs.map (·.1)) (zs.map (·.2)) ∧ (∀ z ∈ zs, KOk z.2) ∧ LamX.TabS H P q ∧
  ∀ H1 : Hp, TabStep H P q H1 → ∀ p : Addr, H1 p = none → Q (.ref p) (upd H1 p (.lst ((byK key zs).map (·.1))))
/-- keys of pairs: tuples of numbers, alike -/
structure KeyFn (key : PyData → PyData) : Prop where
  al : ∀ d e, KOk d → KOk e → PySem.W.alike (key d) (key e) = true
  tp : ∀ d, KOk d → ∃ x r, key d = .tuple (x :: r)
  dp : ∀ d, KOk d → (key d).depth ≤ 60
/-- what is asked of a lambda's names -/
structure LamN (x : Str) (scope : Scope) : Prop where
  kind : scope.kind = .function
  co : scope.isCoroutine = false
  gen : scope.isGenerator = false
  loc : scope.names.lookup x = some .local
  cel : ∀ y ∈ scope.names, y.2 ≠ .cell
  fre : ∀ y ∈ scope.names, y.2 ≠ .free
theorem cloFrom_nil {cells : List (Str × Addr)} : ∀ {names : List (Str × NameKind)} {acc : List (Str × Addr)}, (∀ y ∈ names, y.2 ≠ .free) → cloFrom cells names acc = acc
  | [], _, _ => rfl
  | y :: r, acc, h => by
    have h1 := h y (List.mem_cons_self ..)
    have ih := cloFrom_nil (cells := cells) (names := r) (acc := acc) fun z hz => h z (List.mem_cons_of_mem _ hz)
    obtain ⟨n, k⟩ := y
    cases k <;> first | exact absurd rfl h1 | (unfold cloFrom; exact ih) | (simp only [cloFrom]; exact ih)
theorem run_sortedK {X : Cx} (hu : X.A.units + 62 < cLine) (hdp : X.A.depth < recursionLimit) {pins : List (Addr × Obj)} {s : Shared} {σ : L2.St} {H : Hp} {a f b : Addr} {q x : Str} {zs : List (V × PyData)} {v : Value} {params : Arguments} {body : Expr} {scope : Scope} {pm ctv : Value} {key : PyData → PyData} {Q : VK}
    (I : Inv X pins σ H s) (hv : v = .ref a) (hs : SqL X.K H a (zs.map (·.1))) (hd : DpAll X.K H (zs.map (·.1)) (zs.map (·.2))) (hz : ∀ z ∈ zs, KOk z.2) (kf : KeyFn key) (L : LamN x scope)
    (ho : s.heap.get? f = some (PySem.W.kla_obj "<lambda>" q params body scope [] pm b ctv)) (hb : H b = some (LamX.CodeO b q)) (hm : X.mg "len" = none)
    (bd : ∀ v, bindArgs (PySem.W.kla_fn "<lambda>" q params body scope [] pm (.ref b) ctv) ⟨[v], []⟩ = pure [(x, v)]) (ev : KeyEv X.prog X.w X.mg body scope x key)
    (go : ∀ p : Addr, H p = none → Q (.ref p) (upd H p (.lst ((byK key zs).map (·.1))))) :
    wpAny (model X.prog X.w) X.A (call (.builtin "sorted") [v] [(Str.ofString "key", .ref f)]) (EP X pins σ Q) X.xe s := by
  subst hv
  obtain ⟨its, rv, hl, hsz⟩ := I.list hs
  have hlen : zs.length ≤ sizeLine := by rw [List.length_map] at hsz; exact hsz
  have er := each_reads I rv hd
  have ez : EachIs (fun v (z : V × PyData) => RelV z.1 v ∧ ∃ as, Reads s.heap v z.2 as) its zs := by
    have e1 := each_vals rv
    clear hl hs hd hz go hsz hlen rv
    induction e1 with
    | nil => exact .nil
    | cons h1 h2 ih => cases er with | cons r1 r2 => exact .cons ⟨h1, r1⟩ (ih r2)
  refine PySem.W.sorted_key_data (b := false) (R := fun v (z : V × PyData) => RelV z.1 v ∧ ∃ as, Reads s.heap v z.2 as) (bs := zs) (fun z => key z.2) hl.isList ez ?_ ?_ hlen (fun z hx => ?_) ?_ ?_ (fun y => PyProof.Rows.ksk_t1 f y) (fun v z rz hz2 h0 tk hk => ?_) fun out c h' tk hk hn ho hlen2 eo => ?_
  · intro y hy y2 hy2
    obtain ⟨z, m1, rfl⟩ := List.mem_map.mp hy
    obtain ⟨z2, m2, rfl⟩ := List.mem_map.mp hy2
    exact kf.al _ _ (hz z m1) (hz z2 m2)
  · refine .inl fun d hd => ?_
    obtain ⟨z, m1, rfl⟩ := List.mem_map.mp hd
    exact kf.tp _ (hz z m1)
  · have := kf.dp _ (hz z hx)
    show X.A.units + 2 + _ < cLine
    omega
  · exact PyProof.Rows.ksk_s1 _ _
  · exact fun x => PyProof.Rows.ksk_l1 _ _
  · obtain ⟨h1, as, h2⟩ := rz
    obtain ⟨⟨oc, us, t, e1, e2, e3⟩, _, _⟩ := I.hok b _ hb
    obtain ⟨mb, b1, b2⟩ := I.mod.blt
    have nl : h0.NoLimit := I.nolimit.keeps hk
    refine lam_call1 (s := { s with heap := h0, toks := tk }) hdp (hk _ _ ho) ⟨b, oc, us, t, rfl, hk _ _ e1, e2, e3⟩ nl L.kind L.co L.gen L.loc L.cel (bd v) fun g tk2 kg hns => ?_
    have up : ∀ c o, X.base.get? c = some o → g.get? c = some o := fun c o e => kg _ _ (hk _ _ (I.bk c o e))
    exact ev _ { s with heap := h0, toks := tk } g tk2 _ _ _ _ v z.2 as kg hns (I.mod.glob.keeps up) ⟨mb, b1.keeps up, (b2 "len" (by decide)).trans PySem.boot_len⟩ (Reads.keeps (fun c o e => kg _ _ (hk c o e)) h2) (hz z hz2)
  · refine ⟨.ref _, upd H (s.heap.objs.size + 1) (.lst ((byK key zs).map (·.1))), I.laid (t' := tk) hk (Nat.le_succ _) ⟨?_, out, c, vals_each (eo.mono fun _ _ r => r.1), ho⟩, rfl, go _ (I.hok.fresh (Nat.le_succ _))⟩
    rw [List.length_map, byK, List.length_mergeSort]
    exact hlen
def tSortedK (P : Addr) (q : Str) (key : PyData → PyData) (t : TA) (K : PySem.W.Frag) : TE := fun σ H Q => t σ H fun vs H1 => rSortedK K P q key vs H1 Q
theorem pe_sortedK {X : Cx} {e : Expr} {t : TA} {c P : Addr} {q x : Str} {params : Arguments} {body : Expr} {scope : Scope} {key : PyData → PyData} {p1 p2 kpos pos : Pos} (hu : X.A.units + 62 < cLine) (hdp : X.A.depth < recursionLimit) (hg : Gl X "sorted") (hm : X.mg "sorted" = none) (hm2 : X.mg "len" = none) (ha : PA X [e] t)
    (TB : LamX.TabB X.base X.mg c P) (cd : X.env.code = .ref c) (eq : X.env.qual ++ "<lambda>" = q) (df : defaultsOf params X.env = ([], [])) (L : LamN x scope) (kf : KeyFn key) (ev : KeyEv X.prog X.w X.mg body scope x key)
    (bd : ∀ pm b ctv v, bindArgs (PySem.W.kla_fn "<lambda>" q params body scope [] pm (.ref b) ctv) ⟨[v], []⟩ = pure [(x, v)])
    (he : backTo pos (starEach [e] X.env) = (false, eval e X.env) :: backTo pos (starEach [] X.env) := by rfl) (hpl : (backTo pos (starEach [e] X.env)).any (·.1) = false := by rfl) :
    PE X (.Call (.Name "sorted" p1) [e] [⟨some "key", .Lambda params body scope p2, kpos⟩] pos) (tSortedK P q key t X.K) := by
  refine ⟨fun pins s σ H Q I h => ?_⟩
  refine wpAny_Call_Name_kw (ld_blt I hg hm PyProof.Rows.boot_sorted ?_)
  refine PyProof.Rows.callWith_kw (thn (ha.run pos pins s σ H _ I h) fun us s1 ⟨vs, H1, I1, r1, q1⟩ => ?_) he hpl rfl rfl
  obtain ⟨a, zs, rfl, h1, h2, h3, h4, h5⟩ := q1
  rw [Vals.ref1 r1]
  show wpAny _ _ (evalAll ((do let v ← eval (.Lambda params body scope p2) X.env; standAt pos; pure v) :: [])) _ _ s1
  refine wpAny_evalAll_cons (wpAny_bind (lam_make3 I1 TB cd eq h4 df (fun y hy z => absurd z (L.fre y hy)) fun f b pm ctv H2 s2 I2 ts ho hf hfr hb => wpAny_bind (wpAny_standAt (wpAny_pure ?_))))
  refine wpAny_evalAll_nil ?_
  rw [cloFrom_nil L.fre] at ho
  exact run_sortedK hu hdp I2 rfl (ts.sqL h1) (ts.dps _ _ h2) h3 kf L ho hb hm2 (bd pm b ctv) ev (h5 H2 ts)
/-- the table grows, all else stays -/
theorem rl_tab {K : PySem.W.Frag} {F H H1 : Hp} {M : Mem} {P : Addr} {q : Str} (hr : Rl K F H M) (hp : M P = some (.tab q)) (t : TabStep H P q H1) : ∃ F1, Rl K F1 H1 M ∧ Gr F H M F1 H1 M := by
  rcases t with rfl | ⟨ps, more, b, e1, e2, e3, e4, rfl⟩
  · exact ⟨F, hr, .refl⟩
  obtain ⟨u, u1, ps0, u2, u3, u4⟩ := hr.at_ P _ hp
  subst u2
  rw [e1] at u1
  cases u1
  have fb : F b = none := hr.fh.free e2
  have mb : M b = none := hr.new e2
  have fp : F P = none := hr.mf P _ hp
  have pb : P ≠ b := fun z => by rw [z, e2] at e1; cases e1
  have ff : Same F (upd F b (LamX.CodeO b q)) := same_new fb
  refine ⟨upd F b (LamX.CodeO b q), ⟨fun c u h => ?_, fun a o h => ?_, fun a o h => ?_⟩, ⟨ff, fun c u h n => ?_, fun c u h n f => ?_⟩⟩
  · by_cases z : c = b
    · subst z
      rw [upd_same] at h
      rw [upd_same]
      exact h
    · rw [upd_ne z] at h
      rw [upd_ne z, upd_ne (fun y => by rw [y, fp] at h; cases h)]
      exact hr.fh c u h
  · rw [upd_ne (fun z => by rw [z, mb] at h; cases h)]
    exact hr.mf a o h
  · have ab : a ≠ b := fun z => by rw [z, mb] at h; cases h
    by_cases z : a = P
    · subst z
      rw [hp] at h
      cases h
      refine ⟨_, by rw [upd_ne ab, upd_same], _, rfl, e3, fun y x hx => ?_⟩
      rcases e4 y x hx with h2 | h2
      · obtain ⟨d, d1, d2⟩ := u4 y x h2
        exact ⟨d, d1, ff _ _ d2⟩
      · exact ⟨b, h2, upd_same⟩
    · rw [upd_ne ab, upd_ne z]
      obtain ⟨u, g1, g2⟩ := hr.at_ a o h
      exact ⟨u, g1, g2.mono ff⟩
  · rw [upd_ne (ne_of_none h e2), upd_ne (fun z => by rw [z, hp] at n; cases n)]
    exact ⟨h, n⟩
  · rw [upd_ne (ne_of_none h e2)]
    exact f
theorem rl_tabS {K : PySem.W.Frag} {F H : Hp} {M : Mem} {P : Addr} {q : Str} (hr : Rl K F H M) (hp : M P = some (.tab q)) : LamX.TabS H P q := by
  obtain ⟨u, u1, ps, u2, u3, u4⟩ := hr.at_ P _ hp
  subst u2
  refine ⟨ps, u1, u3, fun y x hx => ?_⟩
  obtain ⟨b, b1, b2⟩ := u4 y x hx
  exact ⟨b, b1, hr.fh _ _ b2⟩
/-- data sorted by a key, stably -/
def srtK (key : PyData → PyData) (ds : List PyData) : List PyData := ds.mergeSort (dataLe false key)
theorem byK_snd (key : PyData → PyData) (zs : List (V × PyData)) : (byK key zs).map (·.2) = srtK key (zs.map (·.2)) := by
  unfold byK srtK
  exact List.map_mergeSort (f := fun z : V × PyData => z.2) (r := dataLe false fun p : V × PyData => key p.2) (s := dataLe false key) (fun a _ b _ => rfl)
theorem kok_nd {d : PyData} (h : KOk d) : d.hasDict = false := by
  obtain ⟨e, ds, rfl, k, _⟩ := h
  exact key_nd _ k
theorem kok_nds : ∀ {ds : List PyData}, (∀ d ∈ ds, KOk d) → PyData.hasDictAll ds = false
  | [], _ => rfl
  | d :: ds, h => by
    rw [PyData.hasDictAll, kok_nd (h d (List.mem_cons_self ..)), kok_nds fun e he => h e (List.mem_cons_of_mem _ he)]
    rfl
end Tl
set_option Elab.async false
set_option linter.all false
set_option maxRecDepth 100000
set_option maxHeartbeats 4000000
/-! a text against a dict; x in a tuple of texts, x any data. -/
namespace PySem.SeqAt
open PySem PyProof.Rows
open _root_.PySem.AutoSeq1 (wpAny_loadPart')
open MeetsSeq
theorem str_eq_declines_dict5 (b : Str) (u : Tok) (l : Addr) (es : Array DictEntry) (n : Nat) (dd : Option Addr) (sl : Array (Option Value)) :
    Meets (Builtin.«str.__eq__» ⟨[.str b u, .ref l], []⟩) (fun _ R s => s.heap.get? l = some { cls := .type "dict", dict := dd, data := .dict es n, slots := sl } ∧ R (.ok (.ret .notImplemented)) s) :=
  .of_wp fun prog w A R s h => by obtain ⟨hp, g, d, tk, os⟩ := s; obtain ⟨hl, h⟩ := h; wp_walk using wpAny_loadPart' hl, wpAny_load hl; exact ⟨_, rfl, h⟩
theorem dict_eq_declines_str5 (l : Addr) (es : Array DictEntry) (n : Nat) (dd : Option Addr) (sl : Array (Option Value)) (b : Str) (u : Tok) :
    Meets (Builtin.«dict.__eq__» ⟨[.ref l, .str b u], []⟩) (fun _ R s => s.heap.get? l = some { cls := .type "dict", dict := dd, data := .dict es n, slots := sl } ∧ R (.ok (.ret .notImplemented)) s) :=
  .of_wp fun prog w A R s h => by obtain ⟨hp, g, d, tk, os⟩ := s; obtain ⟨hl, h⟩ := h; have f1 := F.sub_str_dict; wp_walk using wpAny_loadPart' hl, wpAny_load hl; exact ⟨_, rfl, h⟩
section
variable {A : Around} {s : Shared}
theorem RcAt.str_dict5 {l : Addr} {o : Obj} {es : Array DictEntry} {n : Nat} (b : Str) (u : Tok) (h1 : s.heap.get? l = some o) (h2 : o.cls = .type "dict") (h3 : o.data = .dict es n) (hu : A.units < cLine) : RcAt A s (.str b u) (.ref l) false := fun prog w E Q h => by
  obtain ⟨cls, dd, data, sl⟩ := o
  simp only at h2 h3
  subst h2 h3
  exact rc_eq_decline_or (k := false) (typeIs_str s b u) ⟨_, h1, rfl⟩ (by decide) F.sub_dict_str F.slot_str_eq F.slot_dict_eq_refl
    (fun _ hq => call_meets F.slot_str_eq (typeIs_str s b u) F.entry_str_eq (F.args_str_eq_2 _ _) (str_eq_declines_dict5 b u l es n dd sl) ⟨h1, hq⟩)
    (fun _ hq => call_meets F.slot_dict_eq_refl ⟨_, h1, rfl⟩ F.entry_dict_eq (F.args_dict_eq_2 _ _) (dict_eq_declines_str5 l es n dd sl b u) ⟨h1, hq⟩)
    (fun _ hq => wpAny_of_eq (rfl : isSame (.str b u) (.ref l) = pure false) hq) (.inr hu) h
theorem EqAt.str_dict5 {l : Addr} {o : Obj} {es : Array DictEntry} {n : Nat} (b : Str) (u : Tok) (h1 : s.heap.get? l = some o) (h2 : o.cls = .type "dict") (h3 : o.data = .dict es n) (hu : A.units < cLine) : EqAt A s (.str b u) (.ref l) false := fun prog w E Q h => by
  unfold eqBool
  refine wpAny_holding ?_
  refine wpAny_ite_split (fun hab => absurd (eq_of_beq hab) nofun) (fun _ => ?_)
  exact wpAny_bind (RcAt.str_dict5 b u h1 h2 h3 hu prog w E _ (wpAny_truthy_bool h))
/-- a text against any data -/
def isS (x : Str) : PyData → Bool
  | .str y => x == y
  | _ => false
theorem EqAt.str_any {v : Value} {d : PyData} {as : List Addr} (b : Str) (u : Tok) (r : Reads s.heap v d as) (hu : A.units < cLine) : EqAt A s (.str b u) v (isS b d) := by
  cases r with
  | none => exact EqAt.str_none b u
  | bool k => exact EqAt.str_bool b u k
  | int i t => exact EqAt.str_int b u i t
  | str x t => exact EqAt.str_str b u x t
  | list h1 h2 h3 h4 => exact EqAt.str_list b u ⟨_, h1, h2, _, h3⟩ hu
  | tuple h1 h2 h3 h4 => exact EqAt.str_tuple b u ⟨_, h1, h2, _, h3⟩ hu
  | dict h1 h2 h3 h4 h5 => exact EqAt.str_dict5 b u h1 h2 h3 hu
end
end PySem.SeqAt
namespace Tl
open PySem L2 PyProof.Rows
open PySem.SeqAt (isS)
/-- what data may stand beside a text -/
def rInT (K : PySem.W.Frag) (neg : Bool) : R2 := fun x y H Q => ∃ (d : PyData) (ss : List Str), Dt K H x d ∧ Dp K H y (.tuple (ss.map .str)) ∧ Q (.bl (ng neg (ss.any fun z => isS z d))) H
def strE (d : PyData) : Value → Bool
  | .str x _ => isS x d
  | _ => false
theorem str_reads {h : Heap} {d : PyData} : ∀ {vs : List Value} {ss : List Str} {as : List Addr}, ReadsAll h vs (ss.map PyData.str) as → (∀ v ∈ vs, ∃ x t, v = .str x t) ∧ vs.any (strE d) = ss.any fun z => isS z d
  | [], [], _, _ => ⟨(fun v h => absurd h List.not_mem_nil), rfl⟩
  | v :: vs, x :: ss, _, r => by
    cases r with
    | cons r1 r2 =>
      obtain ⟨i1, i2⟩ := str_reads (d := d) r2
      cases r1 with
      | str _ t =>
        refine ⟨fun v h => ?_, by rw [List.any_cons, List.any_cons, i2]; rfl⟩
        rcases List.mem_cons.mp h with e | e
        · exact ⟨x, t, e⟩
        · exact i1 v e
  | [], _ :: _, _, r => by cases r
  | _ :: _, [], _, r => by cases r
theorem dt_reads {X : Cx} {pins : List (Addr × Obj)} {σ : L2.St} {H : Hp} {s : Shared} (I : Inv X pins σ H s) {d : PyData} {v : V} {u : Value} (h : Dt X.K H v d) (r : RelV v u) : ∃ as, Reads s.heap u d as := by
  cases h with
  | d h => exact Dp.reads I d v u h r
  | @e a hd =>
    cases (show u = Value.ref a from r)
    obtain ⟨hz2, hsm, vs, hkv, o, es, ep, h1, h2, h3⟩ := (show ObjOk X.prog X.w H s.heap a (.dK []) from I.hok a _ hd)
    cases hkv
    have hes : es.toList = [] := by
      have hp := h3.2.2.1
      generalize es.toList = l at hp
      cases hp
      rfl
    exact ⟨_, Reads.dict h1 h2.1 h3.1 (by rw [hes]; exact .nil) (by rw [hes]; exact .nil)⟩
section
variable {X : Cx}
theorem op_notInT (hu : X.A.units + 65 < cLine) : OpR X (compareOp .NotIn) (rInT X.K true) := by
  intro pins s σ H x y v u Q I rx ry h
  obtain ⟨d, ss, hd, he, q⟩ := h
  obtain ⟨as, r1⟩ := dt_reads I hd rx
  obtain ⟨bs, r2⟩ := Dp.reads I _ y u he ry
  cases r2 with
  | tuple h1 h2 h3 h4 =>
    obtain ⟨e1, e2⟩ := str_reads (d := d) h4
    refine PySem.SeqAt.notIn_tupleAt (strE d) ⟨_, h1, h2, _, h3⟩ (fun z hz => ?_) ?_
    · obtain ⟨x, t, rfl⟩ := e1 z (by simpa using hz)
      exact PySem.SeqAt.EqAt.str_any x t r1 (by show X.A.units + 1 < cLine; omega)
    · rw [← Array.any_toList, e2]
      exact ⟨.bl _, H, I, rfl, q⟩
end
section
variable {K : PySem.W.Frag}
/-- data with the empty dict at the top, or none -/
def dtOk : PyData → Bool
  | .dict [] => true
  | d => !d.hasDict
theorem dt_of {F : Hp} {v : V} {d : PyData} (h : Dx K F v d) (k : dtOk d = true) : Dt K F v d := by
  cases d with
  | dict l =>
    cases h with
    | dic h => exact .e h
  | none => exact .d (Dx.dp _ _ h rfl)
  | bool b => exact .d (Dx.dp _ _ h rfl)
  | int b => exact .d (Dx.dp _ _ h rfl)
  | str b => exact .d (Dx.dp _ _ h rfl)
  | list b => exact .d (Dx.dp _ _ h (by simpa [dtOk] using k))
  | tuple b => exact .d (Dx.dp _ _ h (by simpa [dtOk] using k))
@[reducible] def fInT (neg : Bool) : F2 := fun x y M R => gD x fun d => gT y fun ds => gSs (ds.map W.d) fun ss => (dtOk d = true) ∧ R (.d (.bool (ng neg (ss.any fun z => isS z d)))) M
theorem so_inT0 {neg : Bool} : SO K (rInT K neg) (fInT neg) := fun F H M v u x y R Q hr rx ry hf k => by
  obtain ⟨d, rfl, h1⟩ := gD_of hf
  obtain ⟨ds, rfl, h2⟩ := gT_of h1
  obtain ⟨ss, e, c, h3⟩ := gSs_of h2
  have e' : ds = ss.map PyData.str := by
    have h0 : ∀ (ds : List PyData) (ss : List Str), ds.map W.d = ss.map (fun z => W.d (.str z)) → ds = ss.map PyData.str := by
      intro ds
      induction ds with
      | nil => intro ss e; cases ss with
        | nil => rfl
        | cons _ _ => cases e
      | cons a r ih => intro ss e; cases ss with
        | nil => cases e
        | cons b t =>
          rw [List.map_cons, List.map_cons] at e
          injection e with e1 e2
          injection e1 with e1
          rw [e1, List.map_cons, ih t e2]
    exact h0 ds ss e
  subst e'
  refine ⟨d, ss, dt_of (Dx.mono hr.fh _ _ rx.dx) c, Dx.dp _ _ (Dx.mono hr.fh _ _ ry.dx) ?_, ?_⟩
  · rw [PyData.hasDict]
    clear c e h3 h2 h1 hf ry rx
    induction ss with
    | nil => rfl
    | cons a r ih => rw [List.map_cons, PyData.hasDictAll, ih]; rfl
  · exact k _ H F M _ hr .refl (.d (.bl _)) h3
theorem so_ninT : SO K (rInT K true) (fInT true) := so_inT0
end
end Tl
set_option Elab.async false
set_option linter.all false
set_option maxRecDepth 100000
set_option maxHeartbeats 4000000
/-! The way back of a deed: it fits, leads back, each place too; its own way back is the deed. -/
namespace Tl
open PySem L2
/-! ### parts replaced, as data -/
/-! ### runs of kids, and back -/
theorem kidsN_of {d s : PyData} {ks : List PyData} {q : List Nat} (h : sub d q = some (.tuple [s, .tuple ks])) : kidsN d q = ks.length := by
  rw [kidsN, partD_of h, kidsD_node]
/-! ### paths, there and back -/
/-! ### the deed back -/
end Tl
set_option Elab.async false
set_option linter.all false
set_option maxRecDepth 100000
set_option maxHeartbeats 4000000
/-! Places in their order; the ways from a place. -/
namespace Tl
open PySem L2
open PySem.W (alike alikeAll AllAlike dataLe dataLt keyToks keyToksAll rowLt dataLt_tuple dataLt_cons dataLt_int toks_all_cons)
open PyProof.Rows
def ltN : List Nat → List Nat → Bool
  | [], [] => false
  | [], _ :: _ => true
  | _ :: _, [] => false
  | x :: a, y :: b => if x = y then ltN a b else decide (x < y)
theorem ltN_irr : ∀ a, ltN a a = false
  | [] => rfl
  | x :: a => by rw [ltN, if_pos rfl, ltN_irr a]
theorem ltN_asy : ∀ {a b : List Nat}, ltN a b = true → ltN b a = false
  | [], [], h => by cases h
  | [], _ :: _, _ => rfl
  | _ :: _, [], h => by cases h
  | x :: a, y :: b, h => by
    rw [ltN] at h ⊢
    by_cases e : x = y
    · rw [if_pos e] at h
      rw [if_pos e.symm]
      exact ltN_asy h
    · rw [if_neg e] at h
      rw [if_neg fun z => e z.symm]
      simp at h ⊢
      omega
theorem ltN_tr : ∀ {a b c : List Nat}, ltN a b = true → ltN b c = true → ltN a c = true
  | [], [], _, h, _ => by cases h
  | [], _ :: _, [], _, h => by cases h
  | [], _ :: _, _ :: _, _, _ => rfl
  | _ :: _, [], _, h, _ => by cases h
  | _ :: _, _ :: _, [], _, h => by cases h
  | x :: a, y :: b, z :: c, h, g => by
    rw [ltN] at h g ⊢
    by_cases e : x = y
    · subst e
      rw [if_pos rfl] at h
      by_cases e2 : x = z
      · subst e2
        rw [if_pos rfl] at g ⊢
        exact ltN_tr h g
      · rw [if_neg e2] at g ⊢
        exact g
    · rw [if_neg e] at h
      by_cases e2 : y = z
      · subst e2
        rw [if_neg e]
        exact h
      · rw [if_neg e2] at g
        simp at h g
        rw [if_neg (by omega)]
        simp
        omega
theorem ltN_app : ∀ (q : List Nat) {a b : List Nat}, ltN (q ++ a) (q ++ b) = ltN a b
  | [], _, _ => rfl
  | x :: q, a, b => by rw [List.cons_append, List.cons_append, ltN, if_pos rfl, ltN_app q]
/-- rising, each once -/
abbrev Up (l : List (List Nat)) : Prop := l.Pairwise fun a b => ltN a b = true
theorem Up.pre (q : List Nat) {l : List (List Nat)} (h : Up l) : Up (l.map (q ++ ·)) := List.Pairwise.map _ (fun a b k => by rw [ltN_app]; exact k) h
mutual
theorem plc_up : ∀ {n : Nat} {d : PyData}, TrT n d → Up (plc d)
  | 0, _, h => h.elim
  | n + 1, d, h => by
    obtain ⟨s, ks, rfl, _, hk⟩ := h
    rw [plc_node]
    refine List.pairwise_cons.mpr ⟨fun q hq => ?_, plcAll_up 0 hk⟩
    obtain ⟨i, r, k, rfl, _⟩ := plcAll_sub 0 hk q hq
    rfl
theorem plcAll_up : ∀ {n : Nat} {ks : List PyData} (j : Nat), (∀ k ∈ ks, TrT n k) → Up (plcAll j ks)
  | _, [], _, _ => by rw [plcAll]; exact .nil
  | n, k :: ks, j, h => by
    rw [plcAll]
    refine List.pairwise_append.mpr ⟨(plc_up (h k (.head _))).pre [j], plcAll_up (j + 1) fun x hx => h x (.tail _ hx), fun a ha b hb => ?_⟩
    obtain ⟨r, _, rfl⟩ := List.mem_map.mp ha
    obtain ⟨i, r2, k2, rfl, hi, _⟩ := plcAll_sub (j + 1) (fun x hx => h x (.tail _ hx)) b hb
    rw [ltN, if_neg (by omega)]
    simp
    omega
end
/-! the order of paths as data -/
theorem rowLt_N : ∀ a b : List Nat, rowLt (a.map fun n : Nat => PyData.int (n : Int)) (b.map fun n : Nat => PyData.int (n : Int)) = ltN a b
  | [], [] => lex_irrefl _
  | [], y :: b => by
    show rowLt [] (PyData.int (y : Int) :: _) = _
    unfold rowLt
    rw [toks_all_cons]
    simp only [keyToksAll]
    rw [lex_diff (O := itemOrd) (by simp)]
    rfl
  | x :: a, [] => by
    show rowLt (PyData.int (x : Int) :: _) [] = _
    unfold rowLt
    rw [toks_all_cons]
    simp only [keyToksAll]
    rw [lex_diff (O := itemOrd) (by simp)]
    rfl
  | x :: a, y :: b => by
    have e : rowLt (PyData.int (x : Int) :: a.map fun n : Nat => PyData.int (n : Int)) (PyData.int (y : Int) :: b.map fun n : Nat => PyData.int (n : Int)) = if (x : Int) = y then rowLt (a.map fun n : Nat => PyData.int (n : Int)) (b.map fun n : Nat => PyData.int (n : Int)) else decide ((x : Int) < y) := by
      unfold rowLt
      rw [dataLt_cons (by simp [alike]), dataLt_int]
      simp only [PyData.eqv, beq_iff_eq]
    rw [List.map_cons, List.map_cons, e, ltN, rowLt_N a b]
    by_cases h : x = y
    · rw [if_pos h, if_pos (by omega)]
    · rw [if_neg h, if_neg (by omega)]
      simp
theorem dataLt_path (a b : List Nat) : dataLt (pathD a) (pathD b) = ltN a b := by
  unfold pathD
  rw [dataLt_tuple, ← rowLt_N]
  rfl
theorem path_depth (q : List Nat) : (pathD q).depth ≤ 2 := by
  have h : ∀ q : List Nat, PyData.depthAll (q.map fun n : Nat => PyData.int (n : Int)) ≤ 1 := by
    intro q
    induction q with
    | nil => exact Nat.zero_le _
    | cons x r ih =>
      rw [List.map_cons, PyData.depthAll]
      have e : (PyData.int (x : Int)).depth = 0 := rfl
      omega
  have := h q
  unfold pathD
  rw [PyData.depth]
  omega
theorem alike_paths : ∀ a b : List Nat, alikeAll (a.map fun n : Nat => PyData.int (n : Int)) (b.map fun n : Nat => PyData.int (n : Int)) = true
  | [], _ => by rw [List.map_nil, alikeAll]
  | _ :: _, [] => by rw [List.map_cons, List.map_nil, alikeAll]
  | x :: a, y :: b => by rw [List.map_cons, List.map_cons, alikeAll, alike_paths a b]; rfl
theorem srt_paths (l : List (List Nat)) : SrtOk (l.map pathD) := by
  refine ⟨fun d hd d' hd' => ?_, .inr fun d hd => ?_, fun d hd => ?_⟩
  · obtain ⟨a, _, rfl⟩ := List.mem_map.mp hd
    obtain ⟨b, _, rfl⟩ := List.mem_map.mp hd'
    unfold pathD
    rw [alike]
    exact alike_paths a b
  · obtain ⟨a, _, rfl⟩ := List.mem_map.mp hd
    exact ⟨_, rfl⟩
  · obtain ⟨a, _, rfl⟩ := List.mem_map.mp hd
    have := path_depth a
    omega
/-! the ways -/
end Tl
set_option Elab.async false
set_option linter.all false
set_option maxRecDepth 100000
set_option maxHeartbeats 4000000
/-! Orders of a tree's places: sorted by keys, and as the walks give them. -/
namespace Tl
open PySem L2
open PySem.W (dataLe dataLt rowLt dataLt_tuple dataLt_cons dataLt_int)
theorem ltN_tot : ∀ a b : List Nat, a ≠ b → ltN a b = true ∨ ltN b a = true
  | [], [], h => absurd rfl h
  | [], _ :: _, _ => .inl rfl
  | _ :: _, [], _ => .inr rfl
  | x :: a, y :: b, h => by
    rw [ltN, ltN]
    by_cases e : x = y
    · subst e
      rw [if_pos rfl, if_pos rfl]
      exact ltN_tot a b fun z => h (by rw [z])
    · rw [if_neg e, if_neg fun z => e z.symm]
      simp
      omega
/-- a strict order of keys -/
structure So {κ : Type} (lt : κ → κ → Bool) : Prop where
  irr : ∀ a, lt a a = false
  tr : ∀ {a b c}, lt a b = true → lt b c = true → lt a c = true
  tot : ∀ a b, a ≠ b → lt a b = true ∨ lt b a = true
theorem So.asy {κ : Type} {lt : κ → κ → Bool} (s : So lt) {a b : κ} (h : lt a b = true) : lt b a = false := by
  cases c : lt b a with
  | false => rfl
  | true =>
    have := s.tr h c
    rw [s.irr] at this
    cases this
theorem so_N : So ltN := ⟨ltN_irr, ltN_tr, ltN_tot⟩
section
variable {κ α : Type} {lt : κ → κ → Bool}
theorem So.ext (s : So lt) : ∀ {a b : List κ}, a.Pairwise (fun x y => lt x y = true) → b.Pairwise (fun x y => lt x y = true) → (∀ x, x ∈ a ↔ x ∈ b) → a = b
  | [], [], _, _, _ => rfl
  | [], y :: b, _, _, h => absurd ((h y).mpr (.head _)) List.not_mem_nil
  | x :: a, [], _, _, h => absurd ((h x).mp (.head _)) List.not_mem_nil
  | x :: a, y :: b, ha, hb, h => by
    rw [List.pairwise_cons] at ha hb
    have e : x = y := by
      rcases List.mem_cons.mp ((h x).mp (.head _)) with e | e
      · exact e
      · rcases List.mem_cons.mp ((h y).mpr (.head _)) with e2 | e2
        · exact e2.symm
        · have h1 := s.asy (ha.1 y e2)
          rw [hb.1 x e] at h1
          cases h1
    subst e
    have nin : ∀ {l : List κ}, (∀ z ∈ l, lt x z = true) → x ∉ l := fun hl z => by
      have := hl x z
      rw [s.irr] at this
      cases this
    rw [s.ext ha.2 hb.2 fun z => ⟨fun hz => ?_, fun hz => ?_⟩]
    · rcases List.mem_cons.mp ((h z).mp (.tail _ hz)) with e | e
      · rw [e] at hz; exact absurd hz (nin ha.1)
      · exact e
    · rcases List.mem_cons.mp ((h z).mpr (.tail _ hz)) with e | e
      · rw [e] at hz; exact absurd hz (nin hb.1)
      · exact e
/-- not behind, by a key -/
def leK (lt : κ → κ → Bool) (k : α → κ) (x y : α) : Bool := !lt (k y) (k x)
theorem So.le_tr (s : So lt) (k : α → κ) (x y z : α) (h1 : leK lt k x y = true) (h2 : leK lt k y z = true) : leK lt k x z = true := by
  unfold leK at *
  cases c : lt (k z) (k x) with
  | false => rfl
  | true =>
    by_cases e : k y = k z
    · rw [e, c] at h1; cases h1
    · rcases s.tot _ _ e with h | h
      · rw [s.tr h c] at h1; cases h1
      · rw [h] at h2; cases h2
theorem So.le_tot (s : So lt) (k : α → κ) (x y : α) : (leK lt k x y || leK lt k y x) = true := by
  unfold leK
  cases c : lt (k y) (k x) with
  | false => rfl
  | true => rw [s.asy c]; rfl
/-- sorted by keys that all differ: strictly rising -/
theorem So.sorted (s : So lt) (k : α → κ) {l : List α} (hn : (l.map k).Nodup) : ((l.mergeSort (leK lt k)).map k).Pairwise (fun x y => lt x y = true) := by
  have h1 := List.pairwise_mergeSort (le := leK lt k) (s.le_tr k) (s.le_tot k) l
  have h2 : ((l.mergeSort (leK lt k)).map k).Nodup := ((List.mergeSort_perm l (leK lt k)).map k).nodup_iff.mpr hn
  rw [List.pairwise_map]
  have h3 := List.pairwise_map.mp h2
  refine (h1.and h3).imp fun {a b} h => ?_
  obtain ⟨ha, hb⟩ := h
  rcases s.tot _ _ hb with h | h
  · exact h
  · unfold leK at ha
    rw [h] at ha
    cases ha
end
/-! by the walk behind -/
def lt99 (a b : List Nat) : Bool := ltN (a ++ [99]) (b ++ [99])
theorem so_99 : So lt99 := ⟨fun a => ltN_irr _, fun h1 h2 => ltN_tr h1 h2, fun a b h => ltN_tot _ _ fun z => h (List.append_cancel_right z)⟩
theorem lt99_cons (i : Nat) (a b : List Nat) : lt99 (i :: a) (i :: b) = lt99 a b := by
  unfold lt99
  rw [List.cons_append, List.cons_append, ltN, if_pos rfl]
theorem lt99_lt {i j : Nat} (h : i < j) (a b : List Nat) : lt99 (i :: a) (j :: b) = true := by
  unfold lt99
  rw [List.cons_append, List.cons_append, ltN, if_neg (by omega)]
  simpa using h
theorem lt99_nil {i : Nat} (h : i < 99) (a : List Nat) : lt99 (i :: a) [] = true := by
  unfold lt99
  rw [List.cons_append, List.nil_append, ltN, if_neg (by omega)]
  simpa using h
mutual
theorem plb_99 : ∀ {n : Nat} {d : PyData}, TrT n d → nn d ≤ 98 → (plb d).Pairwise (fun x y => lt99 x y = true)
  | 0, _, h, _ => h.elim
  | n + 1, d, h, hn => by
    obtain ⟨s, ks, rfl, _, hk⟩ := h
    rw [nn] at hn
    rw [plb_node]
    have hl : ks.length ≤ nnAll ks := by
      clear hk
      induction ks with
      | nil => exact Nat.zero_le _
      | cons k r ih =>
        have := nn_pos k
        rw [nnAll, List.length_cons]
        rw [nnAll] at hn
        have := ih (by omega)
        omega
    obtain ⟨h1, h2⟩ := plbAll_99 0 hk (by omega)
    refine List.pairwise_append.mpr ⟨h1, List.pairwise_singleton _ _, fun a ha b hb => ?_⟩
    rw [List.mem_singleton] at hb
    subst hb
    obtain ⟨i, r, rfl, _, hi⟩ := h2 a ha
    exact lt99_nil (by omega) r
theorem plbAll_99 : ∀ {n : Nat} {ks : List PyData} (j : Nat), (∀ k ∈ ks, TrT n k) → nnAll ks ≤ 98 → (plbAll j ks).Pairwise (fun x y => lt99 x y = true) ∧ ∀ q ∈ plbAll j ks, ∃ i r, q = i :: r ∧ j ≤ i ∧ i < j + ks.length
  | _, [], _, _, _ => by rw [plbAll]; exact ⟨.nil, fun _ h => by cases h⟩
  | n, k :: ks, j, h, hn => by
    rw [nnAll] at hn
    rw [plbAll]
    obtain ⟨h1, h2⟩ := plbAll_99 (j + 1) (fun x hx => h x (.tail _ hx)) (by omega)
    refine ⟨List.pairwise_append.mpr ⟨List.pairwise_map.mpr ((plb_99 (h k (.head _)) (by omega)).imp fun {a b} z => by rw [lt99_cons]; exact z), h1, fun a ha b hb => ?_⟩, fun q hq => ?_⟩
    · obtain ⟨r, _, rfl⟩ := List.mem_map.mp ha
      obtain ⟨i, r2, rfl, hi, _⟩ := h2 b hb
      exact lt99_lt (by omega) _ _
    · rw [List.length_cons]
      rcases List.mem_append.mp hq with hq | hq
      · obtain ⟨r, _, rfl⟩ := List.mem_map.mp hq
        exact ⟨j, r, rfl, Nat.le_refl _, by omega⟩
      · obtain ⟨i, r, rfl, h3, h4⟩ := h2 q hq
        exact ⟨i, r, rfl, by omega, by omega⟩
end
mutual
theorem plb_perm : ∀ {n : Nat} {d : PyData}, TrT n d → (plb d).Perm (plc d)
  | 0, _, h => h.elim
  | n + 1, d, h => by
    obtain ⟨s, ks, rfl, _, hk⟩ := h
    rw [plb_node, plc_node]
    exact (List.perm_append_singleton _ _).trans ((plbAll_perm 0 hk).cons _)
theorem plbAll_perm : ∀ {n : Nat} {ks : List PyData} (j : Nat), (∀ k ∈ ks, TrT n k) → (plbAll j ks).Perm (plcAll j ks)
  | _, [], _, _ => by rw [plbAll, plcAll]
  | n, k :: ks, j, h => by
    rw [plbAll, plcAll]
    exact ((plb_perm (h k (.head _))).map _).append (plbAll_perm (j + 1) fun x hx => h x (.tail _ hx))
end
/-! by levels -/
def ltL (a b : List Nat) : Bool := if a.length = b.length then ltN a b else decide (a.length < b.length)
theorem so_L : So ltL := by
  refine ⟨fun a => by unfold ltL; rw [if_pos rfl, ltN_irr], fun {a b c} h1 h2 => ?_, fun a b h => ?_⟩
  · unfold ltL at *
    by_cases e1 : a.length = b.length
    · rw [if_pos e1] at h1
      by_cases e2 : b.length = c.length
      · rw [if_pos e2] at h2
        rw [if_pos (e1.trans e2)]
        exact ltN_tr h1 h2
      · rw [if_neg e2] at h2
        rw [if_neg (by omega), e1]
        exact h2
    · rw [if_neg e1] at h1
      have := of_decide_eq_true h1
      by_cases e2 : b.length = c.length
      · rw [if_neg (by omega), ← e2]
        exact h1
      · rw [if_neg e2] at h2
        have := of_decide_eq_true h2
        rw [if_neg (by omega)]
        simp
        omega
  · unfold ltL
    by_cases e : a.length = b.length
    · rw [if_pos e, if_pos e.symm]
      exact ltN_tot a b h
    · rw [if_neg e, if_neg fun z => e z.symm]
      simp
      omega
def leLen (a b : List Nat) : Bool := decide (a.length ≤ b.length)
/-- sorted by lengths, stably: by levels -/
theorem len_sorted {l : List (List Nat)} (h : Up l) : (l.mergeSort leLen).Pairwise (fun x y => ltL x y = true) := by
  have tr : ∀ a b c : List Nat, leLen a b = true → leLen b c = true → leLen a c = true := fun a b c h1 h2 => by
    unfold leLen at *
    have := of_decide_eq_true h1
    have := of_decide_eq_true h2
    exact decide_eq_true (by omega)
  have to : ∀ a b : List Nat, (leLen a b || leLen b a) = true := fun a b => by
    unfold leLen
    by_cases c : a.length ≤ b.length
    · rw [decide_eq_true c]; rfl
    · rw [decide_eq_false c, decide_eq_true (by omega)]; rfl
  have h1 := List.pairwise_mergeSort (le := leLen) tr to l
  have hu : l.Nodup := h.imp fun {a b} z e => by rw [e, ltN_irr] at z; cases z
  have h2 : (l.mergeSort leLen).Nodup := (List.mergeSort_perm l leLen).nodup_iff.mpr hu
  rw [List.pairwise_iff_forall_sublist] at h1 ⊢
  intro a b hs
  have h3 := of_decide_eq_true (h1 hs)
  have hab : a ≠ b := fun z => by
    have := h2.sublist hs
    rw [z] at this
    simp at this
  unfold ltL
  by_cases e : a.length = b.length
  · rw [if_pos e]
    rcases ltN_tot a b hab with k | k
    · exact k
    · exfalso
      -- b stands ahead of a in l
      have ma : a ∈ l := (List.mergeSort_perm l leLen).mem_iff.mp (hs.subset (by simp))
      have mb : b ∈ l := (List.mergeSort_perm l leLen).mem_iff.mp (hs.subset (by simp))
      have : [b, a].Sublist l := by
        obtain ⟨i, hi, ei⟩ := List.getElem_of_mem mb
        obtain ⟨j, hj, ej⟩ := List.getElem_of_mem ma
        have hij : i < j := by
          rcases Nat.lt_trichotomy i j with z | z | z
          · exact z
          · subst z; exact absurd (ej.symm.trans ei) hab
          · have := List.pairwise_iff_getElem.mp h j i hj hi z
            rw [ei, ej] at this
            rw [ltN_asy this] at k
            cases k
        have e1 : l = l.take j ++ l.drop j := (List.take_append_drop j l).symm
        rw [e1, List.drop_eq_getElem_cons hj, ej]
        have m2 : b ∈ l.take j := by rw [← ei]; exact List.mem_take_iff_getElem.mpr ⟨i, by omega, rfl⟩
        have := (List.singleton_sublist.mpr m2).append ((List.singleton_sublist (a := a) (l := a :: l.drop (j + 1))).mpr (.head _))
        simpa using this
      have k2 := List.pair_sublist_mergeSort (le := leLen) tr to (decide_eq_true (by omega)) this
      -- both [a, b] and [b, a]
      have : ∀ l : List (List Nat), l.Nodup → [a, b].Sublist l → [b, a].Sublist l → False := by
        intro l hl g1 g2
        induction l with
        | nil => cases g1
        | cons x l ih =>
          rw [List.nodup_cons] at hl
          cases g1 with
          | cons _ g1 =>
            cases g2 with
            | cons _ g2 => exact ih hl.2 g1 g2
            | cons_cons _ g2 => exact hl.1 (g1.subset (by simp))
          | cons_cons _ g1 =>
            cases g2 with
            | cons _ g2 => exact hl.1 (g2.subset (by simp))
            | cons_cons _ g2 => exact hab rfl
      exact this _ h2 hs k2
  · rw [if_neg e]
    exact decide_eq_true (by omega)
end Tl
namespace Tl
open PySem PySem.Spec L2 PyProof.Rows
open PySem.W (KeyPure dataLe dataLt rowLt dataLt_tuple dataLt_cons dataLt_int alike alikeAll)
/-! the same, as data -/
def kB : PyData → PyData
  | .tuple [_, .tuple ds] => .tuple (ds ++ [.int 99])
  | _ => .tuple [.int 0]
def kL : PyData → PyData
  | .tuple [_, .tuple ds] => .tuple [.int ds.length, .tuple ds]
  | _ => .tuple [.int 0]
theorem kB_path (e : PyData) (q : List Nat) : kB (.tuple [e, pathD q]) = pathD (q ++ [99]) := by
  unfold pathD
  rw [kB, List.map_append]
  rfl
theorem kL_path (e : PyData) (q : List Nat) : kL (.tuple [e, pathD q]) = .tuple [.int (q.length : Nat), pathD q] := by
  unfold pathD
  rw [kL, List.length_map]
theorem alike_path (a b : List Nat) : alike (pathD a) (pathD b) = true := by
  unfold pathD
  rw [alike]
  exact alike_paths a b
theorem fn_kB : KeyFn kB := by
  refine ⟨fun d e ⟨x, q, h1, _⟩ ⟨y, r, h2, _⟩ => ?_, fun d ⟨x, q, h1, _⟩ => ?_, fun d ⟨x, q, h1, _⟩ => ?_⟩
  · rw [h1, h2, kB_path, kB_path]
    exact alike_path _ _
  · rw [h1, kB_path]
    cases q with
    | nil => exact ⟨_, _, rfl⟩
    | cons a q => exact ⟨_, _, rfl⟩
  · rw [h1, kB_path]
    exact Nat.le_trans (path_depth _) (by decide)
theorem fn_kL : KeyFn kL := by
  refine ⟨fun d e ⟨x, q, h1, _⟩ ⟨y, r, h2, _⟩ => ?_, fun d ⟨x, q, h1, _⟩ => ?_, fun d ⟨x, q, h1, _⟩ => ?_⟩
  · rw [h1, h2, kL_path, kL_path, alike, alikeAll, alikeAll, alike_path, alikeAll]
    rfl
  · rw [h1, kL_path]
    exact ⟨_, _, rfl⟩
  · rw [h1, kL_path, PyData.depth, PyData.depthAll, PyData.depthAll, PyData.depthAll]
    have := path_depth q
    have e : (PyData.int ((q.length : Nat) : Int)).depth = 0 := rfl
    omega
theorem ltL_data (a b : List Nat) (x y : PyData) : dataLt (kL (.tuple [x, pathD a])) (kL (.tuple [y, pathD b])) = ltL a b := by
  rw [kL_path, kL_path, dataLt_tuple]
  rw [dataLt_cons (by simp [alike]), dataLt_int]
  unfold ltL
  simp only [PyData.eqv, beq_iff_eq]
  by_cases e : a.length = b.length
  · rw [if_pos e, if_pos (by omega)]
    rw [dataLt_cons (alike_path a b)]
    by_cases e2 : a = b
    · subst e2
      rw [if_pos (by rw [eqv_path]; simp), ltN_irr]
      exact lex_irrefl _
    · rw [if_neg (by rw [eqv_path]; simpa using e2), dataLt_path]
  · rw [if_neg e, if_neg (by omega)]
    simp
theorem srt_kB (l : List (Int × List Nat)) : srtK kB (l.map numD) = (l.mergeSort (leK lt99 (·.2))).map numD := by
  unfold srtK
  refine (List.map_mergeSort (f := numD) (r := leK lt99 (·.2)) (s := dataLe false kB) fun a _ b _ => ?_).symm
  show _ = !dataLt (kB (numD b)) (kB (numD a))
  unfold numD
  rw [kB_path, kB_path, dataLt_path]
  rfl
theorem srt_kL (l : List (Int × List Nat)) : srtK kL (l.map numD) = (l.mergeSort (leK ltL (·.2))).map numD := by
  unfold srtK
  refine (List.map_mergeSort (f := numD) (r := leK ltL (·.2)) (s := dataLe false kL) fun a _ b _ => ?_).symm
  show _ = !dataLt (kL (numD b)) (kL (numD a))
  unfold numD
  rw [ltL_data]
  rfl
theorem srt_len (l : List (List Nat)) : srtL (l.map pathD) = (l.mergeSort leLen).map pathD := by
  unfold srtL
  refine (List.map_mergeSort (f := pathD) (r := leLen) (s := dataLe false kLen) fun a _ b _ => ?_).symm
  show _ = !dataLt (kLen (pathD b)) (kLen (pathD a))
  unfold pathD kLen leLen
  rw [dataLt_int, List.length_map, List.length_map]
  by_cases c : a.length ≤ b.length
  · rw [decide_eq_true c, decide_eq_false (by omega)]; rfl
  · rw [decide_eq_false c, decide_eq_true (by omega)]; rfl
theorem srt_N (l : List (List Nat)) : srt (l.map pathD) = (l.mergeSort (leK ltN id)).map pathD := by
  unfold srt
  refine (List.map_mergeSort (f := pathD) (r := leK ltN id) (s := dataLe false id) fun a _ b _ => ?_).symm
  show _ = !dataLt (pathD b) (pathD a)
  rw [dataLt_path]
  rfl
/-! the orders -/
def ordP (i : Nat) (d : PyData) : List (List Nat) := match i with
  | 0 => plc d
  | 1 => plb d
  | 2 => (plc d).mergeSort leLen
  | _ => (plc d).filter fun q => decide (kidsN d q = 0)
def ordT (i : Nat) (T : AT) : List (Int × List Nat) := match i with
  | 0 => T.npl []
  | 1 => (T.npl []).mergeSort (leK lt99 (·.2))
  | 2 => (T.npl []).mergeSort (leK ltL (·.2))
  | _ => (T.npl []).filter fun x => decide (kidsN (T.tel tgF) x.2 = 0)
theorem npl_plc (T : AT) : ∀ p, (T.npl p).map (·.2) = (plc (T.tel tgF)).map (p ++ ·) :=
  AT.rec (motive_1 := fun T => ∀ p, (T.npl p).map (·.2) = (plc (T.tel tgF)).map (p ++ ·)) (motive_2 := fun ks => ∀ p i, (npls p i ks).map (·.2) = (plcAll i (ks.map (AT.tel tgF))).map (p ++ ·))
    (fun a b n t ks ih p => by rw [AT.npl, still_node, plc_node, List.map_cons, List.map_cons, ih, List.append_nil])
    (fun p i => by simp [npls, plcAll])
    (fun k ks ih1 ih2 p i => by
      rw [npls, List.map_cons, plcAll, List.map_append, List.map_append, ih1, ih2, List.map_map]
      congr 1
      exact List.map_congr_left fun r _ => by simp) T
theorem npl_plc0 (T : AT) : (T.npl []).map (·.2) = plc (T.tel tgF) := by
  rw [npl_plc T []]
  simp
theorem plc_nodup {n : Nat} {d : PyData} (h : TrT n d) : (plc d).Nodup := (plc_up h).imp fun {a b} z e => by rw [e, ltN_irr] at z; cases z
theorem ord_eq {n : Nat} {T : AT} (ht : TrT n (T.tel tgF)) (hn : nn (T.tel tgF) ≤ 98) (i : Nat) : (ordT i T).map (·.2) = ordP i (T.tel tgF) := by
  have h0 := npl_plc0 T
  have hd : ((T.npl []).map (·.2)).Nodup := by rw [h0]; exact plc_nodup ht
  match i with
  | 0 => exact h0
  | 1 =>
    refine so_99.ext (so_99.sorted (fun x : Int × List Nat => x.2) hd) (plb_99 ht hn) fun x => ?_
    show x ∈ ((T.npl []).mergeSort (leK lt99 (·.2))).map (·.2) ↔ x ∈ plb _
    rw [((List.mergeSort_perm (T.npl []) (leK lt99 (·.2))).map (·.2)).mem_iff, h0, (plb_perm ht).mem_iff]
  | 2 =>
    refine so_L.ext (so_L.sorted (fun x : Int × List Nat => x.2) hd) (len_sorted (plc_up ht)) fun x => ?_
    show x ∈ ((T.npl []).mergeSort (leK ltL (·.2))).map (·.2) ↔ x ∈ (plc _).mergeSort leLen
    rw [((List.mergeSort_perm (T.npl []) (leK ltL (·.2))).map (·.2)).mem_iff, h0, (List.mergeSort_perm _ _).mem_iff]
  | i + 3 =>
    show ((T.npl []).filter _).map _ = (plc _).filter _
    rw [← h0, List.filter_map]
    rfl
theorem ord_perm {n : Nat} {d : PyData} (h : TrT n d) {i : Nat} (hi : i < 3) : (ordP i d).Perm (plc d) := match i, hi with
  | 0, _ => .refl _
  | 1, _ => plb_perm h
  | 2, _ => List.mergeSort_perm _ _
theorem ord_sub {n : Nat} {d : PyData} (h : TrT n d) (i : Nat) : (ordP i d).length ≤ nn d ∧ ∀ q ∈ ordP i d, q ∈ plc d := match i with
  | 0 => ⟨Nat.le_of_eq (plc_len h), fun q hq => hq⟩
  | 1 => ⟨Nat.le_of_eq (plb_len h), fun q hq => (plb_perm h).mem_iff.mp hq⟩
  | 2 => ⟨by show ((plc d).mergeSort leLen).length ≤ _; rw [List.length_mergeSort, plc_len h]; exact Nat.le_refl _, fun q hq => (List.mergeSort_perm _ _).mem_iff.mp hq⟩
  | i + 3 => ⟨by rw [← plc_len h]; exact List.length_filter_le _ _, fun q hq => (List.mem_filter.mp hq).1⟩
theorem srt_ord {n : Nat} {d : PyData} (h : TrT n d) {i : Nat} (hi : i < 3) : srt ((ordP i d).map pathD) = (plc d).map pathD := by
  rw [srt_N]
  congr 1
  have hp := ord_perm h hi
  have hs := so_N.sorted (α := List Nat) id (l := ordP i d) (by rw [List.map_id]; exact hp.nodup_iff.mpr (plc_nodup h))
  rw [List.map_id] at hs
  exact so_N.ext hs (plc_up h) fun x => by rw [(List.mergeSort_perm _ _).mem_iff, hp.mem_iff]
/-! what the lambdas give -/
theorem kok_num (x : Int × List Nat) (h : x.2.length < 50) : KOk (numD x) := by
  refine ⟨.int x.1, x.2, rfl, ?_, h⟩
  unfold numD pathD
  rw [keyOk, keyOks, keyOk, keyOks, keyOks, keyOk]
  have : ∀ l : List Nat, keyOks (l.map fun n : Nat => PyData.int (n : Int)) = true := fun l => by
    induction l with
    | nil => rfl
    | cons a l ih => rw [List.map_cons, keyOks, keyOk, ih]; rfl
  rw [this]
  rfl
theorem ev_kB {prog : Program} {w : World} {mg : Str → Option Value} {x : Str} {scope : Scope} {p1 p2 p3 p4 p5 p6 : Pos} {j j2 k : Nat} (hk : scope.kind = .function) (hl : scope.names.lookup x = some .local) (hd : (x == ("__debug__" : Str)) = false := by decide) :
    KeyEv prog w mg (.BinOp (.Subscript (.Name x p1) (.Constant (.int 1) j p2) p3) .Add (.Tuple [.Constant (.int 99) j2 p4] k p5) p6) scope x kB := by
  intro A s0 g tk q L f cd v d as kp hns hg hb hr ⟨e, r, hd1, hd2, hd3⟩
  subst hd1
  have pr := pair_of (ds := r.map fun n : Nat => .int (n : Int)) hr hd2
  exact ev_keyB (ds := r.map fun n : Nat => .int (n : Int)) kp hk hl hns pr (by rw [List.length_map]; omega) hd
theorem ev_kL {prog : Program} {w : World} {mg : Str → Option Value} {x : Str} {scope : Scope} {p1 p2 p3 p4 p5 p6 p7 p8 p9 : Pos} {j j2 k : Nat} (hk : scope.kind = .function) (hl : scope.names.lookup x = some .local) (hlen : scope.names.lookup ("len" : Str) = some .globalImplicit) (hm : mg "len" = none) (hd : (x == ("__debug__" : Str)) = false := by decide) :
    KeyEv prog w mg (.Tuple [.Call (.Name "len" p1) [.Subscript (.Name x p2) (.Constant (.int 1) j p3) p4] [] p5, .Subscript (.Name x p6) (.Constant (.int 1) j2 p7) p8] k p9) scope x kL := by
  intro A s0 g tk q L f cd v d as kp hns hg ⟨mb, hb1, hb2⟩ hr ⟨e, r, hd1, hd2, hd3⟩
  subst hd1
  have pr := pair_of (ds := r.map fun n : Nat => .int (n : Int)) hr hd2
  exact ev_keyL (ds := r.map fun n : Nat => .int (n : Int)) kp hk hl hns hlen hg hm hb1 hb2 pr (by rw [List.length_map]; omega) hd
end Tl
set_option Elab.async false
set_option linter.all false
set_option maxRecDepth 100000
set_option maxHeartbeats 8000000
namespace Tl
open PySem L2 RZ
local macro_rules
  | `(tactic| decreasing_trivial) => `(tactic| ((with_reducible (conv => whnf)); (repeat ((first | (with_reducible refine gDs_c ?_) | (with_reducible refine gDs_n ?_) | (with_reducible refine gNs_c ?_) | (with_reducible refine gNs_n ?_) | (with_reducible refine gO_i tyAny_lt ?_) | (with_reducible refine gIs_c ?_) | (with_reducible refine gIs_n ?_) | (with_reducible refine gBs_c ?_) | (with_reducible refine gBs_n ?_) | (with_reducible refine gSs_c ?_) | (with_reducible refine gSs_n ?_) | (with_reducible refine gO_i tyIs_int ?_) | (with_reducible refine gO_i tyIs_bool ?_) | (with_reducible refine gO_i tyIs_str ?_) | (with_reducible refine gO_i tyIs_tuple ?_) | (with_reducible refine gO_i tyIs_list ?_) | (with_reducible refine gDs_i ?_) | (with_reducible refine gO_i (Eq.refl _) ?_) | (with_reducible refine gO_i (by assumption) ?_) | (with_reducible refine gO_i at_0 ?_) | (with_reducible refine gO_i at_m0 ?_) | (with_reducible refine gO_i at_1 ?_) | (with_reducible refine gO_i at_m1 ?_) | (with_reducible refine gO_i at_2 ?_) | (with_reducible refine gO_i at_m2 ?_) | (with_reducible refine gO_i at_3 ?_) | (with_reducible refine gO_i at_m3 ?_) | (with_reducible refine gO_i at_4 ?_) | (with_reducible refine gO_i at_m4 ?_) | (with_reducible refine gO_i at_5 ?_) | (with_reducible refine gO_i at_m5 ?_) | (with_reducible refine gO_i at_6 ?_) | (with_reducible refine gO_i at_m6 ?_) | (with_reducible refine gO_i at_7 ?_) | (with_reducible refine gO_i at_m7 ?_) | (with_reducible refine IfB.ngf ?_) | (with_reducible refine IfB.ngt ?_) | (with_reducible refine IfB.not ?_) | (with_reducible refine IfB.nil ?_) | (with_reducible refine IfB.nilT ?_) | (with_reducible refine IfB.f isE_c ?_) | (with_reducible refine IfB.t isE_n ?_) | (with_reducible refine IfB.t ?gha ?_; (case gha => rfl)) | (with_reducible refine IfB.f ?gha ?_; (case gha => rfl)) | (with_reducible refine IfB.t ?gha ?_; (case gha => assumption)) | (with_reducible refine IfB.f ?gha ?_; (case gha => assumption)) | (with_reducible refine IfB.yes (Eq.refl _) ?_) | (with_reducible refine IfB.yes ?gha ?_; (case gha => (first | omega | (simp only [len_c, len_n, List.length_map]; omega)))) | (with_reducible refine IfB.no ?gha ?_; (case gha => (first | omega | (simp only [len_c, len_n, List.length_map]; omega)))) | (with_reducible refine IfB.t ?gha ?_; (case gha => decide +kernel)) | (with_reducible refine IfB.f ?gha ?_; (case gha => decide +kernel))); (with_reducible (conv => whnf))))))
local macro_rules
  | `(tactic| decreasing_trivial_pre_omega) => `(tactic| (decreasing_trivial; (repeat ((first | ((with_reducible refine And.intro ?gha ?_); (case gha => (first | assumption | omega | exact rfl | (exact mset_same) | (exact ⟨_, mset_same⟩) | (exact Exists.intro _ (by first | exact mset_same | assumption | (rw [mset_ne (by assumption)]; first | exact mset_same | assumption))) | (exact sm_of (by omega) (by omega)) | (exact sz1000 (by first | omega | (simp; done) | (simp; omega))) | (exact Or.inl ⟨by decide, by decide⟩) | decide | (simp; done) | (refine ⟨?_, ?_⟩ <;> (first | assumption | omega | exact rfl | (exact mset_same) | (exact ⟨_, mset_same⟩) | (exact Exists.intro _ (by first | exact mset_same | assumption | (rw [mset_ne (by assumption)]; first | exact mset_same | assumption))) | (exact sm_of (by omega) (by omega)) | (exact sz1000 (by first | omega | (simp; done) | (simp; omega))) | (exact Or.inl ⟨by decide, by decide⟩) | decide | (simp; done))) | (refine ⟨?_, ?_, ?_⟩ <;> (first | assumption | omega | exact rfl | (exact mset_same) | (exact ⟨_, mset_same⟩) | (exact Exists.intro _ (by first | exact mset_same | assumption | (rw [mset_ne (by assumption)]; first | exact mset_same | assumption))) | (exact sm_of (by omega) (by omega)) | (exact sz1000 (by first | omega | (simp; done) | (simp; omega))) | (exact Or.inl ⟨by decide, by decide⟩) | decide | (simp; done))) | (refine ⟨?_, ?_, ?_, ?_⟩ <;> (first | assumption | omega | exact rfl | (exact mset_same) | (exact ⟨_, mset_same⟩) | (exact Exists.intro _ (by first | exact mset_same | assumption | (rw [mset_ne (by assumption)]; first | exact mset_same | assumption))) | (exact sm_of (by omega) (by omega)) | (exact sz1000 (by first | omega | (simp; done) | (simp; omega))) | (exact Or.inl ⟨by decide, by decide⟩) | decide | (simp; done)))))) | (with_reducible refine exW (by first | exact mset_same | assumption | (rw [mset_ne (by assumption)]; first | exact mset_same | assumption)) ?_)); decreasing_trivial))))
open PySem.SeqAt (isS)
abbrev sI_NoOrder : Stmt := inClsN (top 5) 0
theorem scI_NoOrder : FnScope ["self", "how"] ["self", "how"] (defScope sI_NoOrder) := ⟨rfl, rfl, rfl, by decide +kernel, rfl, by decide +kernel, by decide +kernel⟩
theorem okI_NoOrder {P : Program} {w : World} {K : PySem.W.Frag} {mg : Str → Option Value} {base : Heap} {f C : Addr} {fd : FuncData} {k : Nat} (F : Fun K "__init__" "NoOrder.__init__" sI_NoOrder f fd) (o : OexC K C) (n : PySem.W.findIn K (.ref C) "how" = some none) : FnOk P w K mg base CX0 (k + 1) f fd ["self", "how"] (spInitF K C "how") := by
  refine F.ok scI_NoOrder (fun vs H Q E h => ?_) (fun cdv A outer s H vs Q E hr h => ?_)
  · obtain ⟨_, _, rfl, _⟩ := h
    rfl
  obtain ⟨a, v, rfl, ha, q⟩ := h
  exact ⟨_, pss_one (ps_ost (pv 0) (pv 1)), _, rfl, _, rfl, a, C, rfl, o, n, .inl ⟨ha, fun dx h1 h2 => q dx h1 h2⟩⟩
def ordsL : List Str := ["ahead", "behind", "levels", "leaves"]
def ordsD : PyData := .tuple (ordsL.map .str)
/-- a row of words that the module keeps -/
structure WordsT (K : PySem.W.Frag) (mg : Str → Option Value) (x : Str) (d : PyData) where
  a : Addr
  m : mg x = some (.ref a)
  d : ∀ F, Dx K F (.ref a) d
def isOrd (d : PyData) : Bool := ordsL.any fun z => isS z d
theorem isOrd_str {i : Nat} {z : Str} (h : ordsL[i]? = some z) : isOrd (.str z) = true := by
  unfold isOrd
  rw [List.any_eq_true]
  exact ⟨z, List.mem_of_getElem? h, beq_self_eq_true z⟩
theorem isOrd_of {d : PyData} (h : isOrd d = true) : ∃ (i : Nat) (z : Str), ordsL[i]? = some z ∧ d = .str z := by
  unfold isOrd at h
  rw [List.any_eq_true] at h
  obtain ⟨z, h1, h2⟩ := h
  obtain ⟨i, hi, e⟩ := List.getElem_of_mem h1
  refine ⟨i, z, by rw [List.getElem?_eq_getElem hi, e], ?_⟩
  cases d with
  | str y =>
    have : (z == y) = true := h2
    rw [eq_of_beq this]
  | _ => cases h2
@[reducible] def tfChkO (C : Addr) : TF := fun ws M R RX => g1 ws fun x => gD x fun d => (dtOk d = true) ∧ (isOrd d = false → RX ⟨.ref C, [("how", d)]⟩ M) ∧ (isOrd d = true → R (.d .none) M)
@[reducible] def tfPathsIn : TF := fun ws M R _ => ∃ (d : PyData) (i : Nat) (z : Str), ws = [.d d, .d (.str z)] ∧ (TrT 12 d ∧ nn d ≤ 60 ∧ ordsL[i]? = some z) ∧ ∀ p, M p = none → R (.r p) (mset M p (.lst (((ordP i d).map pathD).map W.d)))
structure InT (cT cO : Addr) (x y : PyData) (R : W → Mem → Prop) (RX : Ex → Mem → Prop) (M : Mem) : Prop where
  t1 : txt x = true
  t2 : dtOk y = true
  noTree : isTreeD x = false → RX ⟨.ref cT, []⟩ M
  noOrder : isTreeD x = true → isOrd y = false → RX ⟨.ref cO, [("how", y)]⟩ M
  ok : ∀ i z, isTreeD x = true → ordsL[i]? = some z → y = .str z → ∀ p, M p = none → R (.r p) (mset M p (.lst (((ordP i x).map pathD).map W.d)))
@[reducible] def tfInO (cT cO : Addr) : TF := fun ws M R RX => ∃ x y, ws = [.d x, .d y] ∧ InT cT cO x y R RX M
section
variable {P : Program} {w : World} {K : PySem.W.Frag} {mg : Str → Option Value} {base : Heap}
abbrev sChkO : Stmt := top 20
theorem scChkO : FnScope ["thing"] ["thing"] (defScope sChkO) := ⟨rfl, rfl, rfl, by decide +kernel, rfl, by decide +kernel, by decide +kernel⟩
theorem ok_chkO {f C : Addr} {fd : FuncData} {k : Nat} (F : Fun K "check_order" "check_order" sChkO f fd) (XNoOrder : ErF K mg "NoOrder" "NoOrder.__init__" "how" sI_NoOrder C) (TORDERS : WordsT K mg "ORDERS" ordsD) (hk : 2 ≤ k) : FnOk P w K mg base (L2.CX P w) (k + 1) f fd ["thing"] (spD K 1 (tfChkO C)) := by
  obtain ⟨fiNoOrder, fdNoOrder, iNoOrder, tNoOrder, FNoOrder⟩ := XNoOrder.i
  have okNoOrder := okI_NoOrder (P := P) (w := w) (mg := mg) (base := base) (k := 0) FNoOrder XNoOrder.o XNoOrder.n
  have bNoOrder := FNoOrder.binds (ps := ["self", "how"]) fun _ _ _ _ _ _ us hl => match us, hl with | [_, _], _ => rfl
  refine okDX F scChkO rfl fun cdv A outer s H E hr => ?_
  refine ⟨_, fun RE => _, (pss_one (ps_if (pt_cmpR (op_notInT (room65 hr)) (pv 0) (pe_glob (v := .ref TORDERS.a) (by rfl) TORDERS.m rfl) (by rfl)) (pss_one (ps_raise rfl (takes_of (E := E) rfl rfl rfl rfl) (pmk_oex XNoOrder.o iNoOrder tNoOrder okNoOrder (hr.mono (by omega)) bNoOrder .nil pass0 (by exact rfl) XNoOrder.g (pa_cons (pv 0) pa_nil)))) pss_nil)), fun RE => (ss_if (st_test (se_op so_ninT se_nm (se_k TORDERS.d))) (ss_raiseF (sa_cons se_nm sa_nil)) ss_nil), fun ws M R RX hl h => ?_⟩
  obtain ⟨x, rfl, h1⟩ := g1_of h
  obtain ⟨d, rfl, ht, h2, h3⟩ := gD_of h1
  simp only [start0, len_c, len_n, map_c, map_n, app_c, app_n, rep_0, rep_s, Nat.reduceAdd, Nat.reduceSub]
  decreasing_trivial_pre_omega
  show gSs (ordsL.map fun z => W.d (.str z)) _
  rw [gSs_map, List.map_id']
  refine ⟨ht, ?_⟩
  decreasing_trivial_pre_omega
  refine IfB.of (fun c => h3 c) fun c => ?_
  decreasing_trivial_pre_omega
  exact h2 c
abbrev sPathsIn : Stmt := top 21
theorem scPathsIn : FnScope ["tree", "how", "paths", "path"] ["tree", "how"] (defScope sPathsIn) := ⟨rfl, rfl, rfl, by decide +kernel, rfl, by decide +kernel, by decide +kernel⟩
theorem ok_pathsIn {f : Addr} {fd : FuncData} {k j : Nat} (F : Fun K "paths_in" "paths_in" sPathsIn f fd) (Upaths_behind : Use P w K mg base "paths_behind" ["tree", "path"] j (spD K 2 (tfPathsB 12))) (Upaths_from : Use P w K mg base "paths_from" ["tree", "path"] j (spD K 2 (tfPaths 12))) (Upart_at : Use P w K mg base "part_at" ["tree", "path"] j (spD K 2 tfPartAt)) (hj : j ≤ k) (T : Bl mg) (mSrt : mg "sorted" = none) : FnOk P w K mg base CX0 (k + 1) f fd ["tree", "how"] (spD K 2 tfPathsIn) := by
  refine okDL F scPathsIn rfl fun cdv A outer s H E hr => ?_
  refine ⟨_, _, (pss_cons (ps_if (pt_cmpR op_eq (pv 1) pe_str (nomark _)) (pss_one (ps_ret (pe_call Upaths_behind.ok (hr.mono (by omega)) rfl Upaths_behind.m Upaths_behind.kp Upaths_behind.b .nil pass0 (pa_cons (pv 0) (pa_cons (pe_tup pa_nil) pa_nil))))) pss_nil)
    (pss_cons (ps_set (i := 2) scPathsIn.nd rfl (.inl rfl) (pe_call Upaths_from.ok (hr.mono (by omega)) rfl Upaths_from.m Upaths_from.kp Upaths_from.b .nil pass0 (pa_cons (pv 0) (pa_cons (pe_tup pa_nil) pa_nil))))
    (pss_cons (ps_if (pt_cmpR op_eq (pv 1) pe_str (nomark _)) (pss_one (ps_ret (pe_sortedLen (room62 hr) (by rfl) mSrt (by rfl) T.len (pa_cons (pv 2) pa_nil)))) pss_nil)
    (pss_cons (ps_if (pt_cmpR op_eq (pv 1) pe_str (nomark _)) (pss_one (ps_ret (pe_lc (own := [("path", 3)]) (g := gName 3) (by rfl) scPathsIn.nd (pi_list (pv 2)) (blkOk_by (N := ["tree", "how", "paths", "path"]) (sc := defScope sPathsIn) (own := [("path", 3)]) (by decide +kernel)) (fun _ _ _ _ _ => pg_name (i := 3) scPathsIn.nd rfl (Or.inl rfl)) (fun _ _ _ _ _ => (pts_one (pt_cmpR op_eq (pe_callB call_len_seq (by rfl) T.len PySem.boot_len (pa_cons (pe_ix ix_tup (pe_call Upart_at.ok (hr.mono (by omega)) rfl Upart_at.m Upart_at.kp Upart_at.b .nil pass0 (pa_cons (pv 0) (pa_cons (pv 3) pa_nil))) pe_int (fun _ _ => rfl)) pa_nil)) pe_int (nomark _)))) (fun _ _ _ _ _ => (pv 3))))) pss_nil)
    (pss_one (ps_ret (pv 2))))))),
    (ss_cons (ss_if (st_test (se_op so_eqS se_nm se_str)) (ss_ret (se_call (sa_cons se_nm (sa_cons (se_tup sa_nil) sa_nil)))) ss_nil)
    (ss_cons (ss_set (se_call (sa_cons se_nm (sa_cons (se_tup sa_nil) sa_nil))))
    (ss_cons (ss_if (st_test (se_op so_eqS se_nm se_str)) (ss_ret (se_cb sc_sortedL (sa_cons se_nm sa_nil))) ss_nil)
    (ss_cons (ss_if (st_test (se_op so_eqS se_nm se_str)) (ss_ret (se_lcL (si_lst se_nm) sg_name (st_test (se_op so_eqS (se_cb sc_len (sa_cons (se_op so_ixT (se_call (sa_cons se_nm (sa_cons se_nm sa_nil))) se_int) sa_nil)) se_int)) se_nm)) ss_nil)
    (ss_ret se_nm))))), fun ws M R RX hl h => ?_⟩
  obtain ⟨d, i, z, rfl, ⟨ht, hn, hz⟩, h3⟩ := h
  have hR : ∀ (l : List (List Nat)), ordP i d = l → ∀ p, M p = none → lax R (W.r p) (mset M p (.lst ((l.map pathD).map W.d))) := fun l e p hp => by
    rw [← e]
    exact lax_of (h3 p hp)
  have pn : ∀ l : List (List Nat), pls [] l = l.map pathD := fun l => rfl
  match i, hz with
  | 0, hz =>
    cases hz
    simp only [start0, len_c, len_n, map_c, map_n, app_c, app_n, rep_0, rep_s, Nat.reduceAdd, Nat.reduceSub]
    decreasing_trivial_pre_omega
    refine ⟨d, [], rfl, ⟨ht, by omega, by decide⟩, fun p hp => ?_⟩
    decreasing_trivial_pre_omega
    exact hR _ rfl p hp
  | 1, hz =>
    cases hz
    simp only [start0, len_c, len_n, map_c, map_n, app_c, app_n, rep_0, rep_s, Nat.reduceAdd, Nat.reduceSub]
    decreasing_trivial_pre_omega
    refine ⟨d, [], rfl, ⟨ht, by omega, by decide⟩, fun p hp => ?_⟩
    exact hR _ rfl p hp
  | 2, hz =>
    cases hz
    simp only [start0, len_c, len_n, map_c, map_n, app_c, app_n, rep_0, rep_s, Nat.reduceAdd, Nat.reduceSub]
    decreasing_trivial_pre_omega
    refine ⟨d, [], rfl, ⟨ht, by omega, by decide⟩, fun p hp => ?_⟩
    decreasing_trivial_pre_omega
    refine ⟨fun x hx => ?_, fun p2 hp2 => ?_⟩
    · obtain ⟨q, _, rfl⟩ := List.mem_map.mp hx
      exact ⟨_, rfl⟩
    rw [pn, srt_len]
    have ne : p2 ≠ p := fun z => by rw [z, mset_same] at hp2; cases hp2
    rw [mset_ne ne] at hp2
    refine ⟨_, fun a o h => ?_, h3 p2 hp2⟩
    by_cases c : a = p2
    · subst c
      rw [mset_same] at h ⊢
      exact h
    · rw [mset_ne c] at h ⊢
      rw [mset_ne (fun z => by rw [z, hp] at h; cases h)]
      exact h
  | 3, hz =>
    cases hz
    simp only [start0, len_c, len_n, map_c, map_n, app_c, app_n, rep_0, rep_s, Nat.reduceAdd, Nat.reduceSub]
    decreasing_trivial_pre_omega
    refine ⟨d, [], rfl, ⟨ht, by omega, by decide⟩, fun p hp => ?_⟩
    decreasing_trivial_pre_omega
    rw [pn, List.map_map]
    have lp := plc_len ht
    refine lc1f (xs := plc d) (f := W.d ∘ pathD) (fun q => decide (kidsN d q = 0)) (fun q => W.d (pathD q)) mset_same (fun q hq Rk Rn k1 k2 => ?_) (sz1000 (by omega)) ?_
    · obtain ⟨e, he⟩ := plc_sub ht q hq
      obtain ⟨s0, ks, rfl, h1, _⟩ := node_at ht he
      have hkn := kidsN_of he
      show tbT _ (put _ 3 (some (.d (pathD q)))) _ _
      decreasing_trivial_pre_omega
      refine ⟨d, q, 12, rfl, ht, ?_⟩
      rw [he, show ∀ e, optP (some e) = e from fun _ => rfl]
      decreasing_trivial_pre_omega
      rw [hkn] at k1 k2
      by_cases c : ks.length = 0
      · exact IfB.yes (by omega) (k1 (decide_eq_true c))
      · exact IfB.no (by omega) (k2 (decide_eq_false c))
    · intro p2 hp2
      have ne : p2 ≠ p := fun z => by rw [z, mset_same] at hp2; cases hp2
      rw [mset_ne ne] at hp2
      refine ⟨mset M p2 _, fun a o h => ?_, h3 p2 hp2⟩
      rw [show ordP 3 d = (plc d).filter (fun q => decide (kidsN d q = 0)) from rfl, List.map_map] at h
      by_cases c : a = p2
      · subst c
        rw [mset_same] at h ⊢
        exact h
      · rw [mset_ne c] at h ⊢
        rw [mset_ne (fun z => by rw [z, hp] at h; cases h)]
        exact h
  | _ + 4, hz => simp [ordsL] at hz
abbrev sInO : Stmt := top 19
theorem scInO : FnScope ["tree", "how"] ["tree", "how"] (defScope sInO) := ⟨rfl, rfl, rfl, by decide +kernel, rfl, by decide +kernel, by decide +kernel⟩
theorem ok_inO {f cT cO : Addr} {fd : FuncData} {k j : Nat} (F : Fun K "in_order" "in_order" sInO f fd) (Ucheck_tree : UseX P w K mg base "check_tree" ["thing"] j (spD K 1 (tfChk isTreeD cT))) (Ucheck_order : UseX P w K mg base "check_order" ["thing"] j (spD K 1 (tfChkO cO))) (Upaths_in : Use P w K mg base "paths_in" ["tree", "how"] j (spD K 2 tfPathsIn)) (hj : j ≤ k) : FnOk P w K mg base (L2.CX P w) (k + 1) f fd ["tree", "how"] (spD K 2 (tfInO cT cO)) := by
  refine okDX F scInO rfl fun cdv A outer s H E hr => ?_
  refine ⟨_, fun RE => _, (pss_cons (ps_expr (pe_callS Ucheck_tree.ok (hr.mono (by omega)) rfl Ucheck_tree.m Ucheck_tree.kp Ucheck_tree.b (fun σ => passAt (takes_of (E := E) rfl rfl rfl rfl) σ) (pa_cons (pv 0) pa_nil)))
    (pss_cons (ps_expr (pe_callS Ucheck_order.ok (hr.mono (by omega)) rfl Ucheck_order.m Ucheck_order.kp Ucheck_order.b (fun σ => passAt (takes_of (E := E) rfl rfl rfl rfl) σ) (pa_cons (pv 1) pa_nil)))
    (pss_one (ps_ret (PE.nox (pe_call Upaths_in.ok (hr.mono (by omega)) rfl Upaths_in.m Upaths_in.kp Upaths_in.b .nil pass0 (pa_cons (pv 0) (pa_cons (pv 1) pa_nil)))))))), fun RE => (ss_cons (ss_drop (se_callX (sa_cons se_nm sa_nil)))
    (ss_cons (ss_drop (se_callX (sa_cons se_nm sa_nil)))
    (ss_ret (se_call (sa_cons se_nm (sa_cons se_nm sa_nil)))))), fun ws M R RX hl h => ?_⟩
  obtain ⟨x, y, rfl, c⟩ := h
  simp only [start0, len_c, len_n, map_c, map_n, app_c, app_n, rep_0, rep_s, Nat.reduceAdd, Nat.reduceSub]
  decreasing_trivial_pre_omega
  refine ⟨c.t1, fun ht => ?_, fun hn => c.noTree hn⟩
  decreasing_trivial_pre_omega
  refine ⟨c.t2, fun hn => c.noOrder ht hn, fun ho => ?_⟩
  obtain ⟨i, z, hz, rfl⟩ := isOrd_of ho
  obtain ⟨t12, n60⟩ := tree_iff.mp ht
  decreasing_trivial_pre_omega
  exact ⟨x, i, z, rfl, ⟨t12, n60, hz⟩, c.ok i z ht hz rfl⟩
end
end Tl
set_option Elab.async false
set_option linter.all false
set_option maxRecDepth 100000
set_option maxHeartbeats 4000000
/-! A def whose own table of code is known; a law with such a def: its first state, its end. -/
namespace Tl
open PySem PySem.Spec L2 PyProof.Rows
section
variable {K : PySem.W.Frag} {Wx : WX} {RE : REx}
/-- sorted(xs, key=lambda p: ..), as data -/
@[reducible] def fSortedKF (P : Addr) (q : Str) (key : PyData → PyData) : FL := fun xs M R => g1 xs fun x => gW M x fun ws => gDs ws fun ds => (M P = some (.tab q)) ∧ (∀ d ∈ ds, KOk d) ∧ R (.d (.list (srtK key ds))) M
theorem sc_sortedKF {P : Addr} {q : Str} {key : PyData → PyData} : SC K (rSortedK K P q key) (fSortedKF P q key) := fun F H M vs xs R Q hr rx hf k => by
  obtain ⟨x, rfl, h1⟩ := g1_of hf
  obtain ⟨v, rfl, r⟩ := rx.one
  obtain ⟨a, us, ws, rfl, h2, h3, h4⟩ := gW_of hr r h1
  obtain ⟨ds, rfl, hp, h5, h6⟩ := gDs_of h4
  obtain ⟨zs, rfl, rfl, hz⟩ := h3.undat.zip
  refine ⟨a, zs, rfl, SqL.of h2, DxL.dp _ _ (DxL.mono hr.fh _ _ h3.undat) (kok_nds h5), fun z hm => h5 _ (List.mem_map.mpr ⟨z, hm, rfl⟩), rl_tabS hr hp, fun H1 ts p hp1 => ?_⟩
  obtain ⟨F1, r1, g1⟩ := rl_tab hr hp ts
  have h7 : DxL K F1 ((byK key zs).map (·.1)) (srtK key (zs.map (·.2))) := by
    rw [← byK_snd]
    exact DxL.unzip fun z m => Dx.mono g1.ff _ _ (hz z ((List.mergeSort_perm _ _).mem_iff.mp m))
  obtain ⟨r2, g2, rz⟩ := r1.list hp1 h7
  exact k _ _ _ _ _ r2 (g1.trans g2) rz h6
theorem se_sortedKF {n : Nat} {P : Addr} {q : Str} {key : PyData → PyData} {t : TA} {T : TDA} (h : SAn K Wx RE n t T) : SE K Wx RE (tSortedK P q key t K) (cbT (fSortedKF P q key) T) := se_cb (sc_sortedKF (K := K)) h
end
section
variable {P : Program} {w : World} {K : PySem.W.Frag} {mg : Str → Option Value} {base : Heap}
/-- a def that lets nothing out, its code object known -/
theorem okDC {f c : Addr} {fd : FuncData} {k n : Nat} {x qual : Str} {st : Stmt} {N ps : List Str} {tf : TF} (F : Fun K x qual st f fd) (S : FnScope N ps (defScope st)) (hp : ps.length = n) (hc : fd.code = .ref c)
    (hb : ∀ (A : Around) (outer : List Env) (s : Shared) (H : Hp) (E : XK), Room k (A.deeper (PyProof.Rows.envOfC qual (defScope st) s.heap.objs.size f (.ref c))) →
      ∃ (t : TS) (T : TDS), PSs (cxOf CX0 P w K mg base N qual (defScope st) f (.ref c) A outer s H E).nox (defBody st) t ∧ SSt K (fun _ _ _ _ => False) (fun _ _ _ => False) t T ∧
        ∀ ws M R RX, ws.length = n → tf ws M R RX → T (endD R) (start0 N.length ws) M) : FnOk P w K mg base CX0 (k + 1) f fd ps (spD K n tf) := by
  obtain ⟨oc, od, kV, doc, pm, an, cdv, ct, osl, rfl, lk, hcd⟩ := F.ex
  obtain rfl : cdv = .ref c := hc
  refine fn_of lk hcd S (fun vs H Q E h => ?_) fun A outer s H vs Q E hr h => ?_
  · obtain ⟨F0, M, ws, R, RX, r, rs, hl, _⟩ := h
    rw [rs.len, hl, hp]
  · obtain ⟨F0, M, ws, R, RX, r, rs, hl, hf, hk, _⟩ := h
    obtain ⟨t, T, h1, h2, h3⟩ := hb A outer s H E hr
    exact ⟨t, h1.nox, h2 F0 H M _ _ _ _ r (fun F' H' M' σ ρ cls d x _ _ _ _ z => z) (rel_start rs) (h3 ws M R RX hl hf) (ek_def hk)⟩
end
/-- as a law begins: the script, locked, and empty tables -/
def withTabs (a : Addr) (u : Option HO) (ts : List Addr) : Hp := fun b => if b ∈ ts then some (.tbl #[]) else if b = a then u else none
theorem end_atT {P : Program} {w : World} {K : PySem.W.Frag} {mg mb : Str → Option Value} {fa a : Addr} {s₁ : Shared} {vs : List Value} {ns : List Int} {cs : List (Addr × Addr)}
    (KX : K.In s₁.heap) (gl : s₁.heap.Ns mainGlobals mg) (hmb : s₁.heap.Ns builtinsNs mb) (hbb : ∀ x : Str, x ≠ "__name__" → mb x = bootBuiltins x) (nl : s₁.heap.NoLimit) (ge : s₁.gens = #[])
    (tb : ∀ p ∈ cs, s₁.heap.get? p.2 = some { cls := .none, data := .fields #[] }) (tn : ∀ p ∈ cs, K.lookup p.2 = none) (tc : ∀ p ∈ cs, PySem.W.CodeHd s₁.heap p.1 p.2)
    (bm : ∃ (m : Addr) (o : Obj), mg "__builtins__" = some (.ref m) ∧ m ≠ builtinsNs ∧ s₁.heap.get? m = some o ∧ o.cls = .type "module" ∧ o.dict = some builtinsNs ∧ o.data = .plain)
    (ha : s₁.heap.get? a = some { cls := .type "list", data := .seq vs.toArray }) (hi : IntsAre vs ns) (hl : ns.length ≤ sizeLine)
    (run : ∀ (base : Heap) (H : Hp), K.In base → base.Ns mainGlobals mg → SqL K H a (ns.map V.int) → (∀ p ∈ cs, H p.2 = some (.tbl #[])) → (∀ p ∈ cs, LamX.TabB base mg p.1 p.2) → Env0 P w K mg base callerA [] s₁ H →
      codeAny (model P w) callerA (.call (.ref fa) ⟨[.ref a], []⟩) (CR CX0 [] P w H s₁ (fun v _ => v = V.bl true) fun _ _ _ => False) s₁) :
    codeAny (model P w) callerA (.call (.ref fa) ⟨[.ref a], []⟩) (fun r s2 => r = .ok (.ret (.bool true)) ∧ OldK s₁.heap s2.heap ∧ s2.os = s₁.os ∧ AllBare s2.gens) s₁ := by
  have rv := vals_ints hi
  have lv := hi.length
  have memT : ∀ p ∈ cs, p.2 ∈ cs.map (·.2) := fun p hp => List.mem_map.mpr ⟨p, hp, rfl⟩
  have isT : ∀ b ∈ cs.map (·.2), s₁.heap.get? b = some { cls := .none, data := .fields #[] } ∧ K.lookup b = none := fun b hb => by
    obtain ⟨p, hp, rfl⟩ := List.mem_map.mp hb
    exact ⟨tb p hp, tn p hp⟩
  have na : a ∉ cs.map (·.2) := fun z => by
    have q := (isT a z).1
    rw [ha] at q
    have : Data.seq vs.toArray 0 = Data.fields #[] := congrArg Obj.data (Option.some.inj q)
    cases this
  have go : ∀ u : Option HO, (∀ o, u = some o → o = .frz { cls := .type "list", data := .seq vs.toArray } (.lst (ns.map V.int)) ∧ K.lookup a = none) → SqL K (withTabs a u (cs.map (·.2))) a (ns.map V.int) →
      codeAny (model P w) callerA (.call (.ref fa) ⟨[.ref a], []⟩) (fun r s2 => r = .ok (.ret (.bool true)) ∧ OldK s₁.heap s2.heap ∧ s2.os = s₁.os ∧ AllBare s2.gens) s₁ := by
    intro u hu hS
    generalize eH : withTabs a u (cs.map (·.2)) = H at hS
    have kinds : ∀ b o, H b = some o → (b ∈ cs.map (·.2) ∧ o = .tbl #[]) ∨ (b = a ∧ u = some o) := fun b o h => by
      rw [← eH] at h
      unfold withTabs at h
      split at h
      · rename_i m; cases h; exact .inl ⟨m, rfl⟩
      · split at h
        · rename_i m; exact .inr ⟨m, h⟩
        · cases h
    have tabH : ∀ p ∈ cs, H p.2 = some (.tbl #[]) := fun p hp => by
      rw [← eH]
      exact if_pos (memT p hp)
    have free : ∀ {b : Addr} {o : Obj}, s₁.heap.get? b = some o → (∀ x n, o.data ≠ .seq x n) → o.data ≠ .fields #[] → H b = none := fun {b o} h n1 n2 => by
      cases z : H b with
      | none => rfl
      | some y =>
        rcases kinds b y z with ⟨m, _⟩ | ⟨rfl, _⟩
        · rw [(isT b m).1] at h
          cases h
          exact absurd rfl n2
        · rw [ha] at h
          cases h
          exact absurd rfl (n1 _ _)
    have lo : ∀ {b : Addr} {o : Obj}, s₁.heap.get? b = some o → H b = none → (hidT s₁.heap H).get? b = some o := fun q n => hidT_get q n
    have nsK : ∀ {b : Addr} {m : Str → Option Value}, s₁.heap.Ns b m → (hidT s₁.heap H).Ns b m := fun {b m} ⟨o, es, ep, q, d, r⟩ =>
      ⟨o, es, ep, lo q (free q (fun x n z => by rw [d] at z; cases z) (fun z => by rw [d] at z; cases z)), d, r⟩
    have kb : K.In (hidT s₁.heap H) := fun b o q => lo (KX b o q) (by
      cases z : H b with
      | none => rfl
      | some y =>
        rcases kinds b y z with ⟨m, _⟩ | ⟨rfl, h⟩
        · rw [(isT b m).2] at q; cases q
        · rw [(hu y h).2] at q; cases q)
    have hM : Mod K mg (hidT s₁.heap H) := ⟨kb, nsK gl, ⟨mb, nsK hmb, hbb⟩, by
      obtain ⟨mc, l1, l2⟩ := nl
      exact ⟨mc, nsK l1, l2⟩⟩
    have hok : HOk P w H s₁.heap := fun b o h => by
      rcases kinds b o h with ⟨m, rfl⟩ | ⟨rfl, h2⟩
      · exact (isT b m).1
      · rw [(hu o h2).1]
        exact ⟨ha, by rw [List.length_map]; exact hl, vs, _, rv, ha⟩
    have TB : ∀ p ∈ cs, LamX.TabB (hidT s₁.heap H) mg p.1 p.2 := fun p hp => by
      have ht := tb p hp
      refine ⟨?_, ?_, fun z => ?_⟩
      · obtain ⟨o, us, x1, x2, x3, x4, x5, x6, x7, e1, r1, r2, r3, r4⟩ := tc p hp
        exact ⟨o, us, x1, x2, x3, x4, x5, x6, x7, lo e1 (free e1 (fun x n z => by rw [r2] at z; cases z) (fun z => by rw [r2] at z; cases z; simp at r3)), r1, r2, r3, r4⟩
      · obtain ⟨m, o, b1, b2, b3, b4, b5, b6⟩ := bm
        refine ⟨m, o, b1, b2, fun q => ?_, fun q => ?_, lo b3 (free b3 (fun x n z => by rw [b6] at z; cases z) (fun z => by rw [b6] at z; cases z)), b4, b5, b6⟩
        · obtain ⟨o2, es, ep, e, hd, _⟩ := gl
          rw [q, e] at b3
          cases b3
          rw [hd] at b6
          cases b6
        · rw [q, ht] at b3
          cases b3
          cases b6
      · obtain ⟨o2, es, ep, e, hd, _⟩ := gl
        rw [z, ht] at e
        cases e
        cases hd
    have e0 : Env0 P w K mg (hidT s₁.heap H) callerA [] s₁ H :=
      ⟨rfl, hM, fun b o q => of_hidT q, Nat.le_of_eq (hidT_size _ _), trivial, fun b hb => absurd (show b ∈ ([] : List Addr) from hb) (by simp), hok, .of_eq ge⟩
    refine codeAny_mono (run _ H kb (nsK gl) hS tabH TB e0) fun r s2 h => ?_
    cases r with
    | error e => exact h.elim
    | ok fl =>
      cases fl with
      | next => exact h.elim
      | brk => exact h.elim
      | cont => exact h.elim
      | ret y =>
        obtain ⟨v, H2, os, bare, un, hok2, ry, q⟩ := h
        obtain rfl : v = .bl true := q
        obtain rfl : y = Value.bool true := ry
        have tabs2 : ∀ p ∈ cs, ∃ more : Array Value, s2.heap.get? p.2 = some { cls := .none, data := .fields more } := fun p hp => by
          obtain ⟨more, z⟩ := un.tbls p.2 #[] (tabH p hp)
          exact ⟨_, hok2 p.2 _ z⟩
        have old : ∀ b o, b ∉ cs.map (·.2) → s₁.heap.get? b = some o → s2.heap.get? b = some o := fun b o nb e => by
          cases z : H b with
          | none => exact un.keep b o e z (fun y => absurd (show b ∈ ([] : List Addr) from y) (by simp)) (by simp)
          | some y =>
            rcases kinds b y z with ⟨m, _⟩ | ⟨rfl, h2⟩
            · exact absurd m nb
            · rw [(hu y h2).1] at z
              have z2 := un.frzs b _ _ z
              have k1 := (hok b _ z).1
              have k2 := (hok2 b _ z2).1
              rw [e] at k1
              cases k1
              exact k2
        refine ⟨rfl, ⟨fun b o e => ?_, fun b o e => ?_⟩, os, bare⟩
        · by_cases m : b ∈ cs.map (·.2)
          · obtain ⟨p, hp, rfl⟩ := List.mem_map.mp m
            obtain ⟨more, h3⟩ := tabs2 p hp
            rw [tb p hp] at e
            cases e
            exact .inr (.inl ⟨((tc p hp).tab (tb p hp)).isCodeTable, rfl, #[], more, rfl, by simpa using h3⟩)
          · exact .inl (old b o m e)
        · by_cases m : b ∈ cs.map (·.2)
          · obtain ⟨p, hp, rfl⟩ := List.mem_map.mp m
            obtain ⟨more, h3⟩ := tabs2 p hp
            exact ⟨_, h3⟩
          · exact ⟨o, old b o m e⟩
  cases hk : K.lookup a with
  | some o =>
    have e := KX a o hk
    rw [ha] at e
    cases e
    exact go none (fun o h => by cases h) (.inr ⟨_, vs.toArray, _, hk, rfl, rfl, rfl, by rw [List.size_toArray, lv]; exact hl, by simpa using rv⟩)
  | none => exact go (some (.frz { cls := .type "list", data := .seq vs.toArray } (.lst (ns.map V.int)))) (fun o h => ⟨(Option.some.inj h).symm, hk⟩) (.inl (.inr ⟨_, by unfold withTabs; rw [if_neg na, if_pos rfl]⟩))
/-- defs of the law whose tables are known -/
def TabsK (q : Program) (K : Params → PySem.W.Frag) : List (Str × Addr × Addr) → Prop
  | [] => True
  | t :: r => ((∃ d, (PyProof.Rows.recsOf q).find? (fun e => e.name == t.1) = some d) ∧ ∀ w : World, PySem.W.tabIn (K w.params) t.1 = some t.2 ∧ (K w.params).lookup t.2.2 = none) ∧ TabsK q K r
theorem TabsK.mem {q : Program} {K : Params → PySem.W.Frag} : ∀ {ts : List (Str × Addr × Addr)}, TabsK q K ts → ∀ t ∈ ts, (∃ d, (PyProof.Rows.recsOf q).find? (fun e => e.name == t.1) = some d) ∧ ∀ w : World, PySem.W.tabIn (K w.params) t.1 = some t.2 ∧ (K w.params).lookup t.2.2 = none
  | _ :: _, h, t, m => by
    rcases List.mem_cons.mp m with e | m
    · rw [e]; exact h.1
    · exact TabsK.mem h.2 t m
theorem walk_at_topT {l : PySem.W.OpenLaw} {n : Nat} {q : Program} {loose : List Str} {XP : (Str → Option Value) → Heap → Prop} {YP : World → Heap → Prop} {d : DefRec} {K : Params → PySem.W.Frag} {ts : List (Str × Addr × Addr)}
    (hn : l.most = some n) (hn2 : n ≤ sizeLine) (hdf : d.params.defaults = []) (hY : ∀ (w : World) (h : Heap), YP w h → (K w.params).In h) (ht : TabsK q K ts)
    (F : ∀ (w : World) (mg : Str → Option Value) (fa : Addr) (h : Heap), (K w.params).In h → h.Ns mainGlobals mg → mg d.name = some (.ref fa) →
      ∀ (s₁ : Shared) (base : Heap) (H : Hp) (a : Addr) (ns : List Int), ns.length ≤ n → (K w.params).In base → base.Ns mainGlobals mg → SqL (K w.params) H a (ns.map V.int) → (∀ t ∈ ts, H t.2.2 = some (.tbl #[])) → (∀ t ∈ ts, LamX.TabB base mg t.2.1 t.2.2) → (∀ t ∈ ts, PySem.W.tabIn (K w.params) t.1 = some t.2) → Env0 l.prog w (K w.params) mg base callerA [] s₁ H →
        codeAny (model l.prog w) callerA (.call (.ref fa) ⟨[.ref a], []⟩) (CR CX0 [] l.prog w H s₁ (fun v _ => v = V.bl true) fun _ _ _ => False) s₁) :
    PySem.W.WalkO q loose XP YP l.row.toRowW d [] (fun f vs => PySem.call f vs) := by
  refine Att.attach_call hn hdf fun w s₀ s₁ mg mb fa o pm cd doc a vs ns G Y ho hd hcd hmg hobj hints hlen hg => ?_
  have KX := hY w _ Y
  have tt : ∀ t ∈ ts, PySem.W.CodeHd s₁.heap t.2.1 t.2.2 ∧ s₁.heap.get? t.2.2 = some (PySem.W.tabObj #[]) := fun t m => by
    obtain ⟨⟨d2, h1⟩, h2⟩ := ht.mem t m
    exact PySem.W.tab_of G.T KX h1 (h2 w).1
  have mm : ∀ {A : (Addr × Addr) → Prop}, (∀ t ∈ ts, A t.2) → ∀ p ∈ ts.map (·.2), A p := fun h p hp => by
    obtain ⟨t, m, rfl⟩ := List.mem_map.mp hp
    exact h t m
  exact end_atT (cs := ts.map (·.2)) KX G.T.g G.T.b G.T.builtins G.T.nolimit hg (mm fun t m => (tt t m).2) (mm fun t m => ((ht.mem t m).2 w).2) (mm fun t m => (tt t m).1) G.T.bmain hobj hints (Nat.le_trans hlen hn2)
    fun base H h1 h2 h3 h4 h5 h6 => F w mg fa _ KX G.T.g hmg s₁ base H a ns hlen h1 h2 h3 (fun t m => h4 t.2 (List.mem_map.mpr ⟨t, m, rfl⟩)) (fun t m => h5 t.2 (List.mem_map.mpr ⟨t, m, rfl⟩)) (fun t m => ((ht.mem t m).2 w).1) h6
theorem tabIn_mk {K : PySem.W.Frag} {x : Str} {f c P : Addr} {v1 v2 : Value} {o1 o2 : Option Addr} {s1 s2 : Array (Option Value)} {fd : FuncData} {vs : Array Value} (h1 : PySem.W.nsIn K mainGlobals x = some (some (.ref f))) (h2 : K.lookup f = some ⟨v1, o1, .func fd, s1⟩) (h3 : fd.code = .ref c) (h4 : K.lookup c = some ⟨v2, o2, .fields vs, s2⟩) (h5 : vs[11]? = some (.ref P)) : PySem.W.tabIn K x = some (c, P) := by
  unfold PySem.W.tabIn
  rw [h1]
  dsimp only
  rw [h2]
  dsimp only
  rw [h3]
  dsimp only
  rw [h4]
  dsimp only
  rw [h5]
/-- the code object of a def whose table is known -/
theorem code_of {K : PySem.W.Frag} {h : Heap} {mg : Str → Option Value} {x qual : Str} {st : Stmt} {f c P : Addr} {fd : FuncData} (X : K.In h) (G : h.Ns mainGlobals mg) (F : Fun K x qual st f fd) (hm : mg x = some (.ref f)) (ht : PySem.W.tabIn K x = some (c, P)) : fd.code = .ref c := by
  obtain ⟨oc, od, kV, doc, pm, an, cdv, ct, osl, rfl, lk, hcd⟩ := F.ex
  exact PySem.W.law_code X G ht hm (X _ _ lk) rfl
section
variable {P : Program} {w : World} {K : PySem.W.Frag} {mg : Str → Option Value} {base : Heap}
theorem tab0 {F : Hp} (q : Str) : TabO F (.tbl #[]) q := ⟨#[], rfl, True.intro, fun z x h => by
  have h2 : codeAmong z [] = some x := h
  simp [codeAmong] at h2⟩
theorem src_newT {H : Hp} {sa c tp : Addr} {q : Str} {cs : List Int} {z : Int} (n : c ≠ sa) (h1 : H sa = some (.lst [.ref c, .int 0, .int 0, .int z])) (h2 : H c = some (.lst (cs.map V.int))) (h3 : H tp = some (.tbl #[])) (l0 : 0 < cs.length) (l1 : cs.length ≤ 63) (z0 : 0 ≤ z) (z1 : z < 2147483647) :
    ∃ F M, Rl K F H M ∧ M sa = some (.src true) ∧ M tp = some (.tab q) := by
  have n1 : tp ≠ sa := ne_of h3 h1 (fun z => by cases z)
  have n2 : tp ≠ c := ne_of h3 h2 (fun z => by cases z)
  refine ⟨fun b => if b = c then some (.lst (cs.map V.int)) else none, mset (fun b => if b = sa then some (.src true) else none) tp (.tab q), ⟨fun b u h => ?_, fun b o h => ?_, fun b o h => ?_⟩, ?_, mset_same⟩
  · have h' : (if b = c then some (HO.lst (cs.map V.int)) else none) = some u := h
    split at h'
    · rename_i e
      rw [e, h2]
      exact h'
    · cases h'
  · by_cases e : b = tp
    · rw [e]
      exact if_neg n2
    · rw [mset_ne e] at h
      have h' : (if b = sa then some (MO.src true) else none) = some o := h
      split at h'
      · rename_i e2
        exact if_neg (fun z => n (by rw [← z, e2]))
      · cases h'
  · by_cases e : b = tp
    · subst e
      rw [mset_same] at h
      cases h
      exact ⟨_, h3, tab0 q⟩
    · rw [mset_ne e] at h
      have h' : (if b = sa then some (MO.src true) else none) = some o := h
      split at h'
      · rename_i e2
        cases h'
        exact ⟨_, by rw [e2]; exact h1, _, rfl, c, cs, 0, 0, z, rfl, SqL.of (if_pos rfl), l1, fun _ => l0, by decide, by decide, z0, by rw [if_pos rfl]; exact z1⟩
      · cases h'
  · rw [mset_ne (fun z => n1 z.symm)]
    exact if_pos rfl
/-- law_at, a table known -/
theorem law_atT {f tp : Addr} {q : Str} {fd : FuncData} {k : Nat} {st : Stmt} {N : List Str} {s : Shared} {H : Hp} {a : Addr} {ns : List Int} (F : Fun K "law" "law" st f fd) (S : FnScope N ["_law_script"] (defScope st)) (hS : SqL K H a (ns.map V.int)) (hT : H tp = some (.tbl #[])) (e0 : Env0 P w K mg base callerA [] s H) (hk : Room (k + 1) callerA) (hbi : Binds K fd ["_law_script"] [])
    (hb : ∀ cdv : Value, (callerA.deeper (envOfC "law" (defScope st) s.heap.objs.size f cdv)).guards = some [] → Room k (callerA.deeper (envOfC "law" (defScope st) s.heap.objs.size f cdv)) →
      ∃ (E : XK) (t : TS) (T : TDS), PSs (cxOf CX0 P w K mg base N "law" (defScope st) f cdv callerA [] s H (fun _ _ _ => False)).nox (defBody st) (tSeq (tAsg (tCall (spState K) [] E (tCons (tVar 0) tNil)) (gName 1)) t) ∧ SSt K (fun _ _ _ _ => False) (fun _ _ _ => False) t T ∧
        ∀ (sa : Addr) (M : Mem), M sa = some (.src true) ∧ M tp = some (.tab q) → T (endD fun x _ => x = .d (.bool true)) (put (start0 N.length [.o (.ref a)]) 1 (some (.r sa))) M) :
    codeAny (model P w) callerA (.call (.ref f) ⟨[.ref a], []⟩) (CR CX0 [] P w H s (fun v _ => v = V.bl true) fun _ _ _ => False) s := by
  have KX : K.In s.heap := e0.mod.kin.keeps fun b o q => (e0.bs b o q).1
  refine run_at (k := k) (vs := [V.ref a]) (us := [Value.ref a]) F S hk e0 (hbi s [.ref a] KX rfl) (.cons rfl .nil) rfl (fun cdv hr => ?_)
  obtain ⟨E, t, T, h1, h2, h3⟩ := hb cdv rfl hr
  refine ⟨_, h1, V.ref a, by (have hst : L2.start N [V.ref a] = some (V.ref a) :: List.replicate (N.length - 1) none := rfl); rw [hst]; rfl, a, ns, rfl, hS, fun sa c cs z H' e hsa hc n q1 q2 l0 l1 z0 z1 => ?_⟩
  obtain ⟨F1, M1, r1, hM⟩ := src_newT (K := K) (q := q) n q1 q2 (e _ _ hT) l0 l1 z0 z1
  refine h2 F1 H' M1 _ _ _ _ r1 (fun F' H' M' σ ρ cls d x _ _ _ _ z => z) ((rel_start (N := N) (K := K) (F := F1) (.cons (.o (V.ref a)) .nil)).set (.r sa) 1) (h3 sa M1 hM) ?_
  exact ek_def (Q := fun v _ => v = V.bl true) fun v H2 F2 M2 x r g rx q => by
    subst q
    exact rx.bl
end
end Tl
set_option Elab.async false
set_option linter.all false
set_option maxRecDepth 100000
set_option maxHeartbeats 8000000
namespace Tl
open PySem L2 RZ
local macro_rules
  | `(tactic| decreasing_trivial) => `(tactic| ((with_reducible (conv => whnf)); (repeat ((first | (with_reducible refine gDs_c ?_) | (with_reducible refine gDs_n ?_) | (with_reducible refine gNs_c ?_) | (with_reducible refine gNs_n ?_) | (with_reducible refine gO_i tyAny_lt ?_) | (with_reducible refine gIs_c ?_) | (with_reducible refine gIs_n ?_) | (with_reducible refine gBs_c ?_) | (with_reducible refine gBs_n ?_) | (with_reducible refine gSs_c ?_) | (with_reducible refine gSs_n ?_) | (with_reducible refine gO_i tyIs_int ?_) | (with_reducible refine gO_i tyIs_bool ?_) | (with_reducible refine gO_i tyIs_str ?_) | (with_reducible refine gO_i tyIs_tuple ?_) | (with_reducible refine gO_i tyIs_list ?_) | (with_reducible refine gDs_i ?_) | (with_reducible refine gO_i (Eq.refl _) ?_) | (with_reducible refine gO_i (by assumption) ?_) | (with_reducible refine gO_i at_0 ?_) | (with_reducible refine gO_i at_m0 ?_) | (with_reducible refine gO_i at_1 ?_) | (with_reducible refine gO_i at_m1 ?_) | (with_reducible refine gO_i at_2 ?_) | (with_reducible refine gO_i at_m2 ?_) | (with_reducible refine gO_i at_3 ?_) | (with_reducible refine gO_i at_m3 ?_) | (with_reducible refine gO_i at_4 ?_) | (with_reducible refine gO_i at_m4 ?_) | (with_reducible refine gO_i at_5 ?_) | (with_reducible refine gO_i at_m5 ?_) | (with_reducible refine gO_i at_6 ?_) | (with_reducible refine gO_i at_m6 ?_) | (with_reducible refine gO_i at_7 ?_) | (with_reducible refine gO_i at_m7 ?_) | (with_reducible refine IfB.ngf ?_) | (with_reducible refine IfB.ngt ?_) | (with_reducible refine IfB.not ?_) | (with_reducible refine IfB.nil ?_) | (with_reducible refine IfB.nilT ?_) | (with_reducible refine IfB.f isE_c ?_) | (with_reducible refine IfB.t isE_n ?_) | (with_reducible refine IfB.t ?gha ?_; (case gha => rfl)) | (with_reducible refine IfB.f ?gha ?_; (case gha => rfl)) | (with_reducible refine IfB.t ?gha ?_; (case gha => assumption)) | (with_reducible refine IfB.f ?gha ?_; (case gha => assumption)) | (with_reducible refine IfB.yes (Eq.refl _) ?_) | (with_reducible refine IfB.yes ?gha ?_; (case gha => (first | omega | (simp only [len_c, len_n, List.length_map]; omega)))) | (with_reducible refine IfB.no ?gha ?_; (case gha => (first | omega | (simp only [len_c, len_n, List.length_map]; omega)))) | (with_reducible refine IfB.t ?gha ?_; (case gha => decide +kernel)) | (with_reducible refine IfB.f ?gha ?_; (case gha => decide +kernel))); (with_reducible (conv => whnf))))))
local macro_rules
  | `(tactic| decreasing_trivial_pre_omega) => `(tactic| (decreasing_trivial; (repeat ((first | ((with_reducible refine And.intro ?gha ?_); (case gha => (first | assumption | omega | exact rfl | (exact mset_same) | (exact ⟨_, mset_same⟩) | (exact Exists.intro _ (by first | exact mset_same | assumption | (rw [mset_ne (by assumption)]; first | exact mset_same | assumption))) | (exact sm_of (by omega) (by omega)) | (exact sz1000 (by first | omega | (simp; done) | (simp; omega))) | (exact Or.inl ⟨by decide, by decide⟩) | decide | (simp; done) | (refine ⟨?_, ?_⟩ <;> (first | assumption | omega | exact rfl | (exact mset_same) | (exact ⟨_, mset_same⟩) | (exact Exists.intro _ (by first | exact mset_same | assumption | (rw [mset_ne (by assumption)]; first | exact mset_same | assumption))) | (exact sm_of (by omega) (by omega)) | (exact sz1000 (by first | omega | (simp; done) | (simp; omega))) | (exact Or.inl ⟨by decide, by decide⟩) | decide | (simp; done))) | (refine ⟨?_, ?_, ?_⟩ <;> (first | assumption | omega | exact rfl | (exact mset_same) | (exact ⟨_, mset_same⟩) | (exact Exists.intro _ (by first | exact mset_same | assumption | (rw [mset_ne (by assumption)]; first | exact mset_same | assumption))) | (exact sm_of (by omega) (by omega)) | (exact sz1000 (by first | omega | (simp; done) | (simp; omega))) | (exact Or.inl ⟨by decide, by decide⟩) | decide | (simp; done))) | (refine ⟨?_, ?_, ?_, ?_⟩ <;> (first | assumption | omega | exact rfl | (exact mset_same) | (exact ⟨_, mset_same⟩) | (exact Exists.intro _ (by first | exact mset_same | assumption | (rw [mset_ne (by assumption)]; first | exact mset_same | assumption))) | (exact sm_of (by omega) (by omega)) | (exact sz1000 (by first | omega | (simp; done) | (simp; omega))) | (exact Or.inl ⟨by decide, by decide⟩) | decide | (simp; done)))))) | (with_reducible refine exW (by first | exact mset_same | assumption | (rw [mset_ne (by assumption)]; first | exact mset_same | assumption)) ?_)); decreasing_trivial))))
def qLam : Str := "_law_order" ++ ".<locals>." ++ "<lambda>"
@[reducible] def tfOrder (tp : Addr) : TF := fun ws M R _ => ∃ (T : AT) (i : Nat) (z : Str), ws = [.r T.root, .d (.str z)] ∧ (T.ok M ∧ TrT 30 (T.tel tgF) ∧ nn (T.tel tgF) ≤ 60 ∧ ordsL[i]? = some z ∧ M tp = some (.tab qLam)) ∧ R (.d (.list ((ordT i T).map numD))) M
section
variable {P : Program} {w : World} {K : PySem.W.Frag} {mg : Str → Option Value} {base : Heap}
abbrev sOrder : Stmt := top 32
theorem scOrder : FnScope ["_law_live_here", "_law_how", "_law_pairs", "_law_pair"] ["_law_live_here", "_law_how"] (defScope sOrder) := ⟨rfl, rfl, rfl, by decide +kernel, rfl, by decide +kernel, by decide +kernel⟩
theorem ok_order {f c tp : Addr} {fd : FuncData} {k j : Nat} (F : Fun K "_law_order" "_law_order" sOrder f fd) (hc : fd.code = .ref c) (TB : LamX.TabB base mg c tp) (U_law_numbers : Use P w K mg base "_law_numbers" ["_law_live_here", "_law_path"] j (spD K 2 (tfNums 30))) (U_law_find : Use P w K mg base "_law_find" ["_law_live_here", "_law_path"] j (spD K 2 tfFind)) (hj : j ≤ k) (T : Bl mg) (mSrt : mg "sorted" = none) : FnOk P w K mg base CX0 (k + 1) f fd ["_law_live_here", "_law_how"] (spD K 2 (tfOrder tp)) := by
  refine okDC F scOrder rfl hc fun A outer s H E hr => ?_
  refine ⟨_, _, (pss_cons (ps_set (i := 2) scOrder.nd rfl (.inl rfl) (pe_call U_law_numbers.ok (hr.mono (by omega)) rfl U_law_numbers.m U_law_numbers.kp U_law_numbers.b .nil pass0 (pa_cons (pv 0) (pa_cons (pe_tup pa_nil) pa_nil))))
    (pss_cons (ps_if (pt_cmpR op_eq (pv 1) pe_str (nomark _)) (pss_one (ps_ret (pe_sortedK (P := tp) (room62 hr) hr.depth rfl mSrt T.len (pa_cons (pv 2) pa_nil) TB rfl (show _ = qLam from rfl) rfl ⟨rfl, rfl, rfl, rfl, by decide, by decide⟩ fn_kL (ev_kL rfl rfl rfl T.len) (fun _ _ _ _ => rfl)))) pss_nil)
    (pss_cons (ps_if (pt_cmpR op_eq (pv 1) pe_str (nomark _)) (pss_one (ps_ret (pe_sortedK (P := tp) (room62 hr) hr.depth rfl mSrt T.len (pa_cons (pv 2) pa_nil) TB rfl (show _ = qLam from rfl) rfl ⟨rfl, rfl, rfl, rfl, by decide, by decide⟩ fn_kB (ev_kB rfl rfl) (fun _ _ _ _ => rfl)))) pss_nil)
    (pss_cons (ps_if (pt_cmpR op_eq (pv 1) pe_str (nomark _)) (pss_one (ps_ret (pe_lc (own := [("_law_pair", 3)]) (g := gName 3) (by rfl) scOrder.nd (pi_list (pv 2)) (blkOk_by (N := ["_law_live_here", "_law_how", "_law_pairs", "_law_pair"]) (sc := defScope sOrder) (own := [("_law_pair", 3)]) (by decide +kernel)) (fun _ _ _ _ _ => pg_name (i := 3) scOrder.nd rfl (Or.inl rfl)) (fun _ _ _ _ _ => (pts_one (pt_cmpR (op_eqN hr.units) (pe_ix ix_list (pe_call U_law_find.ok (hr.mono (by omega)) rfl U_law_find.m U_law_find.kp U_law_find.b .nil pass0 (pa_cons (pv 0) (pa_cons (pe_ix ix_tup (pv 3) pe_int (fun _ _ => rfl)) pa_nil))) pe_int (fun _ _ => rfl)) (pe_lst pa_nil) (nomark _)))) (fun _ _ _ _ _ => (pv 3))))) pss_nil)
    (pss_one (ps_ret (pv 2))))))),
    (ss_cons (ss_set (se_call (sa_cons se_nm (sa_cons (se_tup sa_nil) sa_nil))))
    (ss_cons (ss_if (st_test (se_op so_eqS se_nm se_str)) (ss_ret (se_sortedKF (sa_cons se_nm sa_nil))) ss_nil)
    (ss_cons (ss_if (st_test (se_op so_eqS se_nm se_str)) (ss_ret (se_sortedKF (sa_cons se_nm sa_nil))) ss_nil)
    (ss_cons (ss_if (st_test (se_op so_eqS se_nm se_str)) (ss_ret (se_lcF (si_lst se_nm) sg_name (st_test (se_op so_eqN (se_op so_ixL (se_call (sa_cons se_nm (sa_cons (se_op so_ixT se_nm se_int) sa_nil))) se_int) (se_lsf sa_nil))) se_nm)) ss_nil)
    (ss_ret se_nm))))), fun ws M R RX hl h => ?_⟩
  obtain ⟨T1, i, z, rfl, ⟨ho, ht, hn, hz, hM⟩, h3⟩ := h
  simp only [start0, len_c, len_n, map_c, map_n, app_c, app_n, rep_0, rep_s, Nat.reduceAdd, Nat.reduceSub]
  decreasing_trivial_pre_omega
  refine ⟨T1, [], rfl, ⟨ho, ht, by omega, by decide⟩, ?_⟩
  have h0 := npl_plc0 T1
  have hlen : (T1.npl []).length ≤ 60 := by
    rw [← List.length_map (f := (·.2)), h0, plc_len ht]
    exact hn
  have hp : ∀ x ∈ T1.npl [], x.2.length < 30 := fun x hx => by
    have hq : x.2 ∈ plc (T1.tel tgF) := by rw [← h0]; exact List.mem_map_of_mem hx
    obtain ⟨e, he⟩ := plc_sub ht _ hq
    obtain ⟨s0, ks, _, h1, _⟩ := node_at ht he
    omega
  have hk : ∀ d ∈ (T1.npl []).map numD, KOk d := fun d hd => by
    obtain ⟨x, hx, rfl⟩ := List.mem_map.mp hd
    exact kok_num x (by have := hp x hx; omega)
  match i, hz with
  | 0, hz =>
    cases hz
    decreasing_trivial_pre_omega
    exact h3
  | 1, hz =>
    cases hz
    decreasing_trivial_pre_omega
    rw [srt_kB]
    exact h3
  | 2, hz =>
    cases hz
    decreasing_trivial_pre_omega
    rw [srt_kL]
    exact h3
  | 3, hz =>
    cases hz
    decreasing_trivial_pre_omega
    rw [List.map_map]
    refine lc1f (xs := T1.npl []) (f := W.d ∘ numD) (fun x => decide (kidsN (T1.tel tgF) x.2 = 0)) (fun x => W.d (numD x)) trivial (fun x hx Rk Rn k1 k2 => ?_) (sz1000 (by omega)) ?_
    · obtain ⟨r, s1, e1, e2, e3⟩ := (npl_mem T1 [] x.1 x.2).mp hx
      rw [List.nil_append] at e1
      rw [e1, kidsN_at e2] at k1 k2
      obtain ⟨u1, u2, u3⟩ := ok_eta.mp (at_ok ho e2)
      show tbT _ (put _ 3 (some (.d (.tuple [.int x.1, pathD x.2])))) _ _
      rw [e1]
      decreasing_trivial_pre_omega
      refine ⟨T1, s1, r, rfl, ⟨ho, e2⟩, ?_⟩
      decreasing_trivial_pre_omega
      have re : (rootsW s1.kids).isEmpty = decide (s1.kids.length = 0) := by
        rw [← roots_len]
        cases rootsW s1.kids <;> rfl
      rw [re]
      exact IfB.of (fun c => k1 c) (fun c => k2 c)
    · rw [← mapW]
      exact gDs_i h3
  | _ + 4, hz => simp [ordsL] at hz
end
end Tl
set_option Elab.async false
set_option linter.all false
set_option maxRecDepth 100000
set_option maxHeartbeats 8000000
namespace Tl
open PySem L2 RZ
local macro_rules
  | `(tactic| decreasing_trivial) => `(tactic| ((with_reducible (conv => whnf)); (repeat ((first | (with_reducible refine gDs_c ?_) | (with_reducible refine gDs_n ?_) | (with_reducible refine gNs_c ?_) | (with_reducible refine gNs_n ?_) | (with_reducible refine gO_i tyAny_lt ?_) | (with_reducible refine gIs_c ?_) | (with_reducible refine gIs_n ?_) | (with_reducible refine gBs_c ?_) | (with_reducible refine gBs_n ?_) | (with_reducible refine gSs_c ?_) | (with_reducible refine gSs_n ?_) | (with_reducible refine gO_i tyIs_int ?_) | (with_reducible refine gO_i tyIs_bool ?_) | (with_reducible refine gO_i tyIs_str ?_) | (with_reducible refine gO_i tyIs_tuple ?_) | (with_reducible refine gO_i tyIs_list ?_) | (with_reducible refine gDs_i ?_) | (with_reducible refine gO_i (Eq.refl _) ?_) | (with_reducible refine gO_i (by assumption) ?_) | (with_reducible refine gO_i at_0 ?_) | (with_reducible refine gO_i at_m0 ?_) | (with_reducible refine gO_i at_1 ?_) | (with_reducible refine gO_i at_m1 ?_) | (with_reducible refine gO_i at_2 ?_) | (with_reducible refine gO_i at_m2 ?_) | (with_reducible refine gO_i at_3 ?_) | (with_reducible refine gO_i at_m3 ?_) | (with_reducible refine gO_i at_4 ?_) | (with_reducible refine gO_i at_m4 ?_) | (with_reducible refine gO_i at_5 ?_) | (with_reducible refine gO_i at_m5 ?_) | (with_reducible refine gO_i at_6 ?_) | (with_reducible refine gO_i at_m6 ?_) | (with_reducible refine gO_i at_7 ?_) | (with_reducible refine gO_i at_m7 ?_) | (with_reducible refine IfB.ngf ?_) | (with_reducible refine IfB.ngt ?_) | (with_reducible refine IfB.not ?_) | (with_reducible refine IfB.nil ?_) | (with_reducible refine IfB.nilT ?_) | (with_reducible refine IfB.f isE_c ?_) | (with_reducible refine IfB.t isE_n ?_) | (with_reducible refine IfB.t ?gha ?_; (case gha => rfl)) | (with_reducible refine IfB.f ?gha ?_; (case gha => rfl)) | (with_reducible refine IfB.t ?gha ?_; (case gha => assumption)) | (with_reducible refine IfB.f ?gha ?_; (case gha => assumption)) | (with_reducible refine IfB.yes (Eq.refl _) ?_) | (with_reducible refine IfB.yes ?gha ?_; (case gha => (first | omega | (simp only [len_c, len_n, List.length_map]; omega)))) | (with_reducible refine IfB.no ?gha ?_; (case gha => (first | omega | (simp only [len_c, len_n, List.length_map]; omega)))) | (with_reducible refine IfB.t ?gha ?_; (case gha => decide +kernel)) | (with_reducible refine IfB.f ?gha ?_; (case gha => decide +kernel))); (with_reducible (conv => whnf))))))
local macro_rules
  | `(tactic| decreasing_trivial_pre_omega) => `(tactic| (decreasing_trivial; (repeat ((first | ((with_reducible refine And.intro ?gha ?_); (case gha => (first | assumption | omega | exact rfl | (exact mset_same) | (exact ⟨_, mset_same⟩) | (exact Exists.intro _ (by first | exact mset_same | assumption | (rw [mset_ne (by assumption)]; first | exact mset_same | assumption))) | (exact sm_of (by omega) (by omega)) | (exact sz1000 (by first | omega | (simp; done) | (simp; omega))) | (exact Or.inl ⟨by decide, by decide⟩) | decide | (simp; done) | (refine ⟨?_, ?_⟩ <;> (first | assumption | omega | exact rfl | (exact mset_same) | (exact ⟨_, mset_same⟩) | (exact Exists.intro _ (by first | exact mset_same | assumption | (rw [mset_ne (by assumption)]; first | exact mset_same | assumption))) | (exact sm_of (by omega) (by omega)) | (exact sz1000 (by first | omega | (simp; done) | (simp; omega))) | (exact Or.inl ⟨by decide, by decide⟩) | decide | (simp; done))) | (refine ⟨?_, ?_, ?_⟩ <;> (first | assumption | omega | exact rfl | (exact mset_same) | (exact ⟨_, mset_same⟩) | (exact Exists.intro _ (by first | exact mset_same | assumption | (rw [mset_ne (by assumption)]; first | exact mset_same | assumption))) | (exact sm_of (by omega) (by omega)) | (exact sz1000 (by first | omega | (simp; done) | (simp; omega))) | (exact Or.inl ⟨by decide, by decide⟩) | decide | (simp; done))) | (refine ⟨?_, ?_, ?_, ?_⟩ <;> (first | assumption | omega | exact rfl | (exact mset_same) | (exact ⟨_, mset_same⟩) | (exact Exists.intro _ (by first | exact mset_same | assumption | (rw [mset_ne (by assumption)]; first | exact mset_same | assumption))) | (exact sm_of (by omega) (by omega)) | (exact sz1000 (by first | omega | (simp; done) | (simp; omega))) | (exact Or.inl ⟨by decide, by decide⟩) | decide | (simp; done)))))) | (with_reducible refine exW (by first | exact mset_same | assumption | (rw [mset_ne (by assumption)]; first | exact mset_same | assumption)) ?_)); decreasing_trivial))))
open PySem.SeqAt (isS)
theorem bootVE : bootBuiltins "ValueError" = some (.type "ValueError") := by decide +kernel
theorem kit2 {K : PySem.W.Frag} {a b c : Value} {p q : Bool} (h1 : PySem.W.kitOne K a b = some p) (h2 : PySem.W.kitOne K a c = some q) : PySem.W.kitAny K a [b, c] = some (p || q) := by
  cases p <;> cases q <;> simp [PySem.W.kitAny, h1, h2]
structure Cls (K : PySem.W.Frag) (mg : Str → Option Value) where
  c_TreeError : Addr
  c_NoThing : Addr
  c_NoTree : Addr
  c_NoPath : Addr
  c_NoOrder : Addr
  m_TreeError : mg "TreeError" = some (.ref c_TreeError)
  m_NoThing : mg "NoThing" = some (.ref c_NoThing)
  m_NoTree : mg "NoTree" = some (.ref c_NoTree)
  m_NoPath : mg "NoPath" = some (.ref c_NoPath)
  m_NoOrder : mg "NoOrder" = some (.ref c_NoOrder)
  e_NoTree : Er K mg "NoTree" c_NoTree
  x_NoTree : ExcC K c_NoTree
  v_NoTree : PySem.W.kitOne K (.ref c_NoTree) (.type "ValueError") = some true
  k_NoTree_TreeError : PySem.W.kitOne K (.ref c_NoTree) (.ref c_TreeError) = some true
  k_NoTree_NoThing : PySem.W.kitOne K (.ref c_NoTree) (.ref c_NoThing) = some true
  k_NoTree_NoTree : PySem.W.kitOne K (.ref c_NoTree) (.ref c_NoTree) = some true
  k_NoTree_NoPath : PySem.W.kitOne K (.ref c_NoTree) (.ref c_NoPath) = some false
  k_NoTree_NoOrder : PySem.W.kitOne K (.ref c_NoTree) (.ref c_NoOrder) = some false
  h_NoTree_TreeError : PySem.W.exmOne K (.ref c_NoTree) (.ref c_TreeError) = some true
  e_NoOrder : ErF K mg "NoOrder" "NoOrder.__init__" "how" sI_NoOrder c_NoOrder
  x_NoOrder : ExcC K c_NoOrder
  v_NoOrder : PySem.W.kitOne K (.ref c_NoOrder) (.type "ValueError") = some true
  k_NoOrder_TreeError : PySem.W.kitOne K (.ref c_NoOrder) (.ref c_TreeError) = some true
  k_NoOrder_NoThing : PySem.W.kitOne K (.ref c_NoOrder) (.ref c_NoThing) = some true
  k_NoOrder_NoTree : PySem.W.kitOne K (.ref c_NoOrder) (.ref c_NoTree) = some false
  k_NoOrder_NoPath : PySem.W.kitOne K (.ref c_NoOrder) (.ref c_NoPath) = some false
  k_NoOrder_NoOrder : PySem.W.kitOne K (.ref c_NoOrder) (.ref c_NoOrder) = some true
  h_NoOrder_TreeError : PySem.W.exmOne K (.ref c_NoOrder) (.ref c_TreeError) = some true
inductive RCase (x y : PyData) : Str → Prop
  | nt : isTreeD x = false → RCase x y "NoTree"
  | no : isTreeD x = true → isOrd y = false → RCase x y "NoOrder"
@[reducible] def tfRef : TF := fun ws M R _ => ∃ x y z, ws = [.d x, .d y, .d (.str z)] ∧ (txt x = true ∧ dtOk y = true ∧ GdE y ∧ RCase x y z) ∧ R (.d (.bool true)) M
section
variable {P : Program} {w : World} {K : PySem.W.Frag} {mg : Str → Option Value} {base : Heap}
abbrev sRef : Stmt := top 33
theorem scRef : FnScope ["_law_tree_here", "_law_how", "_law_name", "_law_caught", "error"] ["_law_tree_here", "_law_how", "_law_name"] (defScope sRef) := ⟨rfl, rfl, rfl, by decide +kernel, rfl, by decide +kernel, by decide +kernel⟩
theorem ok_ref {f : Addr} {fd : FuncData} {k j : Nat} (F : Fun K "_law_refused" "_law_refused" sRef f fd) (A : Cls K mg) (Uin_order : UseX P w K mg base "in_order" ["tree", "how"] j (spD K 2 (tfInO A.c_NoTree A.c_NoOrder))) (hj : j ≤ k) (T : Bl mg) (mVE : mg "ValueError" = none) (xfO : XfC K A.c_NoOrder) : FnG P w K mg base (k + 1) f fd ["_law_tree_here", "_law_how", "_law_name"] (spD K 3 tfRef) := by
  refine okDG F scRef rfl fun cdv A' outer s H E hgu hr => ?_
  have hun : (A'.deeper (PyProof.Rows.envOfC "_law_refused" (defScope sRef) s.heap.objs.size f cdv)).units + 200 < cLine := by
    have := hr.un
    omega
  refine ⟨_, _, (pss_cons (ps_set (i := 3) scRef.nd rfl (.inl rfl) pe_non)
    (pss_cons (ps_try_keep (i := 4) (Wout := fun _ _ _ _ => False) rfl rfl rfl scRef.nd rfl rfl ⟨rfl, by decide, .inl A.m_TreeError⟩ takes0
    (fun W pn xe tk _ => (pss_one (ps_expr (pe_callS Uin_order.ok (hr.mono (by omega)) rfl Uin_order.m Uin_order.kp Uin_order.b (fun σ => passAt tk σ) (pa_cons (pv 0) (pa_cons (pv 1) pa_nil))))))
    (fun a oe cls d pn hz hf => (pss_one (ps_set (i := 3) scRef.nd rfl (.inl rfl) (pv 4)))))
    (pss_cons (ps_if (pt_cmpR op_eq (pv 2) pe_str (nomark _)) (pss_one (ps_ret (pe_and (pe_callB (r := rIsK K) call_isK (by rfl) T.isi PyProof.Rows.boot_isinstance (pa_cons (pv 3) (pa_cons (pe_glob (v := .ref A.c_NoTree) (by rfl) A.m_NoTree rfl) pa_nil))) (pe_one (pe_not (pe_callB (r := rIsKT K) call_isKT (by rfl) T.isi PyProof.Rows.boot_isinstance (pa_cons (pv 3) (pa_cons (pe_tup (pa_cons (pe_glob (v := .ref A.c_NoOrder) (by rfl) A.m_NoOrder rfl) (pa_cons (pe_glob (v := .ref A.c_NoPath) (by rfl) A.m_NoPath rfl) pa_nil))) pa_nil)))))))) pss_nil)
    (pss_cons (ps_if (PW.pt (pw_or (pt_not (pt_val (pe_callB (r := rIsK K) call_isK (by rfl) T.isi PyProof.Rows.boot_isinstance (pa_cons (pv 3) (pa_cons (pe_glob (v := .ref A.c_NoOrder) (by rfl) A.m_NoOrder rfl) pa_nil))))) (pw_or (pt_val (pe_callB (r := rIsKT K) call_isKT (by rfl) T.isi PyProof.Rows.boot_isinstance (pa_cons (pv 3) (pa_cons (pe_tup (pa_cons (pe_glob (v := .ref A.c_NoTree) (by rfl) A.m_NoTree rfl) (pa_cons (pe_glob (v := .ref A.c_NoPath) (by rfl) A.m_NoPath rfl) pa_nil))) pa_nil)))) (pw_or1 (pt_not (pt_val (pe_callB (r := rIsK K) call_isK (by rfl) T.isi PyProof.Rows.boot_isinstance (pa_cons (pv 3) (pa_cons (pe_bltn (v := .ty "ValueError") (by rfl) mVE bootVE rfl) pa_nil))))))))) (pss_one (ps_ret pe_bl)) pss_nil)
    (pss_one (ps_ret (pe_cmpR op_eq (pe_callB (call_reprD hgu hun) (by rfl) T.repr PyProof.Rows.boot_repr (pa_cons (pe_kf xfO A.e_NoOrder.n (pv 3)) pa_nil)) (pe_callB (call_reprD hgu hun) (by rfl) T.repr PyProof.Rows.boot_repr (pa_cons (pv 1) pa_nil)) (nomark _)))))))),
    (ss_cons (ss_set se_non)
    (ss_cons (ss_tryA (fun Wx RE => (ss_drop (se_callX (sa_cons se_nm (sa_cons se_nm sa_nil))))))
    (ss_cons (ss_if (st_test (se_op so_eqS se_nm se_str)) (ss_ret (se_and (se_cb sc_isK (sa_cons se_nm (sa_cons se_o sa_nil))) (se_not (se_isKT se_nm (sa_cons se_o (sa_cons se_o sa_nil)))))) ss_nil)
    (ss_cons (ss_if (st_or (st_not (st_val (se_cb sc_isK (sa_cons se_nm (sa_cons se_o sa_nil))))) (st_or (st_val (se_isKT se_nm (sa_cons se_o (sa_cons se_o sa_nil)))) (st_not (st_val (se_cb sc_isK (sa_cons se_nm (sa_cons se_o sa_nil))))))) (ss_ret se_bl) ss_nil)
    (ss_ret (se_op so_eqS (se_cb sc_repr (sa_cons (se_kfN (C0 := A.c_NoOrder) se_nm) sa_nil)) (se_cb sc_repr (sa_cons se_nm sa_nil)))))))), fun ws M R RX hl h => ?_⟩
  obtain ⟨x, y, z, rfl, ⟨t1, t2, gy, hc⟩, q3⟩ := h
  have sy := gy.sh
  simp only [start0, len_c, len_n, map_c, map_n, app_c, app_n, rep_0, rep_s, Nat.reduceAdd, Nat.reduceSub]
  decreasing_trivial_pre_omega
  cases hc with
  | nt c1 =>
    have e1 := A.h_NoTree_TreeError
    have e2 := A.x_NoTree
    have f1 := A.k_NoTree_NoTree
    have f2 := A.k_NoTree_NoOrder
    have f3 := A.k_NoTree_NoPath
    have g3 : PySem.W.kitAny K (.ref A.c_NoTree) [.ref A.c_NoOrder, .ref A.c_NoPath] = some false := kit2 f2 f3
    refine ⟨x, y, rfl, t1, t2, fun _ => ?_, fun a => (by rw [c1] at a; cases a), fun i z a => (by rw [c1] at a; cases a)⟩
    decreasing_trivial_pre_omega
    intro a dd ha
    decreasing_trivial_pre_omega
    exact ⟨M, fun b o h => by rw [mset_ne (fun z => by rw [z, ha] at h; cases h)]; exact h, q3⟩
  | no c1 c2 =>
    have e1 := A.h_NoOrder_TreeError
    have e2 := A.x_NoOrder
    have f1 := A.k_NoOrder_NoTree
    have f2 := A.k_NoOrder_NoOrder
    have f3 := A.k_NoOrder_NoPath
    have f4 := A.v_NoOrder
    have g3 : PySem.W.kitAny K (.ref A.c_NoOrder) [.ref A.c_NoTree, .ref A.c_NoPath] = some false := kit2 f1 f3
    refine ⟨x, y, rfl, t1, t2, fun a => (by rw [c1] at a; cases a), fun _ _ => ?_, fun i z _ a b => (by rw [b, isOrd_str a] at c2; cases c2)⟩
    decreasing_trivial_pre_omega
    intro a dd ha
    decreasing_trivial_pre_omega
    rw [decide_eq_true rfl]
    exact ⟨M, fun b o h => by rw [mset_ne (fun z => by rw [z, ha] at h; cases h)]; exact h, q3⟩
end
end Tl
set_option Elab.async false
set_option linter.all false
set_option maxRecDepth 100000
set_option maxHeartbeats 8000000
namespace Tl
open PySem L2 RZ
local macro_rules
  | `(tactic| decreasing_trivial) => `(tactic| ((with_reducible (conv => whnf)); (repeat ((first | (with_reducible refine gDs_c ?_) | (with_reducible refine gDs_n ?_) | (with_reducible refine gNs_c ?_) | (with_reducible refine gNs_n ?_) | (with_reducible refine gO_i tyAny_lt ?_) | (with_reducible refine gIs_c ?_) | (with_reducible refine gIs_n ?_) | (with_reducible refine gBs_c ?_) | (with_reducible refine gBs_n ?_) | (with_reducible refine gSs_c ?_) | (with_reducible refine gSs_n ?_) | (with_reducible refine gO_i tyIs_int ?_) | (with_reducible refine gO_i tyIs_bool ?_) | (with_reducible refine gO_i tyIs_str ?_) | (with_reducible refine gO_i tyIs_tuple ?_) | (with_reducible refine gO_i tyIs_list ?_) | (with_reducible refine gDs_i ?_) | (with_reducible refine gO_i (Eq.refl _) ?_) | (with_reducible refine gO_i (by assumption) ?_) | (with_reducible refine gO_i at_0 ?_) | (with_reducible refine gO_i at_m0 ?_) | (with_reducible refine gO_i at_1 ?_) | (with_reducible refine gO_i at_m1 ?_) | (with_reducible refine gO_i at_2 ?_) | (with_reducible refine gO_i at_m2 ?_) | (with_reducible refine gO_i at_3 ?_) | (with_reducible refine gO_i at_m3 ?_) | (with_reducible refine gO_i at_4 ?_) | (with_reducible refine gO_i at_m4 ?_) | (with_reducible refine gO_i at_5 ?_) | (with_reducible refine gO_i at_m5 ?_) | (with_reducible refine gO_i at_6 ?_) | (with_reducible refine gO_i at_m6 ?_) | (with_reducible refine gO_i at_7 ?_) | (with_reducible refine gO_i at_m7 ?_) | (with_reducible refine IfB.ngf ?_) | (with_reducible refine IfB.ngt ?_) | (with_reducible refine IfB.not ?_) | (with_reducible refine IfB.nil ?_) | (with_reducible refine IfB.nilT ?_) | (with_reducible refine IfB.f isE_c ?_) | (with_reducible refine IfB.t isE_n ?_) | (with_reducible refine IfB.t ?gha ?_; (case gha => rfl)) | (with_reducible refine IfB.f ?gha ?_; (case gha => rfl)) | (with_reducible refine IfB.t ?gha ?_; (case gha => assumption)) | (with_reducible refine IfB.f ?gha ?_; (case gha => assumption)) | (with_reducible refine IfB.yes (Eq.refl _) ?_) | (with_reducible refine IfB.yes ?gha ?_; (case gha => (first | omega | (simp only [len_c, len_n, List.length_map]; omega)))) | (with_reducible refine IfB.no ?gha ?_; (case gha => (first | omega | (simp only [len_c, len_n, List.length_map]; omega)))) | (with_reducible refine IfB.t ?gha ?_; (case gha => decide +kernel)) | (with_reducible refine IfB.f ?gha ?_; (case gha => decide +kernel))); (with_reducible (conv => whnf))))))
local macro_rules
  | `(tactic| decreasing_trivial_pre_omega) => `(tactic| (decreasing_trivial; (repeat ((first | ((with_reducible refine And.intro ?gha ?_); (case gha => (first | assumption | omega | exact rfl | (exact mset_same) | (exact ⟨_, mset_same⟩) | (exact Exists.intro _ (by first | exact mset_same | assumption | (rw [mset_ne (by assumption)]; first | exact mset_same | assumption))) | (exact sm_of (by omega) (by omega)) | (exact sz1000 (by first | omega | (simp; done) | (simp; omega))) | (exact Or.inl ⟨by decide, by decide⟩) | decide | (simp; done) | (refine ⟨?_, ?_⟩ <;> (first | assumption | omega | exact rfl | (exact mset_same) | (exact ⟨_, mset_same⟩) | (exact Exists.intro _ (by first | exact mset_same | assumption | (rw [mset_ne (by assumption)]; first | exact mset_same | assumption))) | (exact sm_of (by omega) (by omega)) | (exact sz1000 (by first | omega | (simp; done) | (simp; omega))) | (exact Or.inl ⟨by decide, by decide⟩) | decide | (simp; done))) | (refine ⟨?_, ?_, ?_⟩ <;> (first | assumption | omega | exact rfl | (exact mset_same) | (exact ⟨_, mset_same⟩) | (exact Exists.intro _ (by first | exact mset_same | assumption | (rw [mset_ne (by assumption)]; first | exact mset_same | assumption))) | (exact sm_of (by omega) (by omega)) | (exact sz1000 (by first | omega | (simp; done) | (simp; omega))) | (exact Or.inl ⟨by decide, by decide⟩) | decide | (simp; done))) | (refine ⟨?_, ?_, ?_, ?_⟩ <;> (first | assumption | omega | exact rfl | (exact mset_same) | (exact ⟨_, mset_same⟩) | (exact Exists.intro _ (by first | exact mset_same | assumption | (rw [mset_ne (by assumption)]; first | exact mset_same | assumption))) | (exact sm_of (by omega) (by omega)) | (exact sz1000 (by first | omega | (simp; done) | (simp; omega))) | (exact Or.inl ⟨by decide, by decide⟩) | decide | (simp; done)))))) | (with_reducible refine exW (by first | exact mset_same | assumption | (rw [mset_ne (by assumption)]; first | exact mset_same | assumption)) ?_)); decreasing_trivial))))
open PySem.SeqAt (isS)
theorem lc2F {α : Type} {keep : Mem → Prop} {te : TDE} {ρ : EnvD} {M : Mem} {i j : Nat} (f h g : α → PyData) (hk : keep M) {xs : List α} (hb : ∀ a ∈ xs, ∀ Rk : W → Mem → Prop, Rk (.d (g a)) M → te (put (put ρ i (some (.d (f a)))) j (some (.d (h a)))) M Rk) (hl : xs.length ≤ sizeLine) {fin : List PyData → Mem → Prop} (hf : fin (xs.map g) M) :
    lcGo (bTup2 i j) keep yesT te ρ (fun acc M2 => gDs acc fun ds => fin ds M2) (rows1 (xs.map fun a => W.d (.tuple [f a, h a]))) [] M := by
  rw [rows1_map]
  refine lc_map (fun a => .d (g a)) hk xs [] (fun a ha Rk Rn q => .t rfl (hb a ha Rk q)) (by simpa using hl) ?_
  rw [List.nil_append, show (xs.map fun a => W.d (g a)) = (xs.map g).map W.d by rw [List.map_map]; rfl]
  exact gDs_i hf
def odd10 : List PyData := [.none, .str "", .str "Ahead", .str "leaf", .int 0, .tuple [.str "ahead"], .list [.str "ahead"], .str "ahead ", .bool true, .dict []]
def Odd (d : PyData) : Prop := dtOk d = true ∧ GdE d ∧ isOrd d = false
theorem odd_ok : ∀ d ∈ odd10, Odd d := by
  have h1 : ∀ d ∈ odd10, (dtOk d && !isOrd d) = true := by decide +kernel
  have h2 : ∀ d ∈ odd10.take 9, Gk 1000000 40 d := by decide +kernel
  have h3 : ∀ d ∈ odd10, GdE d := fun d hd => by
    have e : odd10 = odd10.take 9 ++ [.dict []] := rfl
    rw [e] at hd
    rcases List.mem_append.mp hd with z | z
    · exact .inl (h2 d z)
    · exact .inr (List.mem_singleton.mp z)
  intro d hd
  have h := h1 d hd
  simp only [Bool.and_eq_true, Bool.not_eq_true'] at h
  exact ⟨h.1, h3 d hd, h.2⟩
def bad5 : List PyData := [.none, .tuple [.str "A", .tuple []], .list [.str "a", .tuple []], .tuple [], .str "a"]
theorem bad_ok : ∀ d ∈ bad5, txt d = true ∧ isTreeD d = false := by
  have : ∀ d ∈ bad5, (txt d && !isTreeD d) = true := by decide +kernel
  intro d hd
  have h := this d hd
  simp only [Bool.and_eq_true, Bool.not_eq_true'] at h
  exact h
theorem pths_ok (l : List (List Nat)) : (PyData.list (l.map pathD)).depth < 50 ∧ (PyData.list (l.map pathD)).hasDict = false ∧ txt (.list (l.map pathD)) = true := by
  have h : ∀ l : List (List Nat), PyData.depthAll (l.map pathD) ≤ 2 ∧ PyData.hasDictAll (l.map pathD) = false ∧ txtAll (l.map pathD) = true := fun l => by
    induction l with
    | nil => exact ⟨Nat.zero_le _, rfl, rfl⟩
    | cons q l ih =>
      obtain ⟨i1, i2, i3⟩ := ih
      rw [List.map_cons, PyData.depthAll, PyData.hasDictAll, txtAll, i2, i3, path_txt]
      refine ⟨Nat.max_le.mpr ⟨path_depth q, i1⟩, ?_, rfl⟩
      unfold pathD
      rw [PyData.hasDict, (ints_ok q).1]
      rfl
  obtain ⟨h1, h2, h3⟩ := h l
  refine ⟨by rw [PyData.depth]; omega, by rw [PyData.hasDict]; exact h2, by rw [txt]; exact h3⟩
theorem InT.go {cT cO : Addr} {x : PyData} {i : Nat} {z : Str} {R : W → Mem → Prop} {RX : Ex → Mem → Prop} {M : Mem} (t1 : txt x = true) (ht : isTreeD x = true) (hz : ordsL[i]? = some z) (h : ∀ p, M p = none → R (.r p) (mset M p (.lst (((ordP i x).map pathD).map W.d)))) : InT cT cO x (.str z) R RX M where
  t1 := t1
  t2 := rfl
  noTree h := by rw [ht] at h; cases h
  noOrder _ h := by rw [isOrd_str hz] at h; cases h
  ok i2 z2 _ h1 h2 p hp := by
    cases h2
    have e := (List.getElem?_inj (List.getElem?_eq_some_iff.mp hz).1 (show ordsL.Nodup by decide)).mp (hz.trans h1.symm)
    rw [← e]
    exact h p hp
section
variable {P : Program} {w : World} {K : PySem.W.Frag} {mg : Str → Option Value} {base : Heap}
structure Calls (P : Program) (w : World) (K : PySem.W.Frag) (mg : Str → Option Value) (base : Heap) (A : Cls K mg) (tp : Addr) where
  j : Nat
  hj : j ≤ 100
  ino : UseX P w K mg base "in_order" ["tree", "how"] j (spD K 2 (tfInO A.c_NoTree A.c_NoOrder))
  state : Use P w K mg base "_law_state" ["_law_script"] j (spState K)
  next : Use P w K mg base "_law_next" ["_law_state_here", "_law_below"] j (spD K 2 (tfNext true))
  alike : Use P w K mg base "_law_alike" ["_law_found", "_law_due"] j (spD K 2 (tfAlike 50))
  tree : Use P w K mg base "_law_tree" ["_law_state_here", "_law_most"] j (spD K 2 (tfTreeL true))
  places : Use P w K mg base "_law_places" ["_law_tree_here", "_law_path"] j (spD K 2 (tfPls 12))
  live : Use P w K mg base "_law_live" ["_law_tree_here", "_law_count"] j (spD K 2 (tfLive 12))
  order : Use P w K mg base "_law_order" ["_law_live_here", "_law_how"] j (spD K 2 (tfOrder tp))
  ref : UseG P w K mg base "_law_refused" ["_law_tree_here", "_law_how", "_law_name"] j (spD K 3 tfRef)
abbrev sLaw : Stmt := top 34
theorem scLaw : FnScope ["_law_script", "_law_state_here", "_law_turn", "_law_tree_here", "_law_live_here", "_law_how", "_law_odd", "_law_none", "_law_due", "_law_found", "_law_number", "_law_path"] ["_law_script"] (defScope sLaw) := ⟨rfl, rfl, rfl, by decide +kernel, rfl, by decide +kernel, by decide +kernel⟩
theorem ok_law {f tp : Addr} {fd : FuncData} {s : Shared} {H : Hp} {a : Addr} {ns : List Int} (F : Fun K "law" "law" sLaw f fd) (T : Bl mg) {A : Cls K mg} (U : Calls P w K mg base A tp) (TORDERS : WordsT K mg "ORDERS" ordsD) (mSrt : mg "sorted" = none) (hS : SqL K H a (ns.map V.int)) (hT : H tp = some (.tbl #[])) (e0 : Env0 P w K mg base callerA [] s H) :
    codeAny (model P w) callerA (.call (.ref f) ⟨[.ref a], []⟩) (CR CX0 [] P w H s (fun v _ => v = V.bl true) fun _ _ _ => False) s := by
  obtain ⟨j, hj, Uin_order, U_law_state, U_law_next, U_law_alike, U_law_tree, U_law_places, U_law_live, U_law_order, U_law_refused⟩ := U
  refine law_atT (q := qLam) (k := 200) F scLaw hS hT e0 ⟨rfl, by decide, by decide⟩ (F.binds (ps := ["_law_script"]) fun _ _ _ _ _ _ us hl => match us, hl with | [_], _ => rfl) fun cdv hgu hr => ?_
  have hun : (callerA.deeper (PyProof.Rows.envOfC "law" (defScope sLaw) s.heap.objs.size f cdv)).units + 200 < cLine := by
    have := hr.un
    omega
  refine ⟨_, _, _, (pss_cons (ps_set (i := 1) scLaw.nd rfl (.inl rfl) (pe_call U_law_state.ok (hr.mono (by omega)) rfl U_law_state.m U_law_state.kp U_law_state.b .nil pass0 (pa_cons (pv 0) pa_nil)))
    (pss_cons (ps_if (pt_cmpR (op_neD hr.units) (pe_glob (v := .ref TORDERS.a) (by rfl) TORDERS.m rfl) (pe_tup (pa_cons pe_str (pa_cons pe_str (pa_cons pe_str (pa_cons pe_str pa_nil))))) (nomark _)) (pss_one (ps_ret pe_bl)) pss_nil)
    (pss_cons (ps_for PassesOwn.never rfl (pi_range1 (by rfl) T.range (pa_cons pe_int pa_nil)) (pg_name (i := 2) scLaw.nd rfl (.inl rfl)) (pss_cons (ps_set (i := 3) scLaw.nd rfl (.inl rfl) (pe_call U_law_tree.ok (hr.mono (by omega)) rfl U_law_tree.m U_law_tree.kp U_law_tree.b .nil pass0 (pa_cons (pv 1) (pa_cons pe_int pa_nil))))
      (pss_cons (ps_set (i := 4) scLaw.nd rfl (.inl rfl) (pe_call U_law_live.ok (hr.mono (by omega)) rfl U_law_live.m U_law_live.kp U_law_live.b .nil pass0 (pa_cons (pv 3) (pa_cons (pe_lst (pa_cons pe_int pa_nil)) pa_nil))))
      (pss_cons (ps_for PassesOwn.never rfl (pi_tup (pe_glob (v := .ref TORDERS.a) (by rfl) TORDERS.m rfl)) (pg_name (i := 5) scLaw.nd rfl (.inl rfl)) (pss_cons (ps_setLc (i := 8) (own := [("_law_number", 10), ("_law_path", 11)]) (g := gTup K 2 (gCons (gName 10) (gCons (gName 11) gNil))) (tt := tYes) (by rfl) scLaw.nd rfl rfl (sw_true rfl rfl rfl (by decide +kernel)) (pi_list (pe_call U_law_order.ok (hr.mono (by omega)) rfl U_law_order.m U_law_order.kp U_law_order.b .nil pass0 (pa_cons (pv 4) (pa_cons (pv 5) pa_nil)))) (blkOk_by (N := ["_law_script", "_law_state_here", "_law_turn", "_law_tree_here", "_law_live_here", "_law_how", "_law_odd", "_law_none", "_law_due", "_law_found", "_law_number", "_law_path"]) (sc := defScope sLaw) (own := [("_law_number", 10), ("_law_path", 11)]) (by decide +kernel)) (fun _ _ _ _ _ => (pg_tup rfl (pgs_cons (pg_name (i := 10) scLaw.nd rfl (Or.inl rfl)) (pgs_cons (pg_name (i := 11) scLaw.nd rfl (Or.inl rfl)) pgs_nil)))) (fun _ _ _ _ _ => pts_nil) (fun _ _ _ _ _ => (pv 11)))
        (pss_cons (ps_set (i := 9) scLaw.nd rfl (.inl rfl) (pe_callS Uin_order.ok (hr.mono (by omega)) rfl Uin_order.m Uin_order.kp Uin_order.b (fun σ => passAt takes0 σ) (pa_cons (pv 3) (pa_cons (pv 5) pa_nil))))
        (pss_cons (ps_if (pt_not (pt_val (pe_call U_law_alike.ok (hr.mono (by omega)) rfl U_law_alike.m U_law_alike.kp U_law_alike.b .nil pass0 (pa_cons (pv 9) (pa_cons (pv 8) pa_nil))))) (pss_one (ps_ret pe_bl)) pss_nil)
        (pss_cons (ps_expr (pe_bm PySem.F.plainAttrs_list PySem.F.slot_list_append PySem.F.type_list_append mt_append (pv 9) (pa_cons pe_non pa_nil)))
        (pss_cons (ps_if (pt_not (pt_val (pe_call U_law_alike.ok (hr.mono (by omega)) rfl U_law_alike.m U_law_alike.kp U_law_alike.b .nil pass0 (pa_cons (pe_callS Uin_order.ok (hr.mono (by omega)) rfl Uin_order.m Uin_order.kp Uin_order.b (fun σ => passAt takes0 σ) (pa_cons (pv 3) (pa_cons (pv 5) pa_nil))) (pa_cons (pv 8) pa_nil))))) (pss_one (ps_ret pe_bl)) pss_nil)
        (pss_one (ps_if (PW.pt (pw_and (pt_cmpR op_ne (pv 5) pe_str (nomark _)) (pw_and1 (pt_cmpR (op_neD hr.units) (pe_callB (cr_sortedD (room62 hr)) (by rfl) mSrt PyProof.Rows.boot_sorted (pa_cons (pv 8) pa_nil)) (pe_call U_law_places.ok (hr.mono (by omega)) rfl U_law_places.m U_law_places.kp U_law_places.b .nil pass0 (pa_cons (pv 3) (pa_cons (pe_tup pa_nil) pa_nil))) (nomark _))))) (pss_one (ps_ret pe_bl)) pss_nil))))))))
      (pss_cons (ps_set (i := 6) scLaw.nd rfl (.inl rfl) (pe_ix ix_list (pe_lst (pa_cons pe_non (pa_cons pe_str (pa_cons pe_str (pa_cons pe_str (pa_cons pe_int (pa_cons (pe_tup (pa_cons pe_str pa_nil)) (pa_cons (pe_lst (pa_cons pe_str pa_nil)) (pa_cons pe_str (pa_cons pe_bl (pa_cons pe_dnewK pa_nil))))))))))) (pe_call U_law_next.ok (hr.mono (by omega)) rfl U_law_next.m U_law_next.kp U_law_next.b .nil pass0 (pa_cons (pv 1) (pa_cons pe_int pa_nil))) (fun _ _ => rfl)))
      (pss_cons (ps_set (i := 7) scLaw.nd rfl (.inl rfl) (pe_ix ix_list (pe_lst (pa_cons pe_non (pa_cons (pe_tup (pa_cons pe_str (pa_cons (pe_tup pa_nil) pa_nil))) (pa_cons (pe_lst (pa_cons pe_str (pa_cons (pe_tup pa_nil) pa_nil))) (pa_cons (pe_tup pa_nil) (pa_cons pe_str pa_nil)))))) (pe_call U_law_next.ok (hr.mono (by omega)) rfl U_law_next.m U_law_next.kp U_law_next.b .nil pass0 (pa_cons (pv 1) (pa_cons pe_int pa_nil))) (fun _ _ => rfl)))
      (pss_one (ps_if (PW.pt (pw_or (pt_not (pt_val (pe_callG (E := fun _ _ _ => False) U_law_refused.ok (hr.mono (by omega)) hgu rfl U_law_refused.m U_law_refused.kp U_law_refused.b (pa_cons (pv 3) (pa_cons (pv 6) (pa_cons pe_str pa_nil)))))) (pw_or1 (pt_not (pt_val (pe_callG (E := fun _ _ _ => False) U_law_refused.ok (hr.mono (by omega)) hgu rfl U_law_refused.m U_law_refused.kp U_law_refused.b (pa_cons (pv 7) (pa_cons (pv 6) (pa_cons pe_str pa_nil))))))))) (pss_one (ps_ret pe_bl)) pss_nil))))))))
    (pss_one (ps_ret (pe_callG (E := fun _ _ _ => False) U_law_refused.ok (hr.mono (by omega)) hgu rfl U_law_refused.m U_law_refused.kp U_law_refused.b (pa_cons (pe_tup (pa_cons pe_str pa_nil)) (pa_cons (pe_ix ix_tup (pe_glob (v := .ref TORDERS.a) (by rfl) TORDERS.m rfl) (pe_call U_law_next.ok (hr.mono (by omega)) rfl U_law_next.m U_law_next.kp U_law_next.b .nil pass0 (pa_cons (pv 1) (pa_cons pe_int pa_nil))) (fun _ _ => rfl)) (pa_cons pe_str pa_nil))))))))),
    (ss_cons (ss_if (st_test (se_op so_neD (se_k TORDERS.d) (se_tup (sa_cons se_str (sa_cons se_str (sa_cons se_str (sa_cons se_str sa_nil))))))) (ss_ret se_bl) ss_nil)
    (ss_cons (ss_for (si_r1 (sa_cons se_int sa_nil)) sg_name (ss_cons (ss_set (se_call (sa_cons se_nm (sa_cons se_int sa_nil))))
      (ss_cons (ss_set (se_call (sa_cons se_nm (sa_cons (se_lst (sa_cons se_int sa_nil)) sa_nil))))
      (ss_cons (ss_for (si_tup (se_k TORDERS.d)) sg_name (ss_cons (ss_set (se_lcF (si_lst (se_call (sa_cons se_nm (sa_cons se_nm sa_nil)))) sg_tup2 st_yes se_nm))
        (ss_cons (ss_set (se_callX (sa_cons se_nm (sa_cons se_nm sa_nil))))
        (ss_cons (ss_if (st_not (st_val (se_call (sa_cons se_nm (sa_cons se_nm sa_nil))))) (ss_ret se_bl) ss_nil)
        (ss_cons (ss_drop (se_bmL sm_append se_nm (sa_cons se_non sa_nil)))
        (ss_cons (ss_if (st_not (st_val (se_call (sa_cons (se_callX (sa_cons se_nm (sa_cons se_nm sa_nil))) (sa_cons se_nm sa_nil))))) (ss_ret se_bl) ss_nil)
        (ss_if (st_and (st_test (se_op so_neS se_nm se_str)) (st_test (se_op so_neD (se_cb sc_sortedF (sa_cons se_nm sa_nil)) (se_call (sa_cons se_nm (sa_cons (se_tup sa_nil) sa_nil)))))) (ss_ret se_bl) ss_nil)))))))
      (ss_cons (ss_set (se_op so_ixL (se_lsf (sa_cons se_non (sa_cons se_str (sa_cons se_str (sa_cons se_str (sa_cons se_int (sa_cons (se_tup (sa_cons se_str sa_nil)) (sa_cons (se_lsf (sa_cons se_str sa_nil)) (sa_cons se_str (sa_cons se_bl (sa_cons se_dnew sa_nil))))))))))) (se_call (sa_cons se_nm (sa_cons se_int sa_nil)))))
      (ss_cons (ss_set (se_op so_ixL (se_lsf (sa_cons se_non (sa_cons (se_tup (sa_cons se_str (sa_cons (se_tup sa_nil) sa_nil))) (sa_cons (se_lsf (sa_cons se_str (sa_cons (se_tup sa_nil) sa_nil))) (sa_cons (se_tup sa_nil) (sa_cons se_str sa_nil)))))) (se_call (sa_cons se_nm (sa_cons se_int sa_nil)))))
      (ss_if (st_or (st_not (st_val (se_call (sa_cons se_nm (sa_cons se_nm (sa_cons se_str sa_nil)))))) (st_not (st_val (se_call (sa_cons se_nm (sa_cons se_nm (sa_cons se_str sa_nil))))))) (ss_ret se_bl) ss_nil)))))))
    (ss_ret (se_call (sa_cons (se_tup (sa_cons se_str sa_nil)) (sa_cons (se_op so_ixT (se_k TORDERS.d) (se_call (sa_cons se_nm (sa_cons se_int sa_nil)))) (sa_cons se_str sa_nil))))))), fun st M hM => ?_⟩
  obtain ⟨hM, hM2⟩ := hM
  simp only [start0, len_c, len_n, map_c, map_n, app_c, app_n, rep_0, rep_s, Nat.reduceAdd, Nat.reduceSub]
  decreasing_trivial_pre_omega
  refine ⟨⟨by decide +kernel, by decide +kernel⟩, ?_⟩
  decreasing_trivial_pre_omega
  refine forR (n := 6) (fun i ρ M' => (M' st = some (.src true) ∧ M' tp = some (.tab qLam)) ∧ ∃ y2 y3 y4 y5 y6 y7 y8 y9, ρ = [some (.o (.ref a)), some (.r st), y2, y3, y4, y5, y6, y7, y8, y9, none, none]) ⟨⟨hM, hM2⟩, none, none, none, none, none, none, none, none, rfl⟩ (fun _ _ _ _ _ => trivial) (fun i ρ M1 N hi p hN => ?_) (fun ρ M1 p => ?_)
  · obtain ⟨⟨hM1, hT1⟩, y2, y3, y4, y5, y6, y7, y8, y9, rfl⟩ := p
    decreasing_trivial_pre_omega
    intro d ht hw hn
    have hn20 : nn d ≤ 20 := by omega
    have t12 : TrT 12 d := ht.t.mono (by decide)
    decreasing_trivial_pre_omega
    intro cn hcn
    have st_cn : st ≠ cn := fun z => by rw [z, hcn] at hM1; cases hM1
    have tp_cn : tp ≠ cn := fun z => by rw [z, hcn] at hT1; cases hT1
    decreasing_trivial_pre_omega
    refine ⟨0, ⟨mset_same, t12, by omega⟩, fun T1 M2 g1 g2 g3 => ?_⟩
    have tel : T1.tel tgF = d := g1.tel
    have stA : st ∉ T1.adr := fun z => by have := g1.new _ z; rw [mset_ne st_cn, hM1] at this; cases this
    have tpA : tp ∉ T1.adr := fun z => by have := g1.new _ z; rw [mset_ne tp_cn, hT1] at this; cases this
    have hM3 : M2 st = some (.src true) := by rw [g3 st stA st_cn, mset_ne st_cn]; exact hM1
    have hT3 : M2 tp = some (.tab qLam) := by rw [g3 tp tpA tp_cn, mset_ne tp_cn]; exact hT1
    have hok := g1.ok
    have t30 : TrT 30 (T1.tel tgF) := by rw [tel]; exact t12.mono (by decide)
    clear g2 g3
    decreasing_trivial_pre_omega
    show forGo (bName 5) _ _ _ (rows1 ((ordsL.map PyData.str).map W.d)) _ _
    refine for1 (xs := ordsL.map PyData.str) (f := W.d) (fun i3 ρ M' => (M' st = some (.src true) ∧ M' tp = some (.tab qLam) ∧ T1.ok M') ∧ ∃ y5 y6 y7 y8 y9, ρ = [some (.o (.ref a)), some (.r st), some (.d (.int (0 + (i : Int)))), some (.d d), some (.r T1.root), y5, y6, y7, y8, y9, none, none]) ⟨⟨hM3, hT3, hok⟩, _, _, _, _, _, rfl⟩ (fun _ _ _ _ _ => trivial) (fun i3 x3 ρ M3 N3 hx3 p3 hN3 => ?_) (fun ρ M3 p3 => ?_)
    · obtain ⟨⟨hM4, hT4, hok4⟩, u5, u6, u7, u8, u9, rfl⟩ := p3
      rw [List.getElem?_map] at hx3
      obtain ⟨z, hz, rfl⟩ := Option.map_eq_some_iff.mp hx3
      decreasing_trivial_pre_omega
      refine ⟨T1, i3, z, rfl, ⟨hok4, t30, by rw [tel]; omega, hz, hT4⟩, ?_⟩
      have oe := ord_eq t30 (show nn (T1.tel tgF) ≤ 98 by rw [tel]; omega) i3
      rw [tel] at oe
      have os := ord_sub t12 i3
      have ol : (ordT i3 T1).length ≤ 20 := by rw [← List.length_map (f := (·.2)), oe]; omega
      decreasing_trivial_pre_omega
      rw [List.map_map]
      refine lc2F (xs := ordT i3 T1) (fun x : Int × List Nat => .int x.1) (fun x => pathD x.2) (fun x => pathD x.2) trivial (fun x hx Rk q => ?_) (sz1000 (by omega)) ?_
      · decreasing_trivial_pre_omega
        exact q
      rw [show (ordT i3 T1).map (fun x : Int × List Nat => pathD x.2) = (ordP i3 d).map pathD by rw [← oe, List.map_map]; rfl]
      decreasing_trivial_pre_omega
      have txd := gd_txt _ ht.gd.1
      have tro := tree_ok t12 (show nn d ≤ 60 by omega)
      obtain ⟨po1, po2, po3⟩ := pths_ok (ordP i3 d)
      refine ⟨d, .str z, rfl, InT.go txd tro hz fun p hp => ?_⟩
      have st_p : st ≠ p := fun z => by rw [z, hp] at hM4; cases hM4
      have tp_p : tp ≠ p := fun z => by rw [z, hp] at hT4; cases hT4
      decreasing_trivial_pre_omega
      refine ⟨⟨_, mset_same, rfl⟩, ⟨po1, po2, po3⟩, ?_⟩
      decreasing_trivial_pre_omega
      refine ⟨d, .str z, rfl, InT.go txd tro hz fun p2 hp2 => ?_⟩
      have p2_p : p2 ≠ p := fun z => by rw [z, mset_same] at hp2; cases hp2
      rw [mset_mset, mset_ne p2_p] at hp2
      have st_p2 : st ≠ p2 := fun z => by rw [z, hp2] at hM4; cases hM4
      have tp_p2 : tp ≠ p2 := fun z => by rw [z, hp2] at hT4; cases hT4
      decreasing_trivial_pre_omega
      refine ⟨⟨_, mset_same, rfl⟩, ⟨po1, po2, po3⟩, ?_⟩
      decreasing_trivial_pre_omega
      have k1 : ∀ u, u ≠ p → u ≠ p2 → mset (mset (mset M3 p (MO.lst (List.map W.d (List.map pathD (ordP i3 d))))) p (MO.lst (List.map W.d (List.map pathD (ordP i3 d)) ++ [W.d PyData.none]))) p2 (MO.lst (List.map W.d (List.map pathD (ordP i3 d)))) u = M3 u := fun u h1 h2 => by rw [mset_ne h2, mset_ne h1, mset_ne h1]
      generalize mset (mset (mset M3 p (MO.lst (List.map W.d (List.map pathD (ordP i3 d))))) p (MO.lst (List.map W.d (List.map pathD (ordP i3 d)) ++ [W.d PyData.none]))) p2 (MO.lst (List.map W.d (List.map pathD (ordP i3 d)))) = M5 at k1 ⊢
      have hM5 : M5 st = some (.src true) := by rw [k1 st st_p st_p2]; exact hM4
      have hT5 : M5 tp = some (.tab qLam) := by rw [k1 tp tp_p tp_p2]; exact hT4
      have hok5 : T1.ok M5 := hok4.same fun u hu => by
        obtain ⟨v, hv⟩ := ok_some hok4 hu
        exact k1 u (fun z => by rw [z, hp] at hv; cases hv) (fun z => by rw [z, hp2] at hv; cases hv)
      have nx : N3 (put (put (put [some (W.o (V.ref a)), some (W.r st), some (W.d (PyData.int (0 + (i : Int)))), some (W.d d), some (W.r T1.root), u5, u6, u7, u8, u9, none, none] 5 (some (W.d (PyData.str z)))) 8 (some (W.d (PyData.list (List.map pathD (ordP i3 d)))))) 9 (some (W.r p))) M5 := hN3 _ _ ⟨⟨hM5, hT5, hok5⟩, _, _, _, _, _, rfl⟩
      refine IfB.d (fun c => ?_) (fun c => ?_)
      · decreasing_trivial_pre_omega
        exact nx
      · have hi3 : i3 < 3 := by
          have h4 := (List.getElem?_eq_some_iff.mp hz).1
          have h5 : ordsL.length = 4 := rfl
          rcases Nat.lt_or_ge i3 3 with h6 | h6
          · exact h6
          · have h7 : i3 = 3 := by omega
            subst h7
            exact absurd (Option.some.inj hz).symm c
        decreasing_trivial_pre_omega
        refine ⟨srt_paths _, ?_⟩
        rw [srt_ord t12 hi3]
        decreasing_trivial_pre_omega
        refine ⟨d, [], rfl, ⟨t12, by omega, by decide⟩, ?_⟩
        decreasing_trivial_pre_omega
        refine ⟨⟨eqOk_paths _, eqOk_paths _⟩, ?_⟩
        rw [show pls [] (plc d) = (plc d).map pathD from rfl]
        have ev := eqv_self (.list ((plc d).map pathD)) (pths_ok (plc d)).2.1
        decreasing_trivial_pre_omega
        exact nx
    · obtain ⟨⟨hM4, hT4, hok4⟩, u5, u6, u7, u8, u9, rfl⟩ := p3
      decreasing_trivial_pre_omega
      intro r0 r00 r01
      decreasing_trivial_pre_omega
      refine gO_atD (ds := odd10) Odd r00 (show r0 < 10 from r01) odd_ok fun od ho => ?_
      obtain ⟨b1, b2, b3⟩ := ho
      decreasing_trivial_pre_omega
      intro r1 r10 r11
      decreasing_trivial_pre_omega
      refine gO_atD (ds := bad5) (fun d => txt d = true ∧ isTreeD d = false) r10 (show r1 < 5 from r11) bad_ok fun nt hp => ?_
      obtain ⟨p1, p2⟩ := hp
      decreasing_trivial_pre_omega
      have txd := gd_txt _ ht.gd.1
      have tro := tree_ok t12 (show nn d ≤ 60 by omega)
      refine ⟨d, od, "NoOrder", rfl, ⟨txd, b1, b2, .no tro b3⟩, ?_⟩
      decreasing_trivial_pre_omega
      refine ⟨nt, od, "NoTree", rfl, ⟨p1, b1, b2, .nt p2⟩, ?_⟩
      decreasing_trivial_pre_omega
      exact hN _ _ ⟨⟨hM4, hT4⟩, _, _, _, _, _, _, _, _, rfl⟩
  · obtain ⟨⟨hM1, hT1⟩, y2, y3, y4, y5, y6, y7, y8, y9, rfl⟩ := p
    decreasing_trivial_pre_omega
    intro r r0 r1
    unfold ordsD
    decreasing_trivial_pre_omega
    obtain ⟨y, ey, hm⟩ := at_mem (xs := ordsL.map PyData.str) r0 (show r < 4 from r1)
    refine gO_i ey ?_
    have h1 : ∀ y ∈ ordsL.map PyData.str, dtOk y = true ∧ Gk 1000000 40 y := by decide +kernel
    obtain ⟨g1, g2⟩ := h1 y hm
    decreasing_trivial_pre_omega
    exact ⟨_, y, "NoTree", rfl, ⟨by decide +kernel, g1, .inl g2, .nt (by decide +kernel)⟩, rfl⟩
end
end Tl
set_option Elab.async false
set_option linter.all false
set_option maxRecDepth 100000
set_option maxHeartbeats 16000000
namespace Tl
open PySem L2 RZ
section
variable {P : Program} {w : World} {K : PySem.W.Frag} {mg : Str → Option Value}
structure Defs (K : PySem.W.Frag) (mg : Str → Option Value) where
  d_is_tag : At K mg "is_tag" sIsTag
  d_is_tag_and_kids : At K mg "is_tag_and_kids" sTagKids
  d_room_behind : At K mg "room_behind" sRoom
  d_is_tree : At K mg "is_tree" sIsTree
  d_check_tree : At K mg "check_tree" sChkTree
  d__law_next : At K mg "_law_next" sNext
  d__law_state : At K mg "_law_state" sState
  d__law_tree : At K mg "_law_tree" sTreeL
  d__law_alike : At K mg "_law_alike" sAlike
  d_part_at : At K mg "part_at" sPartAt
  d_paths_from : At K mg "paths_from" sPathsF
  d__law_places : At K mg "_law_places" sPlaces
  d__law_live : At K mg "_law_live" sLive
  d__law_find : At K mg "_law_find" sFind
  d__law_numbers : At K mg "_law_numbers" sNums
  d_paths_behind : At K mg "paths_behind" sPathsB
  d_check_order : At K mg "check_order" sChkO
  d_paths_in : At K mg "paths_in" sPathsIn
  d_in_order : At K mg "in_order" sInO
  d__law_order : At K mg "_law_order" sOrder
  d__law_refused : At K mg "_law_refused" sRef
  d_law : At K mg "law" sLaw
def calls (D : Defs K mg) (T : Bl mg) (A : Cls K mg) (C : Cs mg) (mz : mg "zip" = none) (mSrt : mg "sorted" = none) (mVE : mg "ValueError" = none) (TORDERS : WordsT K mg "ORDERS" ordsD) {c tp : Addr} (hc : D.d__law_order.fd.code = .ref c) (base : Heap) (TB : LamX.TabB base mg c tp) : Calls P w K mg base A tp :=
  let uTag := use (P := P) (w := w) (base := base) D.d_is_tag (D.d_is_tag.F.binds (ps := ["thing"]) fun _ _ _ _ _ _ us hl => match us, hl with | [_], _ => rfl) (ok_tag (k := 0) D.d_is_tag.F T C)
  let uTagKids := use (P := P) (w := w) (base := base) D.d_is_tag_and_kids (D.d_is_tag_and_kids.F.binds (ps := ["thing"]) fun _ _ _ _ _ _ us hl => match us, hl with | [_], _ => rfl) (ok_tagKids (k := 1) D.d_is_tag_and_kids.F uTag (by decide) T)
  let uRoom := use (P := P) (w := w) (base := base) D.d_room_behind (D.d_room_behind.F.binds (ps := ["thing", "levels", "room"]) fun _ _ _ _ _ _ us hl => match us, hl with | [_, _, _], _ => rfl) (ok_room D.d_room_behind.F D.d_room_behind.m uTagKids (by decide) T 13)
  let uTree := use (P := P) (w := w) (base := base) D.d_is_tree (D.d_is_tree.F.binds (ps := ["thing"]) fun _ _ _ _ _ _ us hl => match us, hl with | [_], _ => rfl) (ok_tree (k := 15) D.d_is_tree.F uRoom (by decide) C)
  let uChkT := useX (P := P) (w := w) (base := base) D.d_check_tree (D.d_check_tree.F.binds (ps := ["thing"]) fun _ _ _ _ _ _ us hl => match us, hl with | [_], _ => rfl) (ok_chkTree (k := 16) D.d_check_tree.F A.e_NoTree uTree (by decide))
  let uPartAt := use (P := P) (w := w) (base := base) D.d_part_at (D.d_part_at.F.binds (ps := ["tree", "path"]) fun _ _ _ _ _ _ us hl => match us, hl with | [_, _], _ => rfl) (ok_partAt (k := 0) D.d_part_at.F T)
  let uPathsF := use (P := P) (w := w) (base := base) D.d_paths_from (D.d_paths_from.F.binds (ps := ["tree", "path"]) fun _ _ _ _ _ _ us hl => match us, hl with | [_, _], _ => rfl) (ok_pathsF D.d_paths_from.F D.d_paths_from.m T 12)
  let uPathsB := use (P := P) (w := w) (base := base) D.d_paths_behind (D.d_paths_behind.F.binds (ps := ["tree", "path"]) fun _ _ _ _ _ _ us hl => match us, hl with | [_, _], _ => rfl) (ok_pathsB D.d_paths_behind.F D.d_paths_behind.m T 12)
  let uChkO := useX (P := P) (w := w) (base := base) D.d_check_order (D.d_check_order.F.binds (ps := ["thing"]) fun _ _ _ _ _ _ us hl => match us, hl with | [_], _ => rfl) (ok_chkO (k := 2) D.d_check_order.F A.e_NoOrder TORDERS (by decide))
  let uPathsIn := use (P := P) (w := w) (base := base) D.d_paths_in (D.d_paths_in.F.binds (ps := ["tree", "how"]) fun _ _ _ _ _ _ us hl => match us, hl with | [_, _], _ => rfl) (ok_pathsIn (j := 12) (k := 12) D.d_paths_in.F uPathsB uPathsF (uPartAt.up (by decide)) (by decide) T mSrt)
  let uInO := useX (P := P) (w := w) (base := base) D.d_in_order (D.d_in_order.F.binds (ps := ["tree", "how"]) fun _ _ _ _ _ _ us hl => match us, hl with | [_, _], _ => rfl) (ok_inO (j := 17) (k := 17) D.d_in_order.F uChkT (uChkO.up (by decide)) (uPathsIn.up (by decide)) (by decide))
  let uState := use (P := P) (w := w) (base := base) D.d__law_state (D.d__law_state.F.binds (ps := ["_law_script"]) fun _ _ _ _ _ _ us hl => match us, hl with | [_], _ => rfl) (ok_state (k := 0) D.d__law_state.F T)
  let uNext := use (P := P) (w := w) (base := base) D.d__law_next (D.d__law_next.F.binds (ps := ["_law_state_here", "_law_below"]) fun _ _ _ _ _ _ us hl => match us, hl with | [_, _], _ => rfl) (ok_next (k := 0) D.d__law_next.F T)
  let uAlike := use (P := P) (w := w) (base := base) D.d__law_alike (D.d__law_alike.F.binds (ps := ["_law_found", "_law_due"]) fun _ _ _ _ _ _ us hl => match us, hl with | [_, _], _ => rfl) (ok_alike D.d__law_alike.F D.d__law_alike.m T mz 50)
  let uTreeL := use (P := P) (w := w) (base := base) D.d__law_tree (D.d__law_tree.F.binds (ps := ["_law_state_here", "_law_most"]) fun _ _ _ _ _ _ us hl => match us, hl with | [_, _], _ => rfl) (ok_treeL (k := 1) D.d__law_tree.F uNext (by decide) T)
  let uPlaces := use (P := P) (w := w) (base := base) D.d__law_places (D.d__law_places.F.binds (ps := ["_law_tree_here", "_law_path"]) fun _ _ _ _ _ _ us hl => match us, hl with | [_, _], _ => rfl) (ok_places D.d__law_places.F D.d__law_places.m T 12)
  let uLive := use (P := P) (w := w) (base := base) D.d__law_live (D.d__law_live.F.binds (ps := ["_law_tree_here", "_law_count"]) fun _ _ _ _ _ _ us hl => match us, hl with | [_, _], _ => rfl) (ok_live D.d__law_live.F D.d__law_live.m T 12)
  let uFind := use (P := P) (w := w) (base := base) D.d__law_find (D.d__law_find.F.binds (ps := ["_law_live_here", "_law_path"]) fun _ _ _ _ _ _ us hl => match us, hl with | [_, _], _ => rfl) (ok_find (k := 0) D.d__law_find.F T)
  let uNums := use (P := P) (w := w) (base := base) D.d__law_numbers (D.d__law_numbers.F.binds (ps := ["_law_live_here", "_law_path"]) fun _ _ _ _ _ _ us hl => match us, hl with | [_, _], _ => rfl) (ok_nums D.d__law_numbers.F D.d__law_numbers.m T 30)
  let uOrder := use (P := P) (w := w) (base := base) D.d__law_order (D.d__law_order.F.binds (ps := ["_law_live_here", "_law_how"]) fun _ _ _ _ _ _ us hl => match us, hl with | [_, _], _ => rfl) (ok_order (j := 30) (k := 30) D.d__law_order.F hc TB uNums (uFind.up (by decide)) (by decide) T mSrt)
  let uRef := useG (P := P) (w := w) (base := base) D.d__law_refused (D.d__law_refused.F.binds (ps := ["_law_tree_here", "_law_how", "_law_name"]) fun _ _ _ _ _ _ us hl => match us, hl with | [_, _, _], _ => rfl) (ok_ref (j := 18) (k := 18) D.d__law_refused.F A uInO (by decide) T mVE ⟨A.x_NoOrder.hg, A.x_NoOrder.hk, A.x_NoOrder.hs, A.x_NoOrder.hd⟩)
  ⟨60, by decide, uInO.up (by decide), uState.up (by decide), uNext.up (by decide), uAlike.up (by decide), uTreeL.up (by decide), uPlaces.up (by decide), uLive.up (by decide), uOrder.up (by decide), uRef.up (by decide)⟩
end
theorem all_mk {P : Program} {w : World} {K : PySem.W.Frag} {h : Heap} {mg : Str → Option Value} {fa : Addr} (X : K.In h) (G : h.Ns mainGlobals mg) (hfa : mg "law" = some (.ref fa)) {t1 t2 t3 : Tok}
    {f1 : Addr} {od1 an1 : Option Addr} {sl1 : Array (Option Value)} {oc1 kV1 dc1 pm1 cd1 ct1 : Value}
    {f2 : Addr} {od2 an2 : Option Addr} {sl2 : Array (Option Value)} {oc2 kV2 dc2 pm2 cd2 ct2 : Value}
    {f3 : Addr} {od3 an3 : Option Addr} {sl3 : Array (Option Value)} {oc3 kV3 dc3 pm3 cd3 ct3 : Value}
    {f4 : Addr} {od4 an4 : Option Addr} {sl4 : Array (Option Value)} {oc4 kV4 dc4 pm4 cd4 ct4 : Value}
    {f5 : Addr} {od5 an5 : Option Addr} {sl5 : Array (Option Value)} {oc5 kV5 dc5 pm5 cd5 ct5 : Value}
    {f6 : Addr} {od6 an6 : Option Addr} {sl6 : Array (Option Value)} {oc6 kV6 dc6 pm6 cd6 ct6 : Value}
    {f7 : Addr} {od7 an7 : Option Addr} {sl7 : Array (Option Value)} {oc7 kV7 dc7 pm7 cd7 ct7 : Value}
    {f8 : Addr} {od8 an8 : Option Addr} {sl8 : Array (Option Value)} {oc8 kV8 dc8 pm8 cd8 ct8 : Value}
    {f9 : Addr} {od9 an9 : Option Addr} {sl9 : Array (Option Value)} {oc9 kV9 dc9 pm9 cd9 ct9 : Value}
    {f10 : Addr} {od10 an10 : Option Addr} {sl10 : Array (Option Value)} {oc10 kV10 dc10 pm10 cd10 ct10 : Value}
    {f11 : Addr} {od11 an11 : Option Addr} {sl11 : Array (Option Value)} {oc11 kV11 dc11 pm11 cd11 ct11 : Value}
    {f12 : Addr} {od12 an12 : Option Addr} {sl12 : Array (Option Value)} {oc12 kV12 dc12 pm12 cd12 ct12 : Value}
    {f13 : Addr} {od13 an13 : Option Addr} {sl13 : Array (Option Value)} {oc13 kV13 dc13 pm13 cd13 ct13 : Value}
    {f14 : Addr} {od14 an14 : Option Addr} {sl14 : Array (Option Value)} {oc14 kV14 dc14 pm14 cd14 ct14 : Value}
    {f15 : Addr} {od15 an15 : Option Addr} {sl15 : Array (Option Value)} {oc15 kV15 dc15 pm15 cd15 ct15 : Value}
    {f16 : Addr} {od16 an16 : Option Addr} {sl16 : Array (Option Value)} {oc16 kV16 dc16 pm16 cd16 ct16 : Value}
    {f17 : Addr} {od17 an17 : Option Addr} {sl17 : Array (Option Value)} {oc17 kV17 dc17 pm17 cd17 ct17 : Value}
    {f18 : Addr} {od18 an18 : Option Addr} {sl18 : Array (Option Value)} {oc18 kV18 dc18 pm18 cd18 ct18 : Value}
    {f19 : Addr} {od19 an19 : Option Addr} {sl19 : Array (Option Value)} {oc19 kV19 dc19 pm19 cd19 ct19 : Value}
    {f20 : Addr} {od20 an20 : Option Addr} {sl20 : Array (Option Value)} {oc20 kV20 dc20 pm20 cd20 ct20 : Value}
    {f21 : Addr} {od21 an21 : Option Addr} {sl21 : Array (Option Value)} {oc21 kV21 dc21 pm21 cd21 ct21 : Value}
    {f22 : Addr} {od22 an22 : Option Addr} {sl22 : Array (Option Value)} {oc22 kV22 dc22 pm22 cd22 ct22 : Value}
    {c_TreeError c_NoThing c_NoTree c_NoPath c_NoOrder : Addr}
    {nm_NoOrder q_NoOrder : Str} {N_NoOrder : Addr} {bs_NoOrder bm_NoOrder : List Value} {sn_NoOrder : List Str} {sub_NoOrder : List Value} {ab_NoOrder : Bool} {col_NoOrder : Option Bool} {dd_NoOrder : Option Addr} {g0_NoOrder g1_NoOrder g2_NoOrder g3_NoOrder g5_NoOrder : Option Value}
    {fI_NoOrder : Addr} {odI_NoOrder anI_NoOrder : Option Addr} {slI_NoOrder : Array (Option Value)} {ocI_NoOrder kVI_NoOrder dcI_NoOrder pmI_NoOrder cdI_NoOrder ctI_NoOrder : Value}
    {aO : Addr} {mO : Nat} {oO : Option Addr} {uO : Array (Option Value)} {r1 r2 r3 r4 : Tok}
    (a1 : PySem.W.nsIn K mainGlobals "is_tag" = some (some (.ref f1)))
    (l1 : K.lookup f1 = some ⟨oc1, od1, .func (PySem.W.fnOf "is_tag" "is_tag" (defArgs sIsTag) (defBody sIsTag) (defScope sIsTag) .none kV1 dc1 pm1 an1 cd1 ct1), sl1⟩)
    (c1 : PySem.W.codeIn K cd1 "is_tag" = true)
    (k1 : PySem.W.keepIn K (.ref f1) = true)
    (a2 : PySem.W.nsIn K mainGlobals "is_tag_and_kids" = some (some (.ref f2)))
    (l2 : K.lookup f2 = some ⟨oc2, od2, .func (PySem.W.fnOf "is_tag_and_kids" "is_tag_and_kids" (defArgs sTagKids) (defBody sTagKids) (defScope sTagKids) .none kV2 dc2 pm2 an2 cd2 ct2), sl2⟩)
    (c2 : PySem.W.codeIn K cd2 "is_tag_and_kids" = true)
    (k2 : PySem.W.keepIn K (.ref f2) = true)
    (a3 : PySem.W.nsIn K mainGlobals "room_behind" = some (some (.ref f3)))
    (l3 : K.lookup f3 = some ⟨oc3, od3, .func (PySem.W.fnOf "room_behind" "room_behind" (defArgs sRoom) (defBody sRoom) (defScope sRoom) .none kV3 dc3 pm3 an3 cd3 ct3), sl3⟩)
    (c3 : PySem.W.codeIn K cd3 "room_behind" = true)
    (k3 : PySem.W.keepIn K (.ref f3) = true)
    (a4 : PySem.W.nsIn K mainGlobals "is_tree" = some (some (.ref f4)))
    (l4 : K.lookup f4 = some ⟨oc4, od4, .func (PySem.W.fnOf "is_tree" "is_tree" (defArgs sIsTree) (defBody sIsTree) (defScope sIsTree) .none kV4 dc4 pm4 an4 cd4 ct4), sl4⟩)
    (c4 : PySem.W.codeIn K cd4 "is_tree" = true)
    (k4 : PySem.W.keepIn K (.ref f4) = true)
    (a5 : PySem.W.nsIn K mainGlobals "check_tree" = some (some (.ref f5)))
    (l5 : K.lookup f5 = some ⟨oc5, od5, .func (PySem.W.fnOf "check_tree" "check_tree" (defArgs sChkTree) (defBody sChkTree) (defScope sChkTree) .none kV5 dc5 pm5 an5 cd5 ct5), sl5⟩)
    (c5 : PySem.W.codeIn K cd5 "check_tree" = true)
    (k5 : PySem.W.keepIn K (.ref f5) = true)
    (a6 : PySem.W.nsIn K mainGlobals "_law_next" = some (some (.ref f6)))
    (l6 : K.lookup f6 = some ⟨oc6, od6, .func (PySem.W.fnOf "_law_next" "_law_next" (defArgs sNext) (defBody sNext) (defScope sNext) .none kV6 dc6 pm6 an6 cd6 ct6), sl6⟩)
    (c6 : PySem.W.codeIn K cd6 "_law_next" = true)
    (k6 : PySem.W.keepIn K (.ref f6) = true)
    (a7 : PySem.W.nsIn K mainGlobals "_law_state" = some (some (.ref f7)))
    (l7 : K.lookup f7 = some ⟨oc7, od7, .func (PySem.W.fnOf "_law_state" "_law_state" (defArgs sState) (defBody sState) (defScope sState) .none kV7 dc7 pm7 an7 cd7 ct7), sl7⟩)
    (c7 : PySem.W.codeIn K cd7 "_law_state" = true)
    (k7 : PySem.W.keepIn K (.ref f7) = true)
    (a8 : PySem.W.nsIn K mainGlobals "_law_tree" = some (some (.ref f8)))
    (l8 : K.lookup f8 = some ⟨oc8, od8, .func (PySem.W.fnOf "_law_tree" "_law_tree" (defArgs sTreeL) (defBody sTreeL) (defScope sTreeL) .none kV8 dc8 pm8 an8 cd8 ct8), sl8⟩)
    (c8 : PySem.W.codeIn K cd8 "_law_tree" = true)
    (k8 : PySem.W.keepIn K (.ref f8) = true)
    (a9 : PySem.W.nsIn K mainGlobals "_law_alike" = some (some (.ref f9)))
    (l9 : K.lookup f9 = some ⟨oc9, od9, .func (PySem.W.fnOf "_law_alike" "_law_alike" (defArgs sAlike) (defBody sAlike) (defScope sAlike) .none kV9 dc9 pm9 an9 cd9 ct9), sl9⟩)
    (c9 : PySem.W.codeIn K cd9 "_law_alike" = true)
    (k9 : PySem.W.keepIn K (.ref f9) = true)
    (a10 : PySem.W.nsIn K mainGlobals "part_at" = some (some (.ref f10)))
    (l10 : K.lookup f10 = some ⟨oc10, od10, .func (PySem.W.fnOf "part_at" "part_at" (defArgs sPartAt) (defBody sPartAt) (defScope sPartAt) .none kV10 dc10 pm10 an10 cd10 ct10), sl10⟩)
    (c10 : PySem.W.codeIn K cd10 "part_at" = true)
    (k10 : PySem.W.keepIn K (.ref f10) = true)
    (a11 : PySem.W.nsIn K mainGlobals "paths_from" = some (some (.ref f11)))
    (l11 : K.lookup f11 = some ⟨oc11, od11, .func (PySem.W.fnOf "paths_from" "paths_from" (defArgs sPathsF) (defBody sPathsF) (defScope sPathsF) .none kV11 dc11 pm11 an11 cd11 ct11), sl11⟩)
    (c11 : PySem.W.codeIn K cd11 "paths_from" = true)
    (k11 : PySem.W.keepIn K (.ref f11) = true)
    (a12 : PySem.W.nsIn K mainGlobals "_law_places" = some (some (.ref f12)))
    (l12 : K.lookup f12 = some ⟨oc12, od12, .func (PySem.W.fnOf "_law_places" "_law_places" (defArgs sPlaces) (defBody sPlaces) (defScope sPlaces) .none kV12 dc12 pm12 an12 cd12 ct12), sl12⟩)
    (c12 : PySem.W.codeIn K cd12 "_law_places" = true)
    (k12 : PySem.W.keepIn K (.ref f12) = true)
    (a13 : PySem.W.nsIn K mainGlobals "_law_live" = some (some (.ref f13)))
    (l13 : K.lookup f13 = some ⟨oc13, od13, .func (PySem.W.fnOf "_law_live" "_law_live" (defArgs sLive) (defBody sLive) (defScope sLive) .none kV13 dc13 pm13 an13 cd13 ct13), sl13⟩)
    (c13 : PySem.W.codeIn K cd13 "_law_live" = true)
    (k13 : PySem.W.keepIn K (.ref f13) = true)
    (a14 : PySem.W.nsIn K mainGlobals "_law_find" = some (some (.ref f14)))
    (l14 : K.lookup f14 = some ⟨oc14, od14, .func (PySem.W.fnOf "_law_find" "_law_find" (defArgs sFind) (defBody sFind) (defScope sFind) .none kV14 dc14 pm14 an14 cd14 ct14), sl14⟩)
    (c14 : PySem.W.codeIn K cd14 "_law_find" = true)
    (k14 : PySem.W.keepIn K (.ref f14) = true)
    (a15 : PySem.W.nsIn K mainGlobals "_law_numbers" = some (some (.ref f15)))
    (l15 : K.lookup f15 = some ⟨oc15, od15, .func (PySem.W.fnOf "_law_numbers" "_law_numbers" (defArgs sNums) (defBody sNums) (defScope sNums) .none kV15 dc15 pm15 an15 cd15 ct15), sl15⟩)
    (c15 : PySem.W.codeIn K cd15 "_law_numbers" = true)
    (k15 : PySem.W.keepIn K (.ref f15) = true)
    (a16 : PySem.W.nsIn K mainGlobals "paths_behind" = some (some (.ref f16)))
    (l16 : K.lookup f16 = some ⟨oc16, od16, .func (PySem.W.fnOf "paths_behind" "paths_behind" (defArgs sPathsB) (defBody sPathsB) (defScope sPathsB) .none kV16 dc16 pm16 an16 cd16 ct16), sl16⟩)
    (c16 : PySem.W.codeIn K cd16 "paths_behind" = true)
    (k16 : PySem.W.keepIn K (.ref f16) = true)
    (a17 : PySem.W.nsIn K mainGlobals "check_order" = some (some (.ref f17)))
    (l17 : K.lookup f17 = some ⟨oc17, od17, .func (PySem.W.fnOf "check_order" "check_order" (defArgs sChkO) (defBody sChkO) (defScope sChkO) .none kV17 dc17 pm17 an17 cd17 ct17), sl17⟩)
    (c17 : PySem.W.codeIn K cd17 "check_order" = true)
    (k17 : PySem.W.keepIn K (.ref f17) = true)
    (a18 : PySem.W.nsIn K mainGlobals "paths_in" = some (some (.ref f18)))
    (l18 : K.lookup f18 = some ⟨oc18, od18, .func (PySem.W.fnOf "paths_in" "paths_in" (defArgs sPathsIn) (defBody sPathsIn) (defScope sPathsIn) .none kV18 dc18 pm18 an18 cd18 ct18), sl18⟩)
    (c18 : PySem.W.codeIn K cd18 "paths_in" = true)
    (k18 : PySem.W.keepIn K (.ref f18) = true)
    (a19 : PySem.W.nsIn K mainGlobals "in_order" = some (some (.ref f19)))
    (l19 : K.lookup f19 = some ⟨oc19, od19, .func (PySem.W.fnOf "in_order" "in_order" (defArgs sInO) (defBody sInO) (defScope sInO) .none kV19 dc19 pm19 an19 cd19 ct19), sl19⟩)
    (c19 : PySem.W.codeIn K cd19 "in_order" = true)
    (k19 : PySem.W.keepIn K (.ref f19) = true)
    (a20 : PySem.W.nsIn K mainGlobals "_law_order" = some (some (.ref f20)))
    (l20 : K.lookup f20 = some ⟨oc20, od20, .func (PySem.W.fnOf "_law_order" "_law_order" (defArgs sOrder) (defBody sOrder) (defScope sOrder) .none kV20 dc20 pm20 an20 cd20 ct20), sl20⟩)
    (c20 : PySem.W.codeIn K cd20 "_law_order" = true)
    (k20 : PySem.W.keepIn K (.ref f20) = true)
    (a21 : PySem.W.nsIn K mainGlobals "_law_refused" = some (some (.ref f21)))
    (l21 : K.lookup f21 = some ⟨oc21, od21, .func (PySem.W.fnOf "_law_refused" "_law_refused" (defArgs sRef) (defBody sRef) (defScope sRef) .none kV21 dc21 pm21 an21 cd21 ct21), sl21⟩)
    (c21 : PySem.W.codeIn K cd21 "_law_refused" = true)
    (k21 : PySem.W.keepIn K (.ref f21) = true)
    (a22 : PySem.W.nsIn K mainGlobals "law" = some (some (.ref f22)))
    (l22 : K.lookup f22 = some ⟨oc22, od22, .func (PySem.W.fnOf "law" "law" (defArgs sLaw) (defBody sLaw) (defScope sLaw) .none kV22 dc22 pm22 an22 cd22 ct22), sl22⟩)
    (c22 : PySem.W.codeIn K cd22 "law" = true)
    (k22 : PySem.W.keepIn K (.ref f22) = true)
    (z1 : PySem.W.nsIn K mainGlobals "isinstance" = some none)
    (z2 : PySem.W.nsIn K mainGlobals "int" = some none)
    (z3 : PySem.W.nsIn K mainGlobals "bool" = some none)
    (z4 : PySem.W.nsIn K mainGlobals "str" = some none)
    (z5 : PySem.W.nsIn K mainGlobals "tuple" = some none)
    (z6 : PySem.W.nsIn K mainGlobals "list" = some none)
    (z7 : PySem.W.nsIn K mainGlobals "len" = some none)
    (z8 : PySem.W.nsIn K mainGlobals "all" = some none)
    (z9 : PySem.W.nsIn K mainGlobals "repr" = some none)
    (z10 : PySem.W.nsIn K mainGlobals "max" = some none)
    (z11 : PySem.W.nsIn K mainGlobals "range" = some none)
    (z12 : PySem.W.nsIn K mainGlobals "enumerate" = some none)
    (z13 : PySem.W.nsIn K mainGlobals "zip" = some none)
    (z14 : PySem.W.nsIn K mainGlobals "sorted" = some none)
    (z15 : PySem.W.nsIn K mainGlobals "ValueError" = some none)
    (n1 : PySem.W.nsIn K mainGlobals "SIZE" = some (some (.int 60 t1)))
    (n2 : PySem.W.nsIn K mainGlobals "DEPTH" = some (some (.int 12 t2)))
    (n3 : PySem.W.nsIn K mainGlobals "SIGNS" = some (some (.int 8 t3)))
    (y_TreeError : PySem.W.nsIn K mainGlobals "TreeError" = some (some (.ref c_TreeError)))
    (y_NoThing : PySem.W.nsIn K mainGlobals "NoThing" = some (some (.ref c_NoThing)))
    (y_NoTree : PySem.W.nsIn K mainGlobals "NoTree" = some (some (.ref c_NoTree)))
    (y_NoPath : PySem.W.nsIn K mainGlobals "NoPath" = some (some (.ref c_NoPath)))
    (y_NoOrder : PySem.W.nsIn K mainGlobals "NoOrder" = some (some (.ref c_NoOrder)))
    (o1_TreeError : PySem.W.isClsIn K c_TreeError = true)
    (o2_TreeError : PySem.W.typeIn K (.ref c_TreeError) = some (.type "type"))
    (o1_NoThing : PySem.W.isClsIn K c_NoThing = true)
    (o2_NoThing : PySem.W.typeIn K (.ref c_NoThing) = some (.type "type"))
    (o1_NoTree : PySem.W.isClsIn K c_NoTree = true)
    (o2_NoTree : PySem.W.typeIn K (.ref c_NoTree) = some (.type "type"))
    (o1_NoPath : PySem.W.isClsIn K c_NoPath = true)
    (o2_NoPath : PySem.W.typeIn K (.ref c_NoPath) = some (.type "type"))
    (o1_NoOrder : PySem.W.isClsIn K c_NoOrder = true)
    (o2_NoOrder : PySem.W.typeIn K (.ref c_NoOrder) = some (.type "type"))
    (b1_TreeError : PySem.W.subIn K (.ref c_TreeError) (.type "BaseException") = some true)
    (b2_TreeError : PySem.W.hasDictIn K c_TreeError = true)
    (hnG : PySem.W.specialIn K (.builtin "object.__class__") "__get__" = some (some (.builtin "getset_descriptor.__get__")))
    (htG : PySem.W.takesIn K (.builtin "object.__class__") = some true)
    (w_NoTreeg : PySem.W.findIn K (.ref c_NoTree) "__getattribute__" = some (some (.builtin "BaseException.__getattribute__")))
    (w_NoTreek : PySem.W.findIn K (.ref c_NoTree) "__getattr__" = some none)
    (w_NoTrees : PySem.W.subIn K (.ref c_NoTree) (.type "BaseException") = some true)
    (w_NoTreed : PySem.W.hasDictIn K c_NoTree = true)
    (w_NoTreea : PySem.W.findIn K (.ref c_NoTree) "__class__" = some (some (.builtin "object.__class__")))
    (w_NoTreem : PySem.W.mroIn K c_NoTree (.type "object") = some true)
    (w_NoTreev : PySem.W.subIn K (.ref c_NoTree) (.type "ValueError") = some true)
    (w_NoTree_TreeError : PySem.W.subIn K (.ref c_NoTree) (.ref c_TreeError) = some true)
    (w_NoTree_NoThing : PySem.W.subIn K (.ref c_NoTree) (.ref c_NoThing) = some true)
    (w_NoTree_NoTree : PySem.W.subIn K (.ref c_NoTree) (.ref c_NoTree) = some true)
    (w_NoTree_NoPath : PySem.W.subIn K (.ref c_NoTree) (.ref c_NoPath) = some false)
    (w_NoTree_NoOrder : PySem.W.subIn K (.ref c_NoTree) (.ref c_NoOrder) = some false)
    (x1_NoTree : PySem.W.excIn K c_NoTree [.type "ValueError", .type "Exception", .type "BaseException", .type "object"] "ValueError.__new__" = true)
    (x2_NoTree : PySem.W.keepIn K (.ref c_NoTree) = true)
    (w_NoOrderg : PySem.W.findIn K (.ref c_NoOrder) "__getattribute__" = some (some (.builtin "BaseException.__getattribute__")))
    (w_NoOrderk : PySem.W.findIn K (.ref c_NoOrder) "__getattr__" = some none)
    (w_NoOrders : PySem.W.subIn K (.ref c_NoOrder) (.type "BaseException") = some true)
    (w_NoOrderd : PySem.W.hasDictIn K c_NoOrder = true)
    (w_NoOrdera : PySem.W.findIn K (.ref c_NoOrder) "__class__" = some (some (.builtin "object.__class__")))
    (w_NoOrderm : PySem.W.mroIn K c_NoOrder (.type "object") = some true)
    (w_NoOrderv : PySem.W.subIn K (.ref c_NoOrder) (.type "ValueError") = some true)
    (w_NoOrder_TreeError : PySem.W.subIn K (.ref c_NoOrder) (.ref c_TreeError) = some true)
    (w_NoOrder_NoThing : PySem.W.subIn K (.ref c_NoOrder) (.ref c_NoThing) = some true)
    (w_NoOrder_NoTree : PySem.W.subIn K (.ref c_NoOrder) (.ref c_NoTree) = some false)
    (w_NoOrder_NoPath : PySem.W.subIn K (.ref c_NoOrder) (.ref c_NoPath) = some false)
    (w_NoOrder_NoOrder : PySem.W.subIn K (.ref c_NoOrder) (.ref c_NoOrder) = some true)
    (xl1_NoOrder : K.lookup c_NoOrder = some (excClassObj nm_NoOrder q_NoOrder c_NoOrder N_NoOrder bs_NoOrder bm_NoOrder true sn_NoOrder sub_NoOrder ab_NoOrder col_NoOrder dd_NoOrder g0_NoOrder g1_NoOrder g2_NoOrder g3_NoOrder g5_NoOrder "ValueError.__new__"))
    (xl2_NoOrder : PySem.HandSPX.refsVE bm_NoOrder = true)
    (xl3_NoOrder : PySem.W.findIn K (.ref c_NoOrder) "__setattr__" = some (some (.builtin "object.__setattr__")))
    (xl4_NoOrder : PySem.W.keepIn K (.ref c_NoOrder) = true)
    (xl5_NoOrder : PySem.W.findIn K (.ref c_NoOrder) "__init__" = some (some (.ref fI_NoOrder)))
    (xl6_NoOrder : PySem.W.typeIn K (.ref fI_NoOrder) = some (.type "function"))
    (xl7_NoOrder : PySem.W.findIn K (.ref c_NoOrder) "how" = some none)
    (lI_NoOrder : K.lookup fI_NoOrder = some ⟨ocI_NoOrder, odI_NoOrder, .func (PySem.W.fnOf "__init__" "NoOrder.__init__" (defArgs sI_NoOrder) (defBody sI_NoOrder) (defScope sI_NoOrder) .none kVI_NoOrder dcI_NoOrder pmI_NoOrder anI_NoOrder cdI_NoOrder ctI_NoOrder), slI_NoOrder⟩)
    (cI_NoOrder : PySem.W.codeIn K cdI_NoOrder "NoOrder.__init__" = true)
    (kI_NoOrder : PySem.W.keepIn K (.ref fI_NoOrder) = true)
    (fO : PySem.W.nsIn K mainGlobals "ORDERS" = some (some (.ref aO)))
    (gO : K.lookup aO = some ⟨.type "tuple", oO, .seq #[.str "ahead" r1, .str "behind" r2, .str "levels" r3, .str "leaves" r4] mO, uO⟩)
    {s₁ : Shared} {base : Heap} {H : Hp} {a : Addr} {ns : List Int} (hlen : ns.length ≤ 63) (hS : SqL K H a (ns.map V.int)) {cO1 tp1 : Addr} (ht1 : H tp1 = some (.tbl #[])) (hb1 : LamX.TabB base mg cO1 tp1) (hi1 : PySem.W.tabIn K "_law_order" = some (cO1, tp1)) (e0 : Env0 P w K mg base callerA [] s₁ H) :
    codeAny (model P w) callerA (.call (.ref fa) ⟨[.ref a], []⟩) (CR CX0 [] P w H s₁ (fun v _ => v = V.bl true) fun _ _ _ => False) s₁ := by
  have T : Bl mg := ⟨PySem.W.mg_none_of X G z1, PySem.W.mg_none_of X G z2, PySem.W.mg_none_of X G z3, PySem.W.mg_none_of X G z4, PySem.W.mg_none_of X G z5, PySem.W.mg_none_of X G z6, PySem.W.mg_none_of X G z7, PySem.W.mg_none_of X G z8, PySem.W.mg_none_of X G z9, PySem.W.mg_none_of X G z10, PySem.W.mg_none_of X G z11, PySem.W.mg_none_of X G z12⟩
  have cSIZE : ∃ t, mg "SIZE" = some (.int 60 t) := ⟨_, PySem.W.mg_of X G n1⟩
  have cDEPTH : ∃ t, mg "DEPTH" = some (.int 12 t) := ⟨_, PySem.W.mg_of X G n2⟩
  have cSIGNS : ∃ t, mg "SIGNS" = some (.int 8 t) := ⟨_, PySem.W.mg_of X G n3⟩
  have z_zip : mg "zip" = none := PySem.W.mg_none_of X G z13
  have z_sorted : mg "sorted" = none := PySem.W.mg_none_of X G z14
  have z_ValueError : mg "ValueError" = none := PySem.W.mg_none_of X G z15
  let A : Cls K mg := ⟨c_TreeError, c_NoThing, c_NoTree, c_NoPath, c_NoOrder, PySem.W.mg_of X G y_TreeError, PySem.W.mg_of X G y_NoThing, PySem.W.mg_of X G y_NoTree, PySem.W.mg_of X G y_NoPath, PySem.W.mg_of X G y_NoOrder, ⟨PySem.W.mg_of X G y_NoTree, x1_NoTree, x2_NoTree, w_NoTrees, o2_NoTree⟩, ⟨w_NoTreeg, w_NoTreek, w_NoTrees, w_NoTreed, w_NoTreea, hnG, htG, w_NoTreem⟩, kit_ve w_NoTreev, kit_sub o1_TreeError o2_TreeError w_NoTree_TreeError, kit_sub o1_NoThing o2_NoThing w_NoTree_NoThing, kit_sub o1_NoTree o2_NoTree w_NoTree_NoTree, kit_no o1_NoPath o2_NoPath w_NoTree_NoTree w_NoTree_NoPath, kit_no o1_NoOrder o2_NoOrder w_NoTree_NoTree w_NoTree_NoOrder, PySem.W.exm_ref b1_TreeError b2_TreeError o2_TreeError w_NoTree_TreeError, ⟨⟨⟨_, _, _, _, _, _, _, _, _, _, _, _, _, _, _, xl1_NoOrder, xl2_NoOrder⟩, xl3_NoOrder, w_NoOrders, o2_NoOrder, xl4_NoOrder⟩, PySem.W.mg_of X G y_NoOrder, xl7_NoOrder, _, _, xl5_NoOrder, xl6_NoOrder, fun_mk (st := sI_NoOrder) lI_NoOrder cI_NoOrder kI_NoOrder⟩, ⟨w_NoOrderg, w_NoOrderk, w_NoOrders, w_NoOrderd, w_NoOrdera, hnG, htG, w_NoOrderm⟩, kit_ve w_NoOrderv, kit_sub o1_TreeError o2_TreeError w_NoOrder_TreeError, kit_sub o1_NoThing o2_NoThing w_NoOrder_NoThing, kit_no o1_NoTree o2_NoTree w_NoOrder_NoOrder w_NoOrder_NoTree, kit_no o1_NoPath o2_NoPath w_NoOrder_NoOrder w_NoOrder_NoPath, kit_sub o1_NoOrder o2_NoOrder w_NoOrder_NoOrder, PySem.W.exm_ref b1_TreeError b2_TreeError o2_TreeError w_NoOrder_TreeError⟩
  have C : Cs mg := ⟨cSIZE, cDEPTH, cSIGNS⟩
  let TORDERS : WordsT K mg "ORDERS" ordsD := ⟨aO, PySem.W.mg_of X G fO, wrds (zs := ordsL) gO (Nat.le_of_ble_eq_true rfl) (.cons ⟨_, rfl⟩ (.cons ⟨_, rfl⟩ (.cons ⟨_, rfl⟩ (.cons ⟨_, rfl⟩ (.nil)))))⟩
  have D : Nonempty (Defs K mg) := ⟨⟨at_mk X G a1 l1 c1 k1, at_mk X G a2 l2 c2 k2, at_mk X G a3 l3 c3 k3, at_mk X G a4 l4 c4 k4, at_mk X G a5 l5 c5 k5, at_mk X G a6 l6 c6 k6, at_mk X G a7 l7 c7 k7, at_mk X G a8 l8 c8 k8, at_mk X G a9 l9 c9 k9, at_mk X G a10 l10 c10 k10, at_mk X G a11 l11 c11 k11, at_mk X G a12 l12 c12 k12, at_mk X G a13 l13 c13 k13, at_mk X G a14 l14 c14 k14, at_mk X G a15 l15 c15 k15, at_mk X G a16 l16 c16 k16, at_mk X G a17 l17 c17 k17, at_mk X G a18 l18 c18 k18, at_mk X G a19 l19 c19 k19, at_mk X G a20 l20 c20 k20, at_mk X G a21 l21 c21 k21, at_mk X G a22 l22 c22 k22⟩⟩
  obtain ⟨D⟩ := D
  have e : D.d_law.f = fa := by
    have := hfa.symm.trans D.d_law.m
    cases this
    rfl
  rw [← e]
  have hc1 : D.d__law_order.fd.code = .ref cO1 := code_of X G D.d__law_order.F D.d__law_order.m hi1
  exact ok_law (tp := tp1) D.d_law.F T (calls D T A C z_zip z_sorted z_ValueError TORDERS hc1 base hb1) TORDERS z_sorted hS ht1 e0
end Tl
open PySem PySem.W PyProof.Rows
set_option Elab.async false
set_option maxRecDepth 100000 in
set_option maxHeartbeats 0 in
theorem PySem.Challenge.cw_treelore_k29_orders_told_holds : PySem.Challenge.rw_treelore_k29_orders_told.Holds := by
  refine tl_head ?_
  k_fill
  refine' Tl.walk_at_topT (l := PySem.Challenge.rw_treelore_k29_orders_told) (n := 63) (ts := [("_law_order", _, _)]) rfl (by decide) rfl (fun w h Y => PySem.W.km_in_of Y) ?HT ?F
  case HT =>
    refine' ⟨⟨⟨_, ?R0⟩, fun w => ⟨Tl.tabIn_mk ?A0 ?B0 ?C0 ?D0 ?E0, ?N0⟩⟩, trivial⟩
    (case R0 => rfl)
    (case A0 => k_is)
    (case B0 => k_is)
    (case C0 => rfl)
    (case D0 => k_is)
    (case E0 => rfl)
    (case N0 => kernel_rfl)
  case F =>
    intro w mg fa h KX G hmg s₁ base H a ns hlen hKb hNb hS hT hB hI e0
    refine' Tl.all_mk KX G hmg ?a1 ?l1 ?c1 ?k1 ?a2 ?l2 ?c2 ?k2 ?a3 ?l3 ?c3 ?k3 ?a4 ?l4 ?c4 ?k4 ?a5 ?l5 ?c5 ?k5 ?a6 ?l6 ?c6 ?k6 ?a7 ?l7 ?c7 ?k7 ?a8 ?l8 ?c8 ?k8 ?a9 ?l9 ?c9 ?k9 ?a10 ?l10 ?c10 ?k10 ?a11 ?l11 ?c11 ?k11 ?a12 ?l12 ?c12 ?k12 ?a13 ?l13 ?c13 ?k13 ?a14 ?l14 ?c14 ?k14 ?a15 ?l15 ?c15 ?k15 ?a16 ?l16 ?c16 ?k16 ?a17 ?l17 ?c17 ?k17 ?a18 ?l18 ?c18 ?k18 ?a19 ?l19 ?c19 ?k19 ?a20 ?l20 ?c20 ?k20 ?a21 ?l21 ?c21 ?k21 ?a22 ?l22 ?c22 ?k22 ?z1 ?z2 ?z3 ?z4 ?z5 ?z6 ?z7 ?z8 ?z9 ?z10 ?z11 ?z12 ?z13 ?z14 ?z15 ?n1 ?n2 ?n3 ?y_TreeError ?y_NoThing ?y_NoTree ?y_NoPath ?y_NoOrder ?o1_TreeError ?o2_TreeError ?o1_NoThing ?o2_NoThing ?o1_NoTree ?o2_NoTree ?o1_NoPath ?o2_NoPath ?o1_NoOrder ?o2_NoOrder ?b1_TreeError ?b2_TreeError ?hnG ?htG ?w_NoTreeg ?w_NoTreek ?w_NoTrees ?w_NoTreed ?w_NoTreea ?w_NoTreem ?w_NoTreev ?w_NoTree_TreeError ?w_NoTree_NoThing ?w_NoTree_NoTree ?w_NoTree_NoPath ?w_NoTree_NoOrder ?x1_NoTree ?x2_NoTree ?w_NoOrderg ?w_NoOrderk ?w_NoOrders ?w_NoOrderd ?w_NoOrdera ?w_NoOrderm ?w_NoOrderv ?w_NoOrder_TreeError ?w_NoOrder_NoThing ?w_NoOrder_NoTree ?w_NoOrder_NoPath ?w_NoOrder_NoOrder ?xl1_NoOrder ?xl2_NoOrder ?xl3_NoOrder ?xl4_NoOrder ?xl5_NoOrder ?xl6_NoOrder ?xl7_NoOrder ?lI_NoOrder ?cI_NoOrder ?kI_NoOrder ?fO ?gO hlen hS (hT _ (.head _)) (hB _ (.head _)) (hI _ (.head _)) e0
    (case a1 => k_is)
    (case l1 => k_is)
    (case c1 => k_is)
    (case k1 => k_is)
    (case a2 => k_is)
    (case l2 => k_is)
    (case c2 => k_is)
    (case k2 => k_is)
    (case a3 => k_is)
    (case l3 => k_is)
    (case c3 => k_is)
    (case k3 => k_is)
    (case a4 => k_is)
    (case l4 => k_is)
    (case c4 => k_is)
    (case k4 => k_is)
    (case a5 => k_is)
    (case l5 => k_is)
    (case c5 => k_is)
    (case k5 => k_is)
    (case a6 => k_is)
    (case l6 => k_is)
    (case c6 => k_is)
    (case k6 => k_is)
    (case a7 => k_is)
    (case l7 => k_is)
    (case c7 => k_is)
    (case k7 => k_is)
    (case a8 => k_is)
    (case l8 => k_is)
    (case c8 => k_is)
    (case k8 => k_is)
    (case a9 => k_is)
    (case l9 => k_is)
    (case c9 => k_is)
    (case k9 => k_is)
    (case a10 => k_is)
    (case l10 => k_is)
    (case c10 => k_is)
    (case k10 => k_is)
    (case a11 => k_is)
    (case l11 => k_is)
    (case c11 => k_is)
    (case k11 => k_is)
    (case a12 => k_is)
    (case l12 => k_is)
    (case c12 => k_is)
    (case k12 => k_is)
    (case a13 => k_is)
    (case l13 => k_is)
    (case c13 => k_is)
    (case k13 => k_is)
    (case a14 => k_is)
    (case l14 => k_is)
    (case c14 => k_is)
    (case k14 => k_is)
    (case a15 => k_is)
    (case l15 => k_is)
    (case c15 => k_is)
    (case k15 => k_is)
    (case a16 => k_is)
    (case l16 => k_is)
    (case c16 => k_is)
    (case k16 => k_is)
    (case a17 => k_is)
    (case l17 => k_is)
    (case c17 => k_is)
    (case k17 => k_is)
    (case a18 => k_is)
    (case l18 => k_is)
    (case c18 => k_is)
    (case k18 => k_is)
    (case a19 => k_is)
    (case l19 => k_is)
    (case c19 => k_is)
    (case k19 => k_is)
    (case a20 => k_is)
    (case l20 => k_is)
    (case c20 => k_is)
    (case k20 => k_is)
    (case a21 => k_is)
    (case l21 => k_is)
    (case c21 => k_is)
    (case k21 => k_is)
    (case a22 => k_is)
    (case l22 => k_is)
    (case c22 => k_is)
    (case k22 => k_is)
    (case z1 => k_is)
    (case z2 => k_is)
    (case z3 => k_is)
    (case z4 => k_is)
    (case z5 => k_is)
    (case z6 => k_is)
    (case z7 => k_is)
    (case z8 => k_is)
    (case z9 => k_is)
    (case z10 => k_is)
    (case z11 => k_is)
    (case z12 => k_is)
    (case z13 => k_is)
    (case z14 => k_is)
    (case z15 => k_is)
    (case n1 => k_is)
    (case n2 => k_is)
    (case n3 => k_is)
    (case y_TreeError => k_is)
    (case y_NoThing => k_is)
    (case y_NoTree => k_is)
    (case y_NoPath => k_is)
    (case y_NoOrder => k_is)
    (case o1_TreeError => k_is)
    (case o2_TreeError => k_is)
    (case o1_NoThing => k_is)
    (case o2_NoThing => k_is)
    (case o1_NoTree => k_is)
    (case o2_NoTree => k_is)
    (case o1_NoPath => k_is)
    (case o2_NoPath => k_is)
    (case o1_NoOrder => k_is)
    (case o2_NoOrder => k_is)
    (case b1_TreeError => k_is)
    (case b2_TreeError => k_is)
    (case hnG => k_is)
    (case htG => k_is)
    (case w_NoTreeg => k_is)
    (case w_NoTreek => k_is)
    (case w_NoTrees => k_is)
    (case w_NoTreed => k_is)
    (case w_NoTreea => k_is)
    (case w_NoTreem => k_is)
    (case w_NoTreev => k_is)
    (case w_NoTree_TreeError => first | k_is | rfl)
    (case w_NoTree_NoThing => first | k_is | rfl)
    (case w_NoTree_NoTree => first | k_is | rfl)
    (case w_NoTree_NoPath => first | k_is | rfl)
    (case w_NoTree_NoOrder => first | k_is | rfl)
    (case x1_NoTree => k_exc)
    (case x2_NoTree => k_is)
    (case w_NoOrderg => k_is)
    (case w_NoOrderk => k_is)
    (case w_NoOrders => k_is)
    (case w_NoOrderd => k_is)
    (case w_NoOrdera => k_is)
    (case w_NoOrderm => k_is)
    (case w_NoOrderv => k_is)
    (case w_NoOrder_TreeError => first | k_is | rfl)
    (case w_NoOrder_NoThing => first | k_is | rfl)
    (case w_NoOrder_NoTree => first | k_is | rfl)
    (case w_NoOrder_NoPath => first | k_is | rfl)
    (case w_NoOrder_NoOrder => first | k_is | rfl)
    (case xl1_NoOrder => k_is)
    (case xl2_NoOrder => first | rfl | decide | k_is)
    (case xl3_NoOrder => k_is)
    (case xl4_NoOrder => k_is)
    (case xl5_NoOrder => k_is)
    (case xl6_NoOrder => k_is)
    (case xl7_NoOrder => k_is)
    (case lI_NoOrder => k_is)
    (case cI_NoOrder => k_is)
    (case kI_NoOrder => k_is)
    (case fO => k_is)
    (case gO => k_is)
