import PyProof.Rows.All
import Wide.All
import OpenK.AllK
import Wide.FinOn
import HandS.ForMost
import HandS.IsInst
import HandS.TupAny
import HandS.TupMul
import HandS.Style
import HandS.Flow
import HandS.Walk
import KE.GoesMore
import HandS.FStrTup
import HandS.ExcValue
import HandS.ExcIs
import HandS.ExcField
import KE.KExcIs
import HandS.ExcInit
import HandS.WordsExc
import HandS.SortKw
import KE.DataMinMax
import KE.KeyNested
import KE.KDictKeyed
import HandS.Dict
import HandS.Lambda
import HandS.Zip
import HandS.RevTup
import HandS.More
import HandS.TryOnly
import HandS.IterVal
import PyProof.NeKinds
import HandS.Conv
import HandS.Deep
import PyProof.SliceSyntax
import KE.SortData
import KE.SortKeyHeap
import HandS.TupLe
import HandS.WordsDict
import HandS.SuiteRaise
import HandS.RaiseFrom
import HandS.ExcInitHot
import HandS.SetFor
import HandS.List
import HandS.Codes
import PyProof.EqKinds
import PyProof.FactsAll.dict
import KE.KDictPairs
import HandS.Replace
import HandS.TupLen
import HandS.DictComp
import HandS.OwnEq
import KE.KFmtOwn
import PySem.Challenge.RW_treelore_k50_sides_done
section
open PySem PySem.W PyProof.Rows
set_option Elab.async false
set_option maxRecDepth 100000 in
set_option maxHeartbeats 0 in
open_top tl_head for PySem.Challenge.rw_treelore_k50_sides_done
end
set_option Elab.async false
set_option linter.all false
set_option maxRecDepth 100000
set_option maxHeartbeats 4000000
/-! Data in the heap, by value: what stays when the heap grows, what isinstance and len answer of it. -/
namespace Tl
open PySem L2
theorem same_new {H : Hp} {p : Addr} {o : HO} (h : H p = none) : Same H (upd H p o) := fun b u q => by
  rw [upd_ne (ne_of_none q h)]
  exact q
/-- what F does not know may change -/
theorem same_mut {F H : Hp} {p : Addr} {o : HO} (e : Same F H) (h : F p = none) : Same F (upd H p o) := fun b u q => by
  rw [upd_ne (ne_of_none q h)]
  exact e b u q
theorem same_rd {H H' : Hp} {a : Addr} {u : HO} (e : Same H H') (h : Rd H a u) : Rd H' a u := by
  rcases h with h | ⟨o, h⟩
  · exact .inl (e a _ h)
  · exact .inr ⟨o, e a _ h⟩
theorem same_t {K : PySem.W.Frag} {H H' : Hp} {a : Addr} {xs : List V} (e : Same H H') (h : SqT K H a xs) : SqT K H' a xs := by
  rcases h with h | h
  · exact .inl (same_rd e h)
  · exact .inr h
theorem same_l {K : PySem.W.Frag} {H H' : Hp} {a : Addr} {xs : List V} (e : Same H H') (h : SqL K H a xs) : SqL K H' a xs := by
  rcases h with h | h
  · exact .inl (same_rd e h)
  · exact .inr h
mutual
theorem dp_mono {K : PySem.W.Frag} {H H' : Hp} (e : Same H H') : ∀ (d : PyData) (v : V), Dp K H v d → Dp K H' v d
  | .none, _, h => by cases h; exact .non
  | .bool b, _, h => by cases h; exact .bl b
  | .int i, _, h => by cases h; exact .int i
  | .str x, _, h => by cases h; exact .str x
  | .list ds, _, h => by
    cases h with
    | lst hs ha => exact .lst (same_l e hs) (dpAll_mono e ds _ ha)
  | .tuple ds, _, h => by
    cases h with
    | tup hs ha => exact .tup (same_t e hs) (dpAll_mono e ds _ ha)
  | .dict _, _, h => by cases h
theorem dpAll_mono {K : PySem.W.Frag} {H H' : Hp} (e : Same H H') : ∀ (ds : List PyData) (vs : List V), DpAll K H vs ds → DpAll K H' vs ds
  | [], _, h => by cases h; exact .nil
  | d :: ds, _, h => by
    cases h with
    | cons h1 h2 => exact .cons (dp_mono e d _ h1) (dpAll_mono e ds _ h2)
end
/-- a thing of the law: data, or the empty dict -/
inductive Dt (K : PySem.W.Frag) (H : Hp) : V → PyData → Prop
  | d {v : V} {d : PyData} : Dp K H v d → Dt K H v d
  | e {a : Addr} : H a = some (.dK []) → Dt K H (.ref a) (.dict [])
theorem Dt.mono {K : PySem.W.Frag} {H H' : Hp} {v : V} {d : PyData} (e : Same H H') (h : Dt K H v d) : Dt K H' v d := by
  cases h with
  | d h => exact .d (dp_mono e _ _ h)
  | e h => exact .e (e _ _ h)
theorem DpAll.len {K : PySem.W.Frag} {H : Hp} : ∀ {vs : List V} {ds : List PyData}, DpAll K H vs ds → vs.length = ds.length
  | _, _, .nil => rfl
  | _, _, .cons _ h => by rw [List.length_cons, List.length_cons, DpAll.len h]
theorem DpAll.get {K : PySem.W.Frag} {H : Hp} : ∀ {vs : List V} {ds : List PyData} {i : Nat} {v : V}, DpAll K H vs ds → vs[i]? = some v → ∃ d, ds[i]? = some d ∧ Dp K H v d
  | _, _, _, _, .nil, e => by simp at e
  | _, _, 0, _, .cons h _, e => by simp at e; subst e; exact ⟨_, rfl, h⟩
  | _, _, i + 1, v, .cons _ h, e => by
    obtain ⟨d, h1, h2⟩ := DpAll.get (i := i) (v := v) h (by simpa using e)
    exact ⟨d, by simpa using h1, h2⟩
theorem DpAll.got {K : PySem.W.Frag} {H : Hp} : ∀ {vs : List V} {ds : List PyData} {i : Nat} {d : PyData}, DpAll K H vs ds → ds[i]? = some d → ∃ v, vs[i]? = some v ∧ Dp K H v d
  | _, _, _, _, .nil, e => by simp at e
  | _, _, 0, _, .cons h _, e => by simp at e; subst e; exact ⟨_, rfl, h⟩
  | _, _, i + 1, d, .cons _ h, e => by
    obtain ⟨v, h1, h2⟩ := DpAll.got (i := i) (d := d) h (by simpa using e)
    exact ⟨v, by simpa using h1, h2⟩
theorem DpAll.app {K : PySem.W.Frag} {H : Hp} : ∀ {vs ws : List V} {ds es : List PyData}, DpAll K H vs ds → DpAll K H ws es → DpAll K H (vs ++ ws) (ds ++ es)
  | _, _, _, _, .nil, h => h
  | _, _, _, _, .cons a b, h => .cons a (DpAll.app b h)
theorem DpAll.take {K : PySem.W.Frag} {H : Hp} : ∀ {vs : List V} {ds : List PyData} (n : Nat), DpAll K H vs ds → DpAll K H (vs.take n) (ds.take n)
  | _, _, 0, _ => .nil
  | _, _, _ + 1, .nil => .nil
  | _, _, n + 1, .cons a b => .cons a (DpAll.take n b)
theorem DpAll.drop {K : PySem.W.Frag} {H : Hp} : ∀ {vs : List V} {ds : List PyData} (n : Nat), DpAll K H vs ds → DpAll K H (vs.drop n) (ds.drop n)
  | _, _, 0, h => h
  | _, _, _ + 1, .nil => .nil
  | _, _, n + 1, .cons a b => DpAll.drop n b
theorem DpAll.rev {K : PySem.W.Frag} {H : Hp} : ∀ {vs : List V} {ds : List PyData}, DpAll K H vs ds → DpAll K H vs.reverse ds.reverse
  | _, _, .nil => .nil
  | _, _, .cons a b => by rw [List.reverse_cons, List.reverse_cons]; exact DpAll.app (DpAll.rev b) (.cons a .nil)
theorem DpAll.rep {K : PySem.W.Frag} {H : Hp} {vs : List V} {ds : List PyData} (h : DpAll K H vs ds) : ∀ n : Nat, DpAll K H (List.replicate n vs).flatten (List.replicate n ds).flatten
  | 0 => .nil
  | n + 1 => by
    rw [List.replicate_succ, List.replicate_succ, List.flatten_cons, List.flatten_cons]
    exact DpAll.app h (DpAll.rep h n)
theorem DpAll.two {K : PySem.W.Frag} {H : Hp} : ∀ {vs : List V} {ds : List PyData}, DpAll K H vs ds → vs.length = 2 → ∃ x y a b, vs = [x, y] ∧ ds = [a, b] ∧ Dp K H x a ∧ Dp K H y b
  | _, _, .nil, e => by simp at e
  | _, _, .cons _ .nil, e => by simp at e
  | _, _, .cons h1 (.cons h2 .nil), _ => ⟨_, _, _, _, rfl, rfl, h1, h2⟩
  | _, _, .cons _ (.cons _ (.cons _ _)), e => by simp at e
/-! ### what isinstance answers -/
def tyName : PyData → String
  | .none => "NoneType"
  | .bool _ => "bool"
  | .int _ => "int"
  | .str _ => "str"
  | .list _ => "list"
  | .tuple _ => "tuple"
  | .dict _ => "dict"
@[reducible] def isStr : PyData → Bool
  | .str _ => true
  | _ => false
@[reducible] def isTup : PyData → Bool
  | .tuple _ => true
  | _ => false
@[reducible] def isInt : PyData → Bool
  | .int _ => true
  | .bool _ => true
  | _ => false
@[reducible] def isBl : PyData → Bool
  | .bool _ => true
  | _ => false
theorem kit_str (d : PyData) : kitB (tyName d) "str" = some (isStr d) := by cases d <;> (simp only [tyName, isStr]; decide +kernel)
theorem kit_tup (d : PyData) : kitB (tyName d) "tuple" = some (isTup d) := by cases d <;> (simp only [tyName, isTup]; decide +kernel)
theorem kit_int (d : PyData) : kitB (tyName d) "int" = some (isInt d) := by cases d <;> (simp only [tyName, isInt]; decide +kernel)
theorem kit_bl (d : PyData) : kitB (tyName d) "bool" = some (isBl d) := by cases d <;> (simp only [tyName, isBl]; decide +kernel)
/-! ### texts within are short -/
mutual
def txt : PyData → Bool
  | .str s => decide (s.length ≤ 1000) && PyData.strOk s
  | .list ds => txtAll ds
  | .tuple ds => txtAll ds
  | _ => true
def txtAll : List PyData → Bool
  | [] => true
  | d :: ds => txt d && txtAll ds
end
theorem txtAll_get : ∀ {ds : List PyData} {i : Nat} {d : PyData}, txtAll ds = true → ds[i]? = some d → txt d = true
  | [], _, _, _, e => by simp at e
  | a :: r, 0, d, h, e => by
    rw [txtAll, Bool.and_eq_true] at h
    simp at e
    subst e
    exact h.1
  | a :: r, i + 1, d, h, e => by
    rw [txtAll, Bool.and_eq_true] at h
    exact txtAll_get h.2 (by simpa using e)
theorem txt_str {s : Str} (h : txt (.str s) = true) : s.length ≤ 1000 ∧ PyData.strOk s = true := by
  rw [txt, Bool.and_eq_true] at h
  exact ⟨of_decide_eq_true h.1, h.2⟩
/-- a list of plain values can be compared -/
def flatD : PyData → Bool
  | .none => true
  | .bool _ => true
  | .int _ => true
  | .str s => PyData.strOk s
  | _ => false
theorem flat_all : ∀ ds : List PyData, ds.all flatD = true → PyData.canLayAll0 ds = true ∧ PyData.depthAll ds = 0
  | [], _ => ⟨rfl, rfl⟩
  | d :: r, h => by
    rw [List.all_cons, Bool.and_eq_true] at h
    obtain ⟨h1, h2⟩ := flat_all r h.2
    have h0 := h.1
    rw [PyData.canLayAll0, PyData.depthAll, h1, h2]
    cases d with
    | none => exact ⟨rfl, rfl⟩
    | bool b => exact ⟨rfl, rfl⟩
    | int b => exact ⟨rfl, rfl⟩
    | str b =>
      rw [flatD] at h0
      rw [PyData.canLay0, PyData.depth, h0]
      exact ⟨rfl, rfl⟩
    | list b => exact Bool.noConfusion h0
    | tuple b => exact Bool.noConfusion h0
    | dict b => exact Bool.noConfusion h0
theorem flat_shaped {ds : List PyData} (h : ds.all flatD = true) : SeqAt.shaped (.list ds) = true := by
  obtain ⟨h1, h2⟩ := flat_all ds h
  unfold SeqAt.shaped
  rw [PyData.canLay0, PyData.depth, h1, h2]
  rfl
theorem sz1000 {n : Nat} (h : n ≤ 1000) : n ≤ sizeLine := Nat.le_of_lt (small1000 h)
/-- the built-in names that are still the built-in's -/
structure Bl (mg : Str → Option Value) : Prop where
  isi : mg "isinstance" = none
  int : mg "int" = none
  bool : mg "bool" = none
  str : mg "str" = none
  tuple : mg "tuple" = none
  list : mg "list" = none
  len : mg "len" = none
  all : mg "all" = none
  repr : mg "repr" = none
  max : mg "max" = none
  range : mg "range" = none
  enum : mg "enumerate" = none
section
variable {X : Cx}
theorem b_int (T : Bl X.mg) {p : Pos} (hg : Gl X "int" := by rfl) : PE X (.Name "int" p) (tC (.ty "int")) := pe_bltn hg T.int PyProof.Rows.boot_int rfl
theorem b_bool (T : Bl X.mg) {p : Pos} (hg : Gl X "bool" := by rfl) : PE X (.Name "bool" p) (tC (.ty "bool")) := pe_bltn hg T.bool PyProof.Rows.boot_bool rfl
theorem b_str (T : Bl X.mg) {p : Pos} (hg : Gl X "str" := by rfl) : PE X (.Name "str" p) (tC (.ty "str")) := pe_bltn hg T.str PyProof.Rows.boot_str rfl
theorem b_tuple (T : Bl X.mg) {p : Pos} (hg : Gl X "tuple" := by rfl) : PE X (.Name "tuple" p) (tC (.ty "tuple")) := pe_bltn hg T.tuple PyProof.Rows.boot_tuple rfl
end
theorem iteD {p A B : Prop} [Decidable p] (h1 : p → A) (h2 : ¬ p → B) : if decide p = true then A else B := by
  by_cases h : p
  · rw [if_pos (decide_eq_true h)]
    exact h1 h
  · rw [if_neg (by rw [decide_eq_false h]; exact Bool.false_ne_true)]
    exact h2 h
/-! ### comprehensions whose parts leave all as it was -/
/-- a def of the program that is called: where it stands, and what it promises -/
structure Use (P : Program) (w : World) (K : PySem.W.Frag) (mg : Str → Option Value) (base : Heap) (x : Str) (ps : List Str) (k : Nat) (sp : Sp) where
  f : Addr
  fd : FuncData
  ok : FnOk P w K mg base CX0 k f fd ps sp
  m : mg x = some (.ref f)
  kp : PySem.W.keepIn K (.ref f) = true
  b : Binds K fd ps []
end Tl
set_option Elab.async false
set_option linter.all false
set_option maxRecDepth 100000
set_option maxHeartbeats 4000000
/-! Rules of our own: tuple * int of any small count, text * int, enumerate of a tuple, repr of data. -/
namespace Tl
open PySem PySem.Spec PyProof.Rows L2
open AutoSeq1 (wpAny_loadPart')
/-- one way through tuple.__mul__ where the tuple itself comes back -/
theorem mulSame (l : Addr) (items : Array Value) (n : Nat) (dd : Option Addr) (sl : Array (Option Value)) (x : Int) (u : Tok)
    (c0 : (decide (x < -(2 ^ 63)) || decide (x ≥ 2 ^ 63)) = false) (c1 : (items.isEmpty || x == 1) = true) :
    Meets (Builtin.«tuple.__mul__» ⟨[.ref l, .int x u], []⟩) (fun _ R s =>
      s.heap.get? l = some { cls := .type "tuple", dict := dd, data := .seq items n, slots := sl } ∧
        R (.ok (.ret (Value.ref l))) s) :=
  .of_wp fun prog w A R s h => by
    obtain ⟨hp, g, d, tk, os⟩ := s
    obtain ⟨hl, h⟩ := h
    have f1 := AutoSeq1.idx_int
    wp_walk using wpAny_loadPart' hl
    refine wpAny_ite_false (decide_eq_false (by rw [c0]; exact Bool.false_ne_true)) ?_
    wp_walk using wpAny_loadPart' hl
    exact ⟨_, rfl, h⟩
theorem mulNone (l : Addr) (items : Array Value) (n : Nat) (dd : Option Addr) (sl : Array (Option Value)) (x : Int) (u : Tok)
    (c0 : (decide (x < -(2 ^ 63)) || decide (x ≥ 2 ^ 63)) = false) (c1 : (items.isEmpty || x == 1) = false) (c2 : (decide (x ≤ 0) || items.isEmpty) = true) :
    Meets (Builtin.«tuple.__mul__» ⟨[.ref l, .int x u], []⟩) (fun _ R s =>
      s.heap.get? l = some { cls := .type "tuple", dict := dd, data := .seq items n, slots := sl } ∧
        R (.ok (.ret (Value.ref s.heap.objs.size))) { s with heap := s.heap.push { cls := Value.type "tuple", data := Data.seq #[] }, toks := s.toks }) :=
  .of_wp fun prog w A R s h => by
    obtain ⟨hp, g, d, tk, os⟩ := s
    obtain ⟨hl, h⟩ := h
    have f1 := AutoSeq1.idx_int
    wp_walk using wpAny_loadPart' hl
    refine wpAny_ite_false (decide_eq_false (by rw [c0]; exact Bool.false_ne_true)) ?_
    wp_walk using wpAny_loadPart' hl
    exact ⟨_, rfl, h⟩
def rRepA (K : PySem.W.Frag) : R2 := fun x y H Q => ∃ l k xs, x = .ref l ∧ y = .int k ∧ SqT K H l xs ∧ 0 ≤ k ∧ k ≤ 1000 ∧ xs.length ≤ 1000 ∧ (xs = [] ∨ k = 1 → Q (.ref l) H) ∧
  (¬ (xs = [] ∨ k = 1) → ∀ p, H p = none → Q (.ref p) (upd H p (.tup (List.replicate k.toNat xs).flatten)))
theorem op_repA {X : Cx} : OpR X (binaryOp .Mult) (rRepA X.K) := by
  intro pins s σ H x y v u Q I rx ry h
  obtain ⟨l, k, xs, rfl, rfl, hT, h1, h2, hz, q0, q1⟩ := h
  by_cases hc : xs = [] ∨ k = 1
  · cases rx
    obtain ⟨t, rfl⟩ := ry
    obtain ⟨its, r, ⟨⟨cls, dd, data, sl⟩, ho, hcl, n, hd⟩, hs⟩ := I.tuple hT
    simp only at hcl hd
    subst hcl hd
    have c0 : (decide (k < -(2 ^ 63)) || decide (k ≥ 2 ^ 63)) = false := by
      rw [decide_eq_false (by omega), decide_eq_false (by omega)]
      rfl
    have c1 : (its.toArray.isEmpty || k == 1) = true := by
      rcases hc with e | e
      · subst e
        cases r
        rfl
      · rw [e, Bool.or_eq_true]
        exact .inr rfl
    refine wpAny_binaryOp_repeat_ref (T := "tuple") (U := "int") (by decide) ⟨_, ho, rfl⟩ (fun s' => typeIs_int s' k t)
      noFill_tuple_mul F.fills_int_mul F.slot_int_rmul repeat_tuple F.slot_int_index.lookup
      (call_meets F.slot_int_rmul (typeIs_int s k t) F.entry_int_rmul (F.args_int_rmul_2 _ _)
        (int_rmul_tuple k t l its.toArray n dd sl) ⟨ho, rfl, ⟨_, ho, rfl⟩, call_meets F.slot_tuple_mul ⟨_, ho, rfl⟩ F.entry_tuple_mul (F.args_tuple_mul_2 _ _) (mulSame l its.toArray n dd sl k t c0 c1) ⟨ho, ?_⟩⟩)
    exact ⟨.ref l, H, I, rfl, q0 hc⟩
  · by_cases hk : 2 ≤ k
    · exact op_repT pins s σ H _ _ v u Q I rx ry ⟨l, k, xs, rfl, rfl, hT, fun e => hc (.inl e), hk, h2, hz, q1 hc⟩
    · have hk0 : k = 0 := by
        have : ¬ k = 1 := fun e => hc (.inr e)
        omega
      subst hk0
      cases rx
      obtain ⟨t, rfl⟩ := ry
      obtain ⟨its, r, ⟨⟨cls, dd, data, sl⟩, ho, hcl, n, hd⟩, hs⟩ := I.tuple hT
      simp only at hcl hd
      subst hcl hd
      have hi : its.toArray.isEmpty = false := by
        cases r with
        | nil => exact absurd (.inl rfl) hc
        | cons a b => rfl
      have c1 : (its.toArray.isEmpty || (0 : Int) == 1) = false := by rw [hi]; rfl
      refine wpAny_binaryOp_repeat_ref (T := "tuple") (U := "int") (by decide) ⟨_, ho, rfl⟩ (fun s' => typeIs_int s' 0 t)
        noFill_tuple_mul F.fills_int_mul F.slot_int_rmul repeat_tuple F.slot_int_index.lookup
        (call_meets F.slot_int_rmul (typeIs_int s 0 t) F.entry_int_rmul (F.args_int_rmul_2 _ _)
          (int_rmul_tuple 0 t l its.toArray n dd sl) ⟨ho, rfl, ⟨_, ho, rfl⟩, call_meets F.slot_tuple_mul ⟨_, ho, rfl⟩ F.entry_tuple_mul (F.args_tuple_mul_2 _ _) (mulNone l its.toArray n dd sl 0 t (by decide) c1 (by rfl)) ⟨ho, ?_⟩⟩)
      refine ⟨.ref s.heap.objs.size, _, I.laid (t' := s.toks) (o := .tup []) (fun b ob q => Heap.get?_push_of_some _ q) (Nat.le_refl _) ?_, rfl, q1 hc _ (I.hok.fresh (Nat.le_refl _))⟩
      exact ⟨Nat.zero_le _, [], .nil, IsTup.new _ _⟩
/-! ### enumerate(t), t a tuple -/
set_option maxHeartbeats 4000000 in
theorem enumNew {v : Value} {o : Obj} {Hh : Heap → Prop} (B : Begins v o Hh) :
    Meets (Builtin.«enumerate.__new__» ⟨[.type "enumerate", v], []⟩) (fun _ R s => Hh s.heap ∧
      R (.ok (.ret (.ref (s.heap.push o).objs.size)))
        { s with heap := (s.heap.push o).push { cls := .type "enumerate", data := .fields #[.none, .bool false, .ref s.heap.objs.size, rawInt 0, .none, .none] } }) :=
  .of_wp fun prog w A R s h => by
    obtain ⟨hp, g, d, tk, os⟩ := s
    obtain ⟨h1, h⟩ := h
    have hsub := sub_enumerate
    have it : ∀ {A' : Around} {E : Value → Shared → Prop} {Q : Value → Shared → Prop}, Q (.ref hp.objs.size) ⟨hp.push o, g, d, tk, os⟩ →
        wpAny (model prog w) A' (pyIter v) Q E ⟨hp, g, d, tk, os⟩ := fun q => B.iter prog w _ _ ⟨hp, g, d, tk, os⟩ _ h1 q
    wp_walk using it
    refine wpAny_stack_any fun st => wpAny_pure ?_
    split
    · rename_i c _ _ _ _ _
      cases (c == Value.type "enumerate")
      · wp_walk using it
        exact ⟨_, rfl, h⟩
      · wp_walk using it
        exact ⟨_, rfl, h⟩
    · wp_walk using it
      exact ⟨_, rfl, h⟩
theorem enumTup {prog : Program} {w : World} {A : Around} {E : Value → Shared → Prop} {s : Shared} {l : Addr} {items : Array Value} {Q : Value → Shared → Prop} (hL : s.heap.IsTuple l items)
    (h : ∀ h', IsEnum h' (s.heap.objs.size + 1) s.heap.objs.size 0 .none → h'.IsTupleIter s.heap.objs.size l 0 →
      (∀ b o, s.heap.get? b = some o → h'.get? b = some o) → Q (.ref (s.heap.objs.size + 1)) { s with heap := h' }) :
    wpAny (model prog w) A (call (.type "enumerate") [.ref l]) Q E s := by
  refine callType_new F.called_enumerate (by decide) (F.typeCall_enumerate_1 _) (F.newCall_enumerate_1 _)
    (fun obj => F.args_object_init_2 obj _) F.entry_enumerate_new (enumNew (begins_tuple l items)) ⟨hL, ?_⟩
  have hz : (s.heap.push { cls := .type "tuple_iterator", data := .fields #[.ref l, .int 0 0] }).objs.size = s.heap.objs.size + 1 := Heap.size_push ..
  show _ ∧ _
  rw [hz]
  generalize hk : (s.heap.push { cls := .type "tuple_iterator", data := .fields #[.ref l, .int 0 0] }) = h1 at hz ⊢
  have g0 : h1.get? s.heap.objs.size = some { cls := .type "tuple_iterator", data := .fields #[.ref l, .int 0 0] } := by rw [← hk]; exact Heap.get?_push_size _ rfl
  have g1 := Heap.get?_push_size h1 (o := { cls := .type "enumerate", data := .fields #[.none, .bool false, .ref s.heap.objs.size, rawInt 0, .none, .none] }) rfl
  rw [hz] at g1
  refine ⟨⟨_, g1, rfl⟩, h _ g1 ⟨_, Heap.get?_push_of_some _ g0, rfl, rfl⟩ fun b o x => Heap.get?_push_of_some _ ?_⟩
  rw [← hk]
  exact Heap.get?_push_of_some _ x
def Iet (K : PySem.W.Frag) (a : Addr) : It where
  go := fun i H => ∃ (xs : List V) (x : V), SqT K H a xs ∧ xs[i]? = some x
  yld := fun i H v H' => ∃ T x, v = .ref T ∧ H T = none ∧ H' = upd H T (.tup [.int (i : Nat), x]) ∧ ∀ xs, SqT K H a xs → xs[i]? = some x
  stop := fun i H => ∃ xs : List V, SqT K H a xs ∧ xs.length = i
theorem turnET {P : Program} {w : World} {K : PySem.W.Frag} {elts : List Expr} {kk : Nat} {tpos : Pos} (a e it : Addr) :
    Turn P w K (.Tuple elts kk tpos) (Iet K a) [e, it] e
      (fun i h => (∃ old, IsEnum h e it ((i : Nat) : Int) old) ∧ h.IsTupleIter it a i ∧ e ≠ it) where
  mem := by simp
  obj := fun i h st b hb => by
    obtain ⟨⟨old, he⟩, ⟨o, ho, hc, hd⟩, _⟩ := st
    have hb2 : b = e ∨ b = it := by simpa using hb
    rcases hb2 with rfl | rfl
    · exact ⟨_, he, fun v q => nomatch q⟩
    · exact ⟨o, ho, fun v q => by rw [hd] at q; cases q⟩
  keep := fun i h h' st k => by
    obtain ⟨⟨old, he⟩, hi, hne⟩ := st
    exact ⟨⟨old, k e (by simp) _ he⟩, hi.at fun o q => k it (by simp) o q, hne⟩
  item := by
    intro X hP hw hK hc i pins s σ H E I hf st hg
    subst hP hw hK
    obtain ⟨⟨old, he⟩, hit, hne⟩ := st
    obtain ⟨xs, x, hq, hx⟩ := hg
    obtain ⟨its, rv, p, hz⟩ := I.tuple hq
    obtain ⟨u, hu, ru⟩ := rv.get hx
    have hel : e < s.heap.objs.size := Heap.lt_size he
    have hil : it < s.heap.objs.size := by
      obtain ⟨_, q, _⟩ := hit
      exact Heap.lt_size q
    have hae : a ≠ e := fun z => by
      obtain ⟨o, ho, hcl, _⟩ := p
      rw [z, he] at ho
      cases ho
      have h9 : Value.type "enumerate" = Value.type "tuple" := hcl
      exact absurd h9 (by decide)
    have hai : a ≠ it := fun z => by
      obtain ⟨o, ho, hcl, _⟩ := p
      obtain ⟨o', ho', hcl', _⟩ := hit
      rw [z, ho'] at ho
      cases ho
      rw [hcl'] at hcl
      exact absurd hcl (by decide)
    have hlt : i < its.toArray.size := by
      rw [List.size_toArray]
      exact (List.getElem?_eq_some_iff.mp hu).1
    refine wpAny_pyNext_enum_itemD (Draws.tuple (prog := X.prog) (w := X.w) (A := X.A.in1) (I.ok.hd hc) it a hai its.toArray) he ⟨hit, p⟩ hlt hne (by simp [hne, Ne.symm hae]) fun y h' tk hy ho hst hT hsz hk => ?_
    have ey : y = u := by
      have hu' : its.toArray[i]? = some u := by simpa using hu
      rw [hu'] at hy
      exact (Option.some.inj hy).symm
    subst ey
    refine ⟨_, rfl, wpAny_letOwnedTupleGo_enum (s := { s with heap := h', toks := tk + 1 }) ho fun h'' he' sb => ?_⟩
    have hT2 := (sb.2 _ (Nat.ne_of_gt hel)).trans hT
    have new : ObjOk X.prog X.w (upd H s.heap.objs.size (.tup [.int (i : Nat), x])) h'' s.heap.objs.size (.tup [.int (i : Nat), x]) :=
      ⟨by show 2 ≤ sizeLine; decide, [.int i tk, y], .cons ⟨_, rfl⟩ (.cons ru .nil), ⟨_, hT2, rfl, _, rfl⟩⟩
    have I1 : Inv X pins σ (upd H s.heap.objs.size (.tup [.int (i : Nat), x])) { s with heap := h'', toks := tk + 1 } :=
      I.turnedNew (ch := [e, it]) (fun b ob hb q => (sb.2 b fun z => hb (by simp [z])).trans
        (hk b ob (fun z => hb (by simp [z])) (fun z => hb (by simp [z])) q)) hf (Nat.le_refl _) new
    refine ⟨.ref s.heap.objs.size, _, I1, rfl, ⟨_, x, rfl, I.hok.fresh (Nat.le_refl _), rfl, fun ys hy => by rw [I.tuple_inj hy hq]; exact hx⟩, ⟨⟨y, ?_⟩, hst.1.at fun o q => (sb.2 it (Ne.symm hne)).trans q, hne⟩, fun b hb => ?_⟩
    · rw [show ((i + 1 : Nat) : Int) = (i : Int) + 1 by omega]
      exact he'
    · have hb2 : b = e ∨ b = it := by simpa using hb
      have hb3 : b < s.heap.objs.size := by
        rcases hb2 with rfl | rfl
        · exact hel
        · exact hil
      rw [upd_ne (Nat.ne_of_lt hb3)]
      exact (hf b hb).1
  done := by
    intro X hP hw hK hc i pins s σ H E I hf st hg
    subst hP hw hK
    obtain ⟨⟨old, he⟩, hit, hne⟩ := st
    obtain ⟨xs, hq, hx⟩ := hg
    obtain ⟨its, rv, p, hz⟩ := I.tuple hq
    obtain ⟨f0, f1, f2, f3, f4, f5⟩ := hf it (by simp)
    have hai : a ≠ it := fun z => by
      obtain ⟨o, ho, hcl, _⟩ := p
      obtain ⟨o', ho', hcl', _⟩ := hit
      rw [z, ho'] at ho
      cases ho
      rw [hcl'] at hcl
      exact absurd hcl (by decide)
    have hn : its.toArray.size = i := by rw [List.size_toArray, ← rv.length, hx]
    have hst : s.heap.IsTupleIter it a its.toArray.size ∧ s.heap.IsTuple a its.toArray := ⟨by rw [hn]; exact hit, p⟩
    exact wpAny_pyNext_enum_endD (Draws.tuple (prog := X.prog) (w := X.w) (A := X.A.in1) (I.ok.hd hc) it a hai its.toArray) he hst fun h' eb => ⟨rfl, I.turned (t' := s.toks) (fun b o hb q => eb b o hb q) f0 f1 f3 f4 f5⟩
  self := fun A i s Q E st h => by
    obtain ⟨⟨_, he⟩, _⟩ := st
    exact wpAny_pyIter_enum he h
def iEnumT (K : PySem.W.Frag) (ta : TA) : TI := fun σ H R => ta σ H fun vs H1 => ∃ a xs, vs = [.ref a] ∧ SqT K H1 a xs ∧ R (Iet K a) H1
theorem pi_enumT {X : Cx} {e : Expr} {ta : TA} {p pos tpos : Pos} {elts : List Expr} {kk : Nat} (hg : Gl X "enumerate") (hm : X.mg "enumerate" = none)
    (ha : PA X [e] ta) (hs : starEach [e] X.env = [(false, eval e X.env)] := by rfl) : PI X (.Tuple elts kk tpos) (.Call (.Name "enumerate" p) [e] [] pos) (iEnumT X.K ta) := by
  refine ⟨fun pins s σ H R I h => ?_⟩
  refine Call_ (ld_blt I hg hm boot_enumerate (callWith_type1
    (thn (ha.run pos pins s σ H _ I h) fun us s1 ⟨vs, H1, I1, r1, q1⟩ => ?_) hs rfl))
  obtain ⟨a, xs, ex, hq, q⟩ := q1
  subst ex
  cases r1 with
  | cons r rr =>
    cases rr
    cases r
    obtain ⟨its, rv, p', hz⟩ := I1.tuple hq
    refine enumTup p' fun h' he hit hk => wpAny_pyIter_enum he ?_
    have I2 : Inv X pins σ H1 { s1 with heap := h' } := I1.kept (t' := s1.toks) hk
    refine ⟨s1.heap.objs.size + 1, [s1.heap.objs.size + 1, s1.heap.objs.size], _, _, H1, rfl, I2,
      turnET a (s1.heap.objs.size + 1) s1.heap.objs.size, ⟨⟨.none, he⟩, hit, Nat.succ_ne_self _⟩, fun b hb => ?_, q⟩
    have hle : s1.heap.objs.size ≤ b := by
      have hb2 : b = s1.heap.objs.size + 1 ∨ b = s1.heap.objs.size := by simpa using hb
      rcases hb2 with z | z
      · rw [z]
        exact Nat.le_add_right _ _
      · rw [z]
        exact Nat.le_refl _
    exact I1.fpOk hle (I1.hok.fresh hle)
theorem walk_enumT {K : PySem.W.Frag} {a : Addr} {xs : List V} : Walk (Iet K a) xs.length (fun H => SqT K H a xs)
    (fun i H v H' => ∃ T x, v = .ref T ∧ H T = none ∧ H' = upd H T (.tup [.int (i : Nat), x]) ∧ xs[i]? = some x) := by
  refine ⟨fun i _ hi q => ⟨xs, xs[i], q, by simp [hi]⟩, fun _ q => ⟨xs, q, rfl⟩, fun i H v H' _ q y => ?_⟩
  obtain ⟨T, x, h1, h2, h3, h4⟩ := y
  exact ⟨T, x, h1, h2, h3, h4 xs q⟩
/-! ### repr of data -/
def rReprD (K : PySem.W.Frag) : List V → Hp → VK → Prop := fun vs H Q => ∃ (v : V) (d : PyData), vs = [v] ∧ Dt K H v d ∧ d.showable = true ∧ d.depth ≤ 100 ∧ d.shown.length ≤ sizeLine ∧ Q (.str d.shown) H
mutual
theorem noD {K : PySem.W.Frag} {H : Hp} : ∀ (d : PyData) {v : V}, Dp K H v d → d.hasDict = false
  | .none, _, _ => rfl
  | .bool _, _, _ => rfl
  | .int _, _, _ => rfl
  | .str _, _, _ => rfl
  | .list ds, _, h => by
    cases h with
    | lst _ ha => rw [PyData.hasDict]; exact noDAll ds ha
  | .tuple ds, _, h => by
    cases h with
    | tup _ ha => rw [PyData.hasDict]; exact noDAll ds ha
  | .dict _, _, h => by cases h
theorem noDAll {K : PySem.W.Frag} {H : Hp} : ∀ (ds : List PyData) {vs : List V}, DpAll K H vs ds → PyData.hasDictAll ds = false
  | [], _, _ => rfl
  | d :: ds, _, h => by
    cases h with
    | cons h1 h2 => rw [PyData.hasDictAll, noD d h1, noDAll ds h2]; rfl
end
theorem call_reprD {X : Cx} (hg : X.A.guards = some []) (hu : X.A.units + 200 < cLine) : CallR X (.builtin "repr") (rReprD X.K) := by
  intro pins s σ H vs us Q I r h
  obtain ⟨v, d, rfl, hd, hs, hdp, hz, q⟩ := h
  cases r with
  | cons r1 rr =>
    cases rr
    rename_i u
    cases hd with
    | d hd =>
      obtain ⟨as, hR⟩ := Dp.reads I d v u hd r1
      have fin : ∀ (t' : Tok) (k : Nat), EP X pins σ Q (.str d.shown t') { s with toks := k } := fun t' k => ⟨.str _, H, I.tok k, ⟨t', rfl⟩, q⟩
      cases hd with
      | non =>
        cases (show u = Value.none from r1)
        exact PySem.P.repr_of_none (fin _ _)
      | bl b =>
        cases (show u = Value.bool b from r1)
        refine PySem.P.repr_of_bool ?_
        have := fin s.toks (s.toks + 1)
        cases b <;> exact this
      | int i =>
        obtain ⟨t', rfl⟩ := r1
        exact PySem.P.repr_of_int (of_decide_eq_true hs) (fin _ _)
      | str x =>
        obtain ⟨t', rfl⟩ := r1
        exact PySem.P.repr_of_str (fin _ _) hz
      | @lst a xs ds hs2 ha =>
        cases (show u = Value.ref a from r1)
        have hnd : (PyData.list ds).hasDict = true → sysModules ∉ as := PyData.noDict_hsm (noD _ (.lst hs2 ha))
        exact repr_of_reads' hR hs hnd hg (by omega) (fun b o e => e) (fun h' t' tk hk => ⟨.str _, H, I.kept (t' := tk) hk, ⟨t', rfl⟩, q⟩) hz
      | @tup a xs ds hs2 ha =>
        cases (show u = Value.ref a from r1)
        have hnd : (PyData.tuple ds).hasDict = true → sysModules ∉ as := PyData.noDict_hsm (noD _ (.tup hs2 ha))
        exact repr_of_reads' hR hs hnd hg (by omega) (fun b o e => e) (fun h' t' tk hk => ⟨.str _, H, I.kept (t' := tk) hk, ⟨t', rfl⟩, q⟩) hz
    | @e a hd =>
      cases (show u = Value.ref a from r1)
      obtain ⟨hz2, hsm, vs, hkv, o, es, ep, h1, h2, h3⟩ := (show ObjOk X.prog X.w H s.heap a (.dK []) from I.hok a _ hd)
      cases hkv
      have hes : es.toList = [] := by
        have hp := h3.2.2.1
        generalize es.toList = l at hp
        cases hp
        rfl
      have hR : Reads s.heap (.ref a) (.dict []) (a :: [] ++ []) := Reads.dict h1 h2.1 h3.1 (by rw [hes]; exact .nil) (by rw [hes]; exact .nil)
      have hne : ¬ a = sysModules := fun z => by rw [z] at hsm; simp at hsm
      exact repr_of_reads' hR hs (fun _ z => hne (by simpa using Eq.symm (by simpa using z))) hg (by omega) (fun b o e => e) (fun h' t' tk hk => ⟨.str _, H, I.kept (t' := tk) hk, ⟨t', rfl⟩, q⟩) hz
end Tl
set_option Elab.async false
set_option linter.all false
set_option maxRecDepth 100000
set_option maxHeartbeats 4000000
/-! Data that is good to be shown: short texts, small numbers; how long its text can be. -/
namespace Tl
open PySem L2
mutual
def wt : PyData → Nat
  | .none => 4
  | .bool _ => 5
  | .int _ => 1930
  | .str s => 10 * s.length + 4
  | .list ds => 3 + wtAll ds
  | .tuple ds => 3 + wtAll ds
  | .dict _ => 2
def wtAll : List PyData → Nat
  | [] => 0
  | d :: ds => wt d + 2 + wtAll ds
end
mutual
def gd : PyData → Bool
  | .none => true
  | .bool _ => true
  | .int i => decide (i.natAbs < 10 ^ 41)
  | .str s => decide (s.length ≤ 1000) && PyData.strOk s
  | .list ds => gdAll ds
  | .tuple ds => gdAll ds
  | .dict _ => false
def gdAll : List PyData → Bool
  | [] => true
  | d :: ds => gd d && gdAll ds
end
mutual
theorem gd_txt : ∀ d : PyData, gd d = true → txt d = true
  | .none, _ => rfl
  | .bool _, _ => rfl
  | .int _, _ => rfl
  | .str s, h => by rw [gd] at h; rw [txt]; exact h
  | .list ds, h => by rw [gd] at h; rw [txt]; exact gdAll_txt ds h
  | .tuple ds, h => by rw [gd] at h; rw [txt]; exact gdAll_txt ds h
  | .dict _, h => Bool.noConfusion h
theorem gdAll_txt : ∀ ds : List PyData, gdAll ds = true → txtAll ds = true
  | [], _ => rfl
  | d :: ds, h => by
    rw [gdAll, Bool.and_eq_true] at h
    rw [txtAll, gd_txt d h.1, gdAll_txt ds h.2]
    rfl
end
theorem big41 : (10 : Nat) ^ 41 ≤ 2 ^ 1920 := Nat.le_trans (show (10 : Nat) ^ 41 ≤ 2 ^ 200 by decide) (Nat.pow_le_pow_right (by decide) (by decide))
mutual
theorem gd_show : ∀ d : PyData, gd d = true → d.showable = true
  | .none, _ => rfl
  | .bool _, _ => rfl
  | .int i, h => by
    rw [gd] at h
    have h2 : i.natAbs < 10 ^ 41 := of_decide_eq_true h
    rw [PyData.showable]
    apply decide_eq_true
    by_cases h0 : i.natAbs = 0
    · rw [h0]; decide
    · exact (Nat.log2_lt h0).mpr (Nat.lt_of_lt_of_le h2 big41)
  | .str s, h => rfl
  | .list ds, h => by rw [gd] at h; rw [PyData.showable]; exact gdAll_show ds h
  | .tuple ds, h => by rw [gd] at h; rw [PyData.showable]; exact gdAll_show ds h
  | .dict _, h => Bool.noConfusion h
theorem gdAll_show : ∀ ds : List PyData, gdAll ds = true → PyData.showableAll ds = true
  | [], _ => rfl
  | d :: ds, h => by
    rw [gdAll, Bool.and_eq_true] at h
    rw [PyData.showableAll, gd_show d h.1, gdAll_show ds h.2]
    rfl
end
theorem textFrom_le : ∀ (ts : List Str) (k : Nat) (acc : Str), (textFrom k acc ts).length ≤ acc.length + piled ts
  | [], k, acc => by rw [piled_nil]; exact Nat.le_refl _
  | t :: r, k, acc => by
    have ih := textFrom_le r (k + 1) (acc ++ (if k > 0 then ", " else "" : String) ++ t)
    have e : (acc ++ (if k > 0 then ", " else "" : String) ++ t).length ≤ acc.length + 2 + t.length := by
      rw [strLen_append, strLen_append]
      have : ((if k > 0 then ", " else "" : String) : Str).length ≤ 2 := by split <;> decide +kernel
      omega
    show (textFrom (k + 1) _ r).length ≤ _
    rw [piled_cons]
    omega
theorem listText_le (ts : List Str) : (listText ts).length ≤ piled ts + 2 := by
  unfold listText
  rw [strLen_append]
  have h := textFrom_le ts 0 "["
  have e1 : ((("[" : String) : Str)).length = 1 := rfl
  have e2 : ((("]" : String) : Str)).length = 1 := rfl
  rw [e1] at h
  rw [e2]
  omega
mutual
theorem shown_le : ∀ d : PyData, gd d = true → d.shown.length ≤ wt d
  | .none, _ => by decide +kernel
  | .bool true, _ => by decide +kernel
  | .bool false, _ => by decide +kernel
  | .int i, h => by
    rw [gd] at h
    have h2 : i.natAbs < 10 ^ 41 := of_decide_eq_true h
    have h4 : i.natAbs.log2 < 1920 := by
      by_cases h0 : i.natAbs = 0
      · rw [h0]; decide
      · exact (Nat.log2_lt h0).mpr (Nat.lt_of_lt_of_le h2 big41)
    have h3 := PyProof.Rows.int_text_len_1921 h4
    show (Str.ofString (toString i)).length ≤ 1930
    omega
  | .str s, h => by
    rw [gd, Bool.and_eq_true] at h
    have h2 := h.2
    rw [PyData.strOk, ← Array.all_toList, List.all_eq_true] at h2
    have h3 := StrLaws.reprText_len s fun c hc => Nat.lt_of_lt_of_le (of_decide_eq_true (h2 c hc)) (by decide)
    show (reprText s).length ≤ 10 * s.length + 4
    omega
  | .list ds, h => by
    rw [gd] at h
    have h2 := shownAll_le ds h
    have h3 := listText_le (PyData.shownAll ds)
    show (listText (PyData.shownAll ds)).length ≤ 3 + wtAll ds
    omega
  | .tuple ds, h => by
    rw [gd] at h
    have h2 := shownAll_le ds h
    have h3 := fmt_text (PyData.shownAll ds)
    show (tupleText (PyData.shownAll ds)).length ≤ 3 + wtAll ds
    omega
  | .dict _, h => Bool.noConfusion h
theorem shownAll_le : ∀ ds : List PyData, gdAll ds = true → piled (PyData.shownAll ds) ≤ wtAll ds
  | [], _ => Nat.le_refl _
  | d :: ds, h => by
    rw [gdAll, Bool.and_eq_true] at h
    have h1 := shown_le d h.1
    have h2 := shownAll_le ds h.2
    rw [PyData.shownAll, piled_cons, wtAll]
    omega
end
theorem gdAll_get : ∀ {ds : List PyData} {i : Nat} {d : PyData}, gdAll ds = true → ds[i]? = some d → gd d = true ∧ wt d + 2 ≤ wtAll ds ∧ d.depth ≤ PyData.depthAll ds
  | [], _, _, _, e => by simp at e
  | a :: r, 0, d, h, e => by
    rw [gdAll, Bool.and_eq_true] at h
    simp at e
    subst e
    rw [wtAll, PyData.depthAll]
    exact ⟨h.1, by omega, Nat.le_max_left _ _⟩
  | a :: r, i + 1, d, h, e => by
    rw [gdAll, Bool.and_eq_true] at h
    obtain ⟨h1, h2, h3⟩ := gdAll_get (i := i) h.2 (by simpa using e)
    rw [wtAll, PyData.depthAll]
    exact ⟨h1, by omega, Nat.le_trans h3 (Nat.le_max_right _ _)⟩
theorem gdAll_app : ∀ {ds es : List PyData}, gdAll (ds ++ es) = (gdAll ds && gdAll es)
  | [], es => by rw [List.nil_append, gdAll, Bool.true_and]
  | a :: r, es => by rw [List.cons_append, gdAll, gdAll, gdAll_app, Bool.and_assoc]
theorem wtAll_app : ∀ {ds es : List PyData}, wtAll (ds ++ es) = wtAll ds + wtAll es
  | [], es => by rw [List.nil_append, wtAll, Nat.zero_add]
  | a :: r, es => by rw [List.cons_append, wtAll, wtAll, wtAll_app]; omega
theorem depthAll_app : ∀ {ds es : List PyData}, PyData.depthAll (ds ++ es) = max (PyData.depthAll ds) (PyData.depthAll es)
  | [], es => by rw [List.nil_append, PyData.depthAll]; omega
  | a :: r, es => by rw [List.cons_append, PyData.depthAll, PyData.depthAll, depthAll_app]; omega
/-! ### trees -/
def tags6 : List Str := ["a", "b", "ab", "zz", "abcdefgh", "z"]
def tagOk (s : Str) : Prop := 1 ≤ s.length ∧ s.length ≤ 8 ∧ (PyData.strOk s = true ∧ s ∈ tags6)
def TrD : Nat → PyData → Prop
  | 0, _ => False
  | h + 1, d => ∃ (s : Str) (ks : List PyData), d = .tuple [.str s, .tuple ks] ∧ tagOk s ∧ ∀ k ∈ ks, TrD h k
theorem TrD.mono : ∀ {h h' : Nat} {d : PyData}, h ≤ h' → TrD h d → TrD h' d
  | 0, _, _, _, t => t.elim
  | h + 1, 0, _, e, _ => by omega
  | h + 1, h' + 1, d, e, t => by
    obtain ⟨s, ks, rfl, a, b⟩ := t
    exact ⟨s, ks, rfl, a, fun k hk => TrD.mono (by omega) (b k hk)⟩
theorem wt_node (s : Str) (ks : List PyData) : wt (.tuple [.str s, .tuple ks]) = 10 * s.length + 14 + wtAll ks := by
  simp only [wt, wtAll]
  omega
/-! ### the heap: data in F within H, the source of numbers at st -/
structure Gw (F H F' H' : Hp) : Prop where
  ff : Same F F'
  fh : Same F' H'
  hh : Same H H'
  nw : ∀ b, H b ≠ none → F b = none → F' b = none
theorem Gw.refl {F H : Hp} (e : Same F H) : Gw F H F H := ⟨Same.refl _, e, Same.refl _, fun _ _ h => h⟩
theorem Gw.trans {F H F1 H1 F2 H2 : Hp} (a : Gw F H F1 H1) (b : Gw F1 H1 F2 H2) : Gw F H F2 H2 :=
  ⟨a.ff.trans b.ff, b.fh, a.hh.trans b.hh, fun x h1 h2 => b.nw x (fun z => h1 (a.hh.free z)) (a.nw x h1 h2)⟩
theorem Gw.new {F H : Hp} {p : Addr} {o : HO} (e : Same F H) (h : H p = none) : Gw F H (upd F p o) (upd H p o) := by
  refine ⟨same_new (e.free h), fun b u q => ?_, same_new h, fun b h1 h2 => ?_⟩
  · by_cases z : b = p
    · subst z
      rw [upd_same] at q ⊢
      exact q
    · rw [upd_ne z] at q ⊢
      exact e b u q
  · rw [upd_ne (fun z => h1 (by rw [z]; exact h))]
    exact h2
end Tl
set_option Elab.async false
set_option linter.all false
set_option maxRecDepth 100000
set_option maxHeartbeats 4000000
namespace Tl
open PySem PySem.Spec PyProof.Rows L2
/-! An exception that a suite has put into another name, and that is looked at behind the try. -/
/-- the caught thing at a, of the class cls, its dict d -/
def CgO (cls : Value) (d : Option Addr) (a : Addr) : HO := .ext fun h => ∃ (oe : Obj) (vs : Array Value), h.get? a = some oe ∧ Zc cls d oe ∧ oe.data = .fields vs
section
variable {X : Cx}
/-- X(), an own error without a word -/
theorem pmk_own0 {C : Addr} {bmB : List Value} {B newId initId : String} {x : Str} {p pos : Pos} (F : ExcBaseFacts B newId initId bmB) (q : PySem.W.excIn X.K C bmB newId = true) (gC : X.mg x = some (.ref C)) (kC : PySem.W.keepIn X.K (.ref C) = true) (r : Raises X (.ref C)) (hg : Gl X x)
    (hdb : (x == ("__debug__" : Str)) = false := by decide) : PMk X (.Call (.Name x p) [] [] pos) (fun _ H Q => Q (.ref C) none H) := by
  intro pins s σ H Q I h
  refine wpAny_Call_Name_kw (ld_glob I hg gC ?_ hdb)
  refine PySem.W.callWith_K0 I.kIn kC ?_
  obtain ⟨bm, N, nm, qn, bs, hdct, sn, sub, ab, col, dd, k0, k1, k2, k3, k5, mN, hC, hN, hni, T⟩ := exc_obj I.kIn q
  exact wpAny_call_exc_subT F T hC hN hni (fun h' e hm => mk_of I hm r h (I.hok.gone hm.new)) (Nat.zero_le _)
end
end Tl
set_option Elab.async false
set_option linter.all false
set_option maxRecDepth 100000
set_option maxHeartbeats 4000000
namespace Tl
open PySem PySem.Spec PyProof.Rows L2
theorem ints_get {xs : List Int} {its : List Value} (r : Vals (xs.map V.int) its) (i : Nat) (v : Value) (h : its.toArray[i]? = some v) : ∃ t, v = .int (xs.getD i 0) t := by
  have h' : its[i]? = some v := by simpa using h
  have hi : i < its.length := (List.getElem?_eq_some_iff.mp h').1
  have hl := r.length
  rw [List.length_map] at hl
  obtain ⟨u, hu, ru⟩ := r.get (i := i) (x := V.int (xs.getD i 0)) (by
    rw [List.getElem?_map, List.getElem?_eq_getElem (by omega), List.getD_eq_getElem?_getD, List.getElem?_eq_getElem (by omega)]
    rfl)
  rw [h'] at hu
  cases hu
  exact ru
/-- max(xs, default=d), numbers -/
def rMaxDf (K : PySem.W.Frag) : List V → List V → Hp → VK → Prop := fun vs zs H Q => ∃ (a : Addr) (ns : List Int) (d : Int), vs = [.ref a] ∧ zs = [.int d] ∧ SqL K H a (ns.map V.int) ∧
  (ns = [] → Q (.int d) H) ∧ ∀ m, m ∈ ns → (∀ y, y ∈ ns → y ≤ m) → Q (.int m) H
theorem ck_max {X : Cx} (hc : X.calm = true) : CallRK X (.builtin "max") [Str.ofString "default"] (rMaxDf X.K) := by
  intro pins s σ H vs zs us ws Q I r rz h
  obtain ⟨a, ns, d, rfl, rfl, hs, q0, q1⟩ := h
  obtain ⟨its, rv, hl, _⟩ := I.list hs
  rw [Vals.ref1 r]
  rcases rz with _ | ⟨rd, rz⟩
  cases rz
  rename_i dv
  have hlen : ns.length = its.length := by
    have := rv.length
    rwa [List.length_map] at this
  show wpAny _ _ (call (.builtin "max") [.ref a] [(Str.ofString "default", dv)]) _ _ _
  refine call_max_walkD (PySem.W.iter_listW (A := X.A.in1) (I.ok.hd hc) hl.isList fun s₂ e W st hfp hw hk => ?_)
  refine ⟨_, _, _, _, _, _, _, s.heap, (fun i j => decide (ns.getD i 0 > ns.getD j 0)), rfl, W, st, hfp, hw, hk, fun hz s' m => ?_, fun hp => ⟨fun i j vi vj t Q' E' _ hi hj q => ?_, fun v s' hP m => ?_⟩⟩
  · obtain ⟨h', tk, rfl, hk'⟩ := PySem.W.moved_old e rfl m
    have : ns = [] := List.eq_nil_of_length_eq_zero (by rw [hlen]; simpa using hz)
    exact ⟨.int d, H, I.kept hk', rd, q0 this⟩
  · exact CmpOf.ints_gt (fun i => ns.getD i 0) (fun k v h => ints_get rv k v h) i j vi vj t Q' E' hi hj q
  · obtain ⟨h', tk, rfl, hk'⟩ := PySem.W.moved_old e rfl m
    obtain ⟨t, rfl⟩ := ints_get rv _ _ hP
    obtain ⟨b1, b2⟩ := argBest_gt (fun i => ns.getD i 0) (its.toArray.size - 1)
    have hp' : 0 < its.length := by simpa using hp
    refine ⟨.int _, H, I.kept hk', ⟨t, rfl⟩, q1 _ ?_ fun y hy => ?_⟩
    · exact PySem.getD_mem (by have sz : its.toArray.size = its.length := by simp
                               omega)
    · obtain ⟨j, hj, rfl⟩ := mem_getD hy
      exact b2 j (by simp; omega)
end Tl
set_option Elab.async false
set_option linter.all false
set_option maxRecDepth 100000
set_option maxHeartbeats 4000000
/-! Dicts whose keys are tuples of numbers, nested: kept as one object; the keys' own objects are told of by others. -/
namespace Tl
open PySem PySem.Spec PyProof.Rows L2
/-! ### keys -/
mutual
/-- numbers, and tuples of such -/
def noTxt : NestedKey → Bool
  | .num _ => true
  | .tup ks => noTxts ks
  | _ => false
def noTxts : List NestedKey → Bool
  | [] => true
  | k :: ks => noTxt k && noTxts ks
end
mutual
theorem hash_any : ∀ (k : NestedKey) (w w' : World), noTxt k = true → k.hash w = k.hash w'
  | .num i, _, _, _ => rfl
  | .tup ks, w, w', h => by rw [NestedKey.hash, NestedKey.hash, hashes_any ks w w' (by simpa [noTxt] using h)]
  | .none, _, _, h => by simp [noTxt] at h
  | .text _, _, _, h => by simp [noTxt] at h
theorem hashes_any : ∀ (ks : List NestedKey) (w w' : World), noTxts ks = true → NestedKey.hashes w ks = NestedKey.hashes w' ks
  | [], _, _, _ => rfl
  | k :: ks, w, w', h => by
    rw [noTxts, Bool.and_eq_true] at h
    rw [NestedKey.hashes, NestedKey.hashes, hash_any k w w' h.1, hashes_any ks w w' h.2]
end
mutual
/-- the value v is the key k -/
inductive KeyV (K : PySem.W.Frag) (H : Hp) : V → NestedKey → Prop
  | int (i : Int) : KeyV K H (.int i) (.num i)
  | tup {a : Addr} {xs : List V} {ks : List NestedKey} (h : SqT K H a xs) (r : KeyVs K H xs ks) : KeyV K H (.ref a) (.tup ks)
inductive KeyVs (K : PySem.W.Frag) (H : Hp) : List V → List NestedKey → Prop
  | nil : KeyVs K H [] []
  | cons {x : V} {k : NestedKey} {xs : List V} {ks : List NestedKey} (h : KeyV K H x k) (r : KeyVs K H xs ks) : KeyVs K H (x :: xs) (k :: ks)
end
section
variable {X : Cx} {pins : List (Addr × Obj)} {σ : L2.St} {H : Hp} {s : Shared}
mutual
theorem KeyV.is (I : Inv X pins σ H s) : ∀ {k : NestedKey} {v : V} {u : Value}, KeyV X.K H v k → RelV v u → NestedIs s.heap k u
  | .num i, v, u, h, r => by
    cases h
    obtain ⟨t, rfl⟩ := r
    exact .int i t
  | .tup ks, v, u, h, r => by
    cases h with
    | tup hs hr =>
      cases r
      obtain ⟨its, rv, ⟨o, h1, h2, n, h3⟩, _⟩ := I.tuple hs
      exact .tup h1 h2 h3 (by simpa using KeyVs.is I hr rv)
  | .none, _, _, h, _ => by cases h
  | .text _, _, _, h, _ => by cases h
theorem KeyVs.is (I : Inv X pins σ H s) : ∀ {ks : List NestedKey} {vs : List V} {us : List Value}, KeyVs X.K H vs ks → Vals vs us → NestedAll s.heap ks us
  | [], _, _, h, r => by cases h; cases r; exact .nil
  | k :: ks, _, _, h, r => by
    cases h with
    | cons a b =>
      cases r with
      | cons ra rb => exact .cons (KeyV.is I a ra) (KeyVs.is I b rb)
end
end
/-! ### the object -/
abbrev DU1 := NestedKey × Addr × V
abbrev DU2 := NestedKey × Addr × Value
def RelU (x : DU1) (y : DU2) : Prop := x.1 = y.1 ∧ x.2.1 = y.2.1 ∧ RelV x.2.2 y.2.2
def entU (w : World) (y : DU2) : DictEntry := ⟨y.1.hash w, .ref y.2.1, y.2.2⟩
def phiU (a : Addr) (xs : List DU1) (h : Heap) : Prop := ∃ (ys : List DU2) (o : Obj) (es : Array DictEntry) (ep : Nat), Paired RelU xs ys ∧ h.get? a = some o ∧ o.ExactDict ∧ o.data = .dict es ep ∧ ∀ w : World, es.toList = ys.map (entU w)
def DU (a : Addr) (xs : List DU1) : HO := .ext (phiU a xs)
theorem phiU_ok {P : Program} {w : World} {H : Hp} {h : Heap} {a : Addr} {xs : List DU1} (p : phiU a xs h) : ObjOk P w H h a (DU a xs) := by
  obtain ⟨ys, o, es, ep, h1, h2, h3, h4, h5⟩ := p
  exact ⟨⟨ys, o, es, ep, h1, h2, h3, h4, h5⟩, ⟨o, h2⟩, fun h1' h2' ⟨ys', o', es', ep', g1, g2, g3, g4, g5⟩ k => ⟨ys', o', es', ep', g1, k _ g2, g3, g4, g5⟩⟩
theorem DU_get {P : Program} {w : World} {H : Hp} {h : Heap} {a : Addr} {xs : List DU1} (x : HOk P w H h) (e : H a = some (DU a xs)) : phiU a xs h := (show ObjOk P w H h a (DU a xs) from x a _ e).1
/-- what else is known of such a dict -/
structure KeysU (K : PySem.W.Frag) (H : Hp) (a : Addr) (xs : List DU1) : Prop where
  sm : (a == sysModules) = false
  sz : xs.length ≤ sizeLine
  nd : (xs.map (·.1)).Nodup
  ks : ∀ x ∈ xs, KeyV K H (.ref x.2.1) x.1 ∧ x.1.depth ≤ 8 ∧ noTxt x.1 = true
theorem Paired.fst {xs : List DU1} {ys : List DU2} (h : Paired RelU xs ys) : xs.map (·.1) = ys.map (·.1) := by
  induction h with
  | nil => rfl
  | cons r t ih => rw [List.map_cons, List.map_cons, ih, r.1]
theorem Paired.memU {xs : List DU1} {ys : List DU2} (h : Paired RelU xs ys) : ∀ y ∈ ys, ∃ x ∈ xs, RelU x y := by
  induction h with
  | nil => intro y hy; cases hy
  | cons r t ih =>
    intro y hy
    rcases List.mem_cons.mp hy with rfl | hy
    · exact ⟨_, .head _, r⟩
    · obtain ⟨x, hx, e⟩ := ih y hy
      exact ⟨x, .tail _ hx, e⟩
def findU {α : Type} (xs : List (NestedKey × Addr × α)) (k : NestedKey) : Option α := (xs.find? fun x => decide (x.1 = k)).map (·.2.2)
def putU {α : Type} (xs : List (NestedKey × Addr × α)) (k : NestedKey) (b : Addr) (v : α) : List (NestedKey × Addr × α) :=
  if (findU xs k).isSome then xs.map (fun x => if x.1 = k then (x.1, x.2.1, v) else x) else xs ++ [(k, b, v)]
theorem Paired.findU {xs : List DU1} {ys : List DU2} (h : Paired RelU xs ys) (k : NestedKey) : RelO (Tl.findU xs k) ((atKey ys k).map (·.2)) := by
  induction h with
  | nil => exact True.intro
  | @cons x y xs ys r t ih =>
    obtain ⟨kx, ax, vx⟩ := x
    obtain ⟨ky, ay, vy⟩ := y
    obtain ⟨r1, r2, r3⟩ := r
    simp only at r1 r2 r3
    subst r1 r2
    unfold Tl.findU atKey at ih ⊢
    by_cases e : kx = k
    · rw [List.find?_cons_of_pos (by simpa using e), List.find?_cons_of_pos (by simpa using e)]
      exact r3
    · rw [List.find?_cons_of_neg (by simpa using e), List.find?_cons_of_neg (by simpa using e)]
      exact ih
theorem Paired.putU {xs : List DU1} {ys : List DU2} (h : Paired RelU xs ys) (k : NestedKey) (b : Addr) {v : V} {u : Value} (r : RelV v u) : Paired RelU (Tl.putU xs k b v) (storedH ys k b u) := by
  have f := Paired.findU h k
  have e : (Tl.findU xs k).isSome = (atKey ys k).isSome := by
    have := f.isSome_eq
    rw [Option.isSome_map] at this
    exact this
  unfold Tl.putU storedH
  rw [e]
  split
  · rename_i hc
    clear f e hc
    induction h with
    | nil => exact .nil
    | @cons x y xs ys r1 t ih =>
      obtain ⟨kx, ax, vx⟩ := x
      obtain ⟨ky, ay, vy⟩ := y
      obtain ⟨r1, r2, r3⟩ := r1
      simp only at r1 r2 r3
      subst r1 r2
      rw [List.map_cons, List.map_cons]
      refine .cons ?_ ih
      unfold putAt
      by_cases e : kx = k
      · rw [if_pos e, if_pos e]
        exact ⟨rfl, rfl, r⟩
      · rw [if_neg e, if_neg e]
        exact ⟨rfl, rfl, r3⟩
  · rename_i hc
    clear f e hc
    induction h with
    | nil => exact .cons ⟨rfl, rfl, r⟩ .nil
    | cons r1 t ih => exact .cons r1 ih
section
variable {X : Cx} {pins : List (Addr × Obj)} {σ : L2.St} {H : Hp} {s : Shared} {a b : Addr} {xs : List DU1} {k : NestedKey} {A : Around} {E : Value → Shared → Prop}
theorem DU_of (I : Inv X pins σ H s) (e : H a = some (DU a xs)) (ku : KeysU X.K H a xs) : ∃ ys, Paired RelU xs ys ∧ s.heap.DictOfH (nestedKind X.prog X.w) a ys ∧ ∀ y ∈ ys, noTxt y.1 = true := by
  obtain ⟨ys, o, es, ep, h1, h2, h3, h4, h5⟩ := DU_get I.hok e
  refine ⟨ys, h1, ⟨o, es, ep, h2, h3, h4, h5 X.w, fun y hy => ?_, by rw [← Paired.fst h1]; exact ku.nd⟩, fun y hy => ?_⟩
  · obtain ⟨x, hx, r1, r2, _⟩ := Paired.memU h1 y hy
    obtain ⟨q1, q2, _⟩ := ku.ks x hx
    rw [← r1, ← r2]
    exact ⟨q1.is I rfl, q2⟩
  · obtain ⟨x, hx, r1, r2, _⟩ := Paired.memU h1 y hy
    rw [← r1]
    exact (ku.ks x hx).2.2
theorem u_in {Q : Value → Shared → Prop} (hu : A.units + 20 < cLine) (I : Inv X pins σ H s) (e : H a = some (DU a xs)) (ku : KeysU X.K H a xs) (hk : KeyV X.K H (.ref b) k) (hd : k.depth ≤ 8) (h : ∀ s', Inv X pins σ H s' → Q (.bool (findU xs k).isSome) s') :
    wpAny (model X.prog X.w) A (compareOp .In (.ref b) (.ref a)) Q E s := by
  obtain ⟨ys, h1, dd, _⟩ := DU_of I e ku
  refine wpAny_in_heap (knd := nestedKind X.prog X.w) (k := k) (show A.units + 1 + 8 < cLine by omega) ⟨hk.is I rfl, hd⟩ ku.sm dd ?_
  have q := (Paired.findU h1 k).isSome_eq
  rw [Option.isSome_map] at q
  rw [← q]
  exact h _ (I.tok _)
theorem u_notIn {Q : Value → Shared → Prop} (hu : A.units + 20 < cLine) (I : Inv X pins σ H s) (e : H a = some (DU a xs)) (ku : KeysU X.K H a xs) (hk : KeyV X.K H (.ref b) k) (hd : k.depth ≤ 8) (h : ∀ s', Inv X pins σ H s' → Q (.bool (!(findU xs k).isSome)) s') :
    wpAny (model X.prog X.w) A (compareOp .NotIn (.ref b) (.ref a)) Q E s := by
  obtain ⟨ys, h1, dd, _⟩ := DU_of I e ku
  refine wpAny_notIn_heap (knd := nestedKind X.prog X.w) (k := k) (show A.units + 1 + 8 < cLine by omega) ⟨hk.is I rfl, hd⟩ ku.sm dd ?_
  have q := (Paired.findU h1 k).isSome_eq
  rw [Option.isSome_map] at q
  rw [← q]
  exact h _ (I.tok _)
theorem du_empty {P : Program} {w : World} {H : Hp} (h : Heap) : ObjOk P w H (h.push { cls := .type "dict", data := .dict #[] }) h.objs.size (DU h.objs.size []) :=
  phiU_ok ⟨[], _, #[], 0, .nil, Heap.get?_push_size _ rfl, ⟨rfl, rfl, rfl⟩, rfl, fun _ => rfl⟩
end
/-! ### keys as data -/
mutual
def keyN : PyData → NestedKey
  | .int i => .num i
  | .tuple ds => .tup (keyNs ds)
  | _ => .none
def keyNs : List PyData → List NestedKey
  | [] => []
  | d :: ds => keyN d :: keyNs ds
end
mutual
/-- numbers, and tuples of such -/
def keyOk : PyData → Bool
  | .int _ => true
  | .tuple ds => keyOks ds
  | _ => false
def keyOks : List PyData → Bool
  | [] => true
  | d :: ds => keyOk d && keyOks ds
end
mutual
theorem keyN_inj : ∀ (a b : PyData), keyOk a = true → keyOk b = true → keyN a = keyN b → a = b
  | .int i, b, _, hb, e => by
    cases b with
    | int j => simp only [keyN, NestedKey.num.injEq] at e; rw [e]
    | tuple ds => simp [keyN] at e
    | _ => simp [keyOk] at hb
  | .tuple ds, b, ha, hb, e => by
    cases b with
    | int j => simp [keyN] at e
    | tuple es =>
      simp only [keyN, NestedKey.tup.injEq] at e
      rw [keyOk] at ha hb
      rw [keyNs_inj ds es ha hb e]
    | _ => simp [keyOk] at hb
  | .none, _, ha, _, _ => by simp [keyOk] at ha
  | .bool _, _, ha, _, _ => by simp [keyOk] at ha
  | .str _, _, ha, _, _ => by simp [keyOk] at ha
  | .list _, _, ha, _, _ => by simp [keyOk] at ha
  | .dict _, _, ha, _, _ => by simp [keyOk] at ha
theorem keyNs_inj : ∀ (a b : List PyData), keyOks a = true → keyOks b = true → keyNs a = keyNs b → a = b
  | [], [], _, _, _ => rfl
  | [], _ :: _, _, _, e => by simp [keyNs] at e
  | _ :: _, [], _, _, e => by simp [keyNs] at e
  | a :: as, b :: bs, ha, hb, e => by
    rw [keyOks, Bool.and_eq_true] at ha hb
    simp only [keyNs, List.cons.injEq] at e
    rw [keyN_inj a b ha.1 hb.1 e.1, keyNs_inj as bs ha.2 hb.2 e.2]
end
mutual
theorem keyN_noTxt : ∀ (d : PyData), keyOk d = true → noTxt (keyN d) = true
  | .int i, _ => by rw [keyN, noTxt]
  | .tuple ds, h => by rw [keyN, noTxt]; rw [keyOk] at h; exact keyNs_noTxt ds h
  | .none, h => by simp [keyOk] at h
  | .bool _, h => by simp [keyOk] at h
  | .str _, h => by simp [keyOk] at h
  | .list _, h => by simp [keyOk] at h
  | .dict _, h => by simp [keyOk] at h
theorem keyNs_noTxt : ∀ (ds : List PyData), keyOks ds = true → noTxts (keyNs ds) = true
  | [], _ => by rw [keyNs, noTxts]
  | d :: ds, h => by
    rw [keyOks, Bool.and_eq_true] at h
    rw [keyNs, noTxts, keyN_noTxt d h.1, keyNs_noTxt ds h.2]
    rfl
end
mutual
theorem keyN_depth : ∀ (d : PyData), (keyN d).depth ≤ d.depth
  | .int i => by rw [keyN, NestedKey.depth]; exact Nat.zero_le _
  | .tuple ds => by
    rw [keyN, NestedKey.depth, PyData.depth]
    have := keyNs_depth ds
    omega
  | .none => by rw [keyN, NestedKey.depth]; exact Nat.zero_le _; all_goals simp
  | .bool _ => by rw [keyN, NestedKey.depth]; exact Nat.zero_le _; all_goals simp
  | .str _ => by rw [keyN, NestedKey.depth]; exact Nat.zero_le _; all_goals simp
  | .list _ => by rw [keyN, NestedKey.depth]; exact Nat.zero_le _; all_goals simp
  | .dict _ => by rw [keyN, NestedKey.depth]; exact Nat.zero_le _; all_goals simp
theorem keyNs_depth : ∀ (ds : List PyData), NestedKey.depthAll (keyNs ds) ≤ PyData.depthAll ds
  | [] => by rw [keyNs, NestedKey.depthAll]; exact Nat.zero_le _
  | d :: ds => by
    have h1 := keyN_depth d
    have h2 := keyNs_depth ds
    rw [keyNs, NestedKey.depthAll, PyData.depthAll]
    omega
end
end Tl
set_option Elab.async false
set_option linter.all false
set_option maxRecDepth 100000
set_option maxHeartbeats 4000000
/-! A second layer over the hand layer: values are data or named objects; a memory M tells the objects that may change, all else is data for good. -/
namespace Tl
open PySem L2
mutual
/-- data at v, as F knows it; the empty dict may stand anywhere -/
inductive Dx (K : PySem.W.Frag) (F : Hp) : V → PyData → Prop
  | non : Dx K F .non .none
  | bl (b : Bool) : Dx K F (.bl b) (.bool b)
  | int (i : Int) : Dx K F (.int i) (.int i)
  | str (x : Str) : Dx K F (.str x) (.str x)
  | lst {a : Addr} {xs : List V} {ds : List PyData} : F a = some (.lst xs) → DxL K F xs ds → Dx K F (.ref a) (.list ds)
  | tup {a : Addr} {xs : List V} {ds : List PyData} : SqT K F a xs → DxL K F xs ds → Dx K F (.ref a) (.tuple ds)
  | dic {a : Addr} : F a = some (.dK []) → Dx K F (.ref a) (.dict [])
inductive DxL (K : PySem.W.Frag) (F : Hp) : List V → List PyData → Prop
  | nil : DxL K F [] []
  | cons {v : V} {vs : List V} {d : PyData} {ds : List PyData} : Dx K F v d → DxL K F vs ds → DxL K F (v :: vs) (d :: ds)
end
/-- one of two, by a truth -/
inductive IfB (c : Bool) (A B : Prop) : Prop where
  | t (h : c = true) (q : A) : IfB c A B
  | f (h : c = false) (q : B) : IfB c A B
theorem IfB.ite {c : Bool} {A B : Prop} (h : IfB c A B) : if c = true then A else B := by
  cases h with
  | t h q => rw [if_pos h]; exact q
  | f h q => rw [h, if_neg Bool.false_ne_true]; exact q
theorem IfB.of {c : Bool} {A B : Prop} (h1 : c = true → A) (h2 : c = false → B) : IfB c A B := by
  cases c with
  | true => exact .t rfl (h1 rfl)
  | false => exact .f rfl (h2 rfl)
theorem IfB.d {p A B : Prop} [Decidable p] (h1 : p → A) (h2 : ¬ p → B) : IfB (decide p) A B := IfB.of (fun h => h1 (of_decide_eq_true h)) fun h => h2 (of_decide_eq_false h)
theorem IfB.n {p A B : Prop} [Decidable p] (h1 : ¬ p → B) (h2 : p → A) : IfB (decide p) A B := IfB.d h2 h1
theorem IfB.not {c : Bool} {A B : Prop} (h : IfB c B A) : IfB (!c) A B := by
  cases h with
  | t h q => exact .f (by rw [h]; rfl) q
  | f h q => exact .t (by rw [h]; rfl) q
def ng : Bool → Bool → Bool
  | true, b => !b
  | false, b => b
theorem IfB.ngt {c : Bool} {A B : Prop} (h : IfB c B A) : IfB (ng true c) A B := h.not
theorem IfB.ngf {c : Bool} {A B : Prop} (h : IfB c A B) : IfB (ng false c) A B := h
theorem IfB.yes {p A B : Prop} [Decidable p] (h : p) (q : A) : IfB (decide p) A B := .t (decide_eq_true h) q
theorem IfB.no {p A B : Prop} [Decidable p] (h : ¬ p) (q : B) : IfB (decide p) A B := .f (decide_eq_false h) q
/-- a value -/
inductive W where
  | d (x : PyData)
  | r (a : Addr)
  | o (v : V)
  /-- a caught error: where it stands, its class, its dict, its fields -/
  | x (a C : Addr) (dd : Option Addr) (fs : List (Str × PyData))
/-- an object that may change -/
inductive MO where
  | lst (ws : List W)
  | src (b : Bool)
  | dK (kvs : List (Key × W))
  /-- a dict keyed by numbers in tuples -/
  | dT (kvs : List (PyData × W))
  | ins (C dx : Addr) (fs : List (Str × W))
  | exc (C : Addr) (dd : Option Addr)
  /-- a dict while it is walked -/
  | lkK (ob : Obj) (kv : List (Key × V)) (kvs : List (Key × W))
  /-- the table of a def's own code: what it tells bears the name q -/
  | tab (q : Str)
  /-- a dict keyed by numbers in tuples, while it is walked -/
  | lkT (ob : Obj) (xs : List DU1) (kvs : List (PyData × W))
  /-- a lambda that captures nothing -/
  | lam (q : Str) (params : Arguments) (body : Expr) (scope : Scope)
abbrev Mem := Addr → Option MO
abbrev EnvD := List (Option W)
def mset (M : Mem) (a : Addr) (o : MO) : Mem := fun b => if b = a then some o else M b
def mdel (M : Mem) (a : Addr) : Mem := fun b => if b = a then none else M b
theorem mset_same {M : Mem} {a : Addr} {o : MO} : mset M a o a = some o := if_pos rfl
theorem mset_ne {M : Mem} {a b : Addr} {o : MO} (h : b ≠ a) : mset M a o b = M b := if_neg h
theorem mdel_same {M : Mem} {a : Addr} : mdel M a a = none := if_pos rfl
theorem mdel_ne {M : Mem} {a b : Addr} (h : b ≠ a) : mdel M a b = M b := if_neg h
theorem mset_mset {M : Mem} {a : Addr} {o u : MO} : mset (mset M a o) a u = mset M a u := by
  funext b
  by_cases h : b = a
  · rw [h, mset_same, mset_same]
  · rw [mset_ne h, mset_ne h, mset_ne h]
theorem mdel_mset {M : Mem} {a : Addr} {o : MO} : mdel (mset M a o) a = mdel M a := by
  funext b
  by_cases h : b = a
  · rw [h, mdel_same, mdel_same]
  · rw [mdel_ne h, mdel_ne h, mset_ne h]
theorem mdel_none {M : Mem} {a : Addr} (h : M a = none) : mdel M a = M := by
  funext b; unfold mdel; split
  · rename_i e; rw [e, h]
  · rfl
theorem mset_id {M : Mem} {a : Addr} {o : MO} (h : M a = some o) : mset M a o = M := by
  funext b; unfold mset; split
  · rename_i e; rw [e, h]
  · rfl
mutual
theorem Dx.mono {K : PySem.W.Frag} {H H' : Hp} (e : Same H H') : ∀ (d : PyData) (v : V), Dx K H v d → Dx K H' v d
  | .none, _, h => by cases h; exact .non
  | .bool b, _, h => by cases h; exact .bl b
  | .int i, _, h => by cases h; exact .int i
  | .str x, _, h => by cases h; exact .str x
  | .list ds, _, h => by
    cases h with
    | lst hs ha => exact .lst (e _ _ hs) (DxL.mono e ds _ ha)
  | .tuple ds, _, h => by
    cases h with
    | tup hs ha => exact .tup (same_t e hs) (DxL.mono e ds _ ha)
  | .dict _, _, h => by cases h with | dic h => exact .dic (e _ _ h)
theorem DxL.mono {K : PySem.W.Frag} {H H' : Hp} (e : Same H H') : ∀ (ds : List PyData) (vs : List V), DxL K H vs ds → DxL K H' vs ds
  | [], _, h => by cases h; exact .nil
  | d :: ds, _, h => by
    cases h with
    | cons h1 h2 => exact .cons (Dx.mono e d _ h1) (DxL.mono e ds _ h2)
end
mutual
/-- no list within -/
def noL : PyData → Bool
  | .list _ => false
  | .tuple ds => noLs ds
  | _ => true
def noLs : List PyData → Bool
  | [] => true
  | d :: ds => noL d && noLs ds
end
mutual
theorem Dx.of {K : PySem.W.Frag} {H : Hp} : ∀ (d : PyData) (v : V), Dp K H v d → noL d = true → Dx K H v d
  | .none, _, h, _ => by cases h; exact .non
  | .bool b, _, h, _ => by cases h; exact .bl b
  | .int i, _, h, _ => by cases h; exact .int i
  | .str x, _, h, _ => by cases h; exact .str x
  | .list ds, _, h, n => by rw [noL] at n; cases n
  | .tuple ds, _, h, n => by
    cases h with
    | tup hs ha => exact .tup hs (DxL.of ds _ ha (by rw [noL] at n; exact n))
  | .dict _, _, h, _ => by cases h
theorem DxL.of {K : PySem.W.Frag} {H : Hp} : ∀ (ds : List PyData) (vs : List V), DpAll K H vs ds → noLs ds = true → DxL K H vs ds
  | [], _, h, _ => by cases h; exact .nil
  | d :: ds, _, h, n => by
    rw [noLs, Bool.and_eq_true] at n
    cases h with
    | cons h1 h2 => exact .cons (Dx.of d _ h1 n.1) (DxL.of ds _ h2 n.2)
end
mutual
theorem Dx.dp {K : PySem.W.Frag} {H : Hp} : ∀ (d : PyData) (v : V), Dx K H v d → d.hasDict = false → Dp K H v d
  | .none, _, h, _ => by cases h; exact .non
  | .bool b, _, h, _ => by cases h; exact .bl b
  | .int i, _, h, _ => by cases h; exact .int i
  | .str x, _, h, _ => by cases h; exact .str x
  | .list ds, _, h, n => by
    cases h with
    | lst hs ha => exact .lst (SqL.of hs) (DxL.dp ds _ ha (by rw [PyData.hasDict] at n; exact n))
  | .tuple ds, _, h, n => by
    cases h with
    | tup hs ha => exact .tup hs (DxL.dp ds _ ha (by rw [PyData.hasDict] at n; exact n))
  | .dict _, _, h, n => by rw [PyData.hasDict] at n; cases n
theorem DxL.dp {K : PySem.W.Frag} {H : Hp} : ∀ (ds : List PyData) (vs : List V), DxL K H vs ds → PyData.hasDictAll ds = false → DpAll K H vs ds
  | [], _, h, _ => by cases h; exact .nil
  | d :: ds, _, h, n => by
    rw [PyData.hasDictAll, Bool.or_eq_false_iff] at n
    cases h with
    | cons h1 h2 => exact .cons (Dx.dp d _ h1 n.1) (DxL.dp ds _ h2 n.2)
end
theorem DxL.len {K : PySem.W.Frag} {H : Hp} : ∀ {vs : List V} {ds : List PyData}, DxL K H vs ds → vs.length = ds.length
  | _, _, .nil => rfl
  | _, _, .cons _ h => by rw [List.length_cons, List.length_cons, DxL.len h]
theorem DxL.got {K : PySem.W.Frag} {H : Hp} : ∀ {vs : List V} {ds : List PyData} {i : Nat} {d : PyData}, DxL K H vs ds → ds[i]? = some d → ∃ v, vs[i]? = some v ∧ Dx K H v d
  | _, _, _, _, .nil, e => by simp at e
  | _, _, 0, _, .cons h _, e => by simp at e; subst e; exact ⟨_, rfl, h⟩
  | _, _, i + 1, d, .cons _ h, e => by
    obtain ⟨v, h1, h2⟩ := DxL.got (i := i) (d := d) h (by simpa using e)
    exact ⟨v, by simpa using h1, h2⟩
theorem DxL.get {K : PySem.W.Frag} {H : Hp} : ∀ {vs : List V} {ds : List PyData} {i : Nat} {v : V}, DxL K H vs ds → vs[i]? = some v → ∃ d, ds[i]? = some d ∧ Dx K H v d
  | _, _, _, _, .nil, e => by simp at e
  | _, _, 0, _, .cons h _, e => by simp at e; subst e; exact ⟨_, rfl, h⟩
  | _, _, i + 1, v, .cons _ h, e => by
    obtain ⟨d, h1, h2⟩ := DxL.get (i := i) (v := v) h (by simpa using e)
    exact ⟨d, by simpa using h1, h2⟩
theorem DxL.app {K : PySem.W.Frag} {H : Hp} : ∀ {vs ws : List V} {ds es : List PyData}, DxL K H vs ds → DxL K H ws es → DxL K H (vs ++ ws) (ds ++ es)
  | _, _, _, _, .nil, h => h
  | _, _, _, _, .cons a b, h => .cons a (DxL.app b h)
theorem DxL.take {K : PySem.W.Frag} {H : Hp} : ∀ {vs : List V} {ds : List PyData} (n : Nat), DxL K H vs ds → DxL K H (vs.take n) (ds.take n)
  | _, _, 0, _ => .nil
  | _, _, _ + 1, .nil => .nil
  | _, _, n + 1, .cons a b => .cons a (DxL.take n b)
theorem DxL.drop {K : PySem.W.Frag} {H : Hp} : ∀ {vs : List V} {ds : List PyData} (n : Nat), DxL K H vs ds → DxL K H (vs.drop n) (ds.drop n)
  | _, _, 0, h => h
  | _, _, _ + 1, .nil => .nil
  | _, _, n + 1, .cons a b => DxL.drop n b
theorem DxL.rev {K : PySem.W.Frag} {H : Hp} : ∀ {vs : List V} {ds : List PyData}, DxL K H vs ds → DxL K H vs.reverse ds.reverse
  | _, _, .nil => .nil
  | _, _, .cons a b => by rw [List.reverse_cons, List.reverse_cons]; exact DxL.app (DxL.rev b) (.cons a .nil)
theorem DxL.rep {K : PySem.W.Frag} {H : Hp} {vs : List V} {ds : List PyData} (h : DxL K H vs ds) : ∀ n : Nat, DxL K H (List.replicate n vs).flatten (List.replicate n ds).flatten
  | 0 => .nil
  | n + 1 => by
    rw [List.replicate_succ, List.replicate_succ, List.flatten_cons, List.flatten_cons]
    exact DxL.app h (DxL.rep h n)
/-- an error's fields stand in its dict -/
def FX (K : PySem.W.Frag) (F : Hp) (d : Option Addr) (fs : List (Str × PyData)) : Prop := match d with
  | none => fs = []
  | some dd => ∃ fv, F dd = some (.xd fv) ∧ fv.map (·.1) = fs.map (·.1) ∧ DxL K F (fv.map (·.2)) (fs.map (·.2))
theorem FX.mono {K : PySem.W.Frag} {F F' : Hp} (e : Same F F') {d : Option Addr} {fs : List (Str × PyData)} (h : FX K F d fs) : FX K F' d fs := by
  cases d with
  | none => exact h
  | some dd =>
    obtain ⟨fv, h1, h2, h3⟩ := h
    exact ⟨fv, e _ _ h1, h2, DxL.mono e _ _ h3⟩
/-- v is the value x -/
inductive RW (K : PySem.W.Frag) (F : Hp) : V → W → Prop
  | d {v : V} {x : PyData} : Dx K F v x → RW K F v (.d x)
  | r (a : Addr) : RW K F (.ref a) (.r a)
  | o (v : V) : RW K F v (.o v)
  | x {a C : Addr} {dd : Option Addr} {fs : List (Str × PyData)} : FX K F dd fs → RW K F (.ref a) (.x a C dd fs)
inductive RWs (K : PySem.W.Frag) (F : Hp) : List V → List W → Prop
  | nil : RWs K F [] []
  | cons {v : V} {vs : List V} {x : W} {xs : List W} : RW K F v x → RWs K F vs xs → RWs K F (v :: vs) (x :: xs)
section
variable {K : PySem.W.Frag} {F F' H H' : Hp}
theorem RW.mono (e : Same F F') {v : V} {x : W} (h : RW K F v x) : RW K F' v x := by
  cases h with
  | d h => exact .d (Dx.mono e _ _ h)
  | r a => exact .r a
  | o v => exact .o v
  | x h => exact .x (h.mono e)
theorem RWs.mono (e : Same F F') : ∀ {vs : List V} {xs : List W}, RWs K F vs xs → RWs K F' vs xs
  | _, _, .nil => .nil
  | _, _, .cons h t => .cons (h.mono e) (t.mono e)
theorem RWs.len : ∀ {vs : List V} {xs : List W}, RWs K F vs xs → vs.length = xs.length
  | _, _, .nil => rfl
  | _, _, .cons _ t => by rw [List.length_cons, List.length_cons, t.len]
theorem RWs.got : ∀ {vs : List V} {xs : List W} {i : Nat} {x : W}, RWs K F vs xs → xs[i]? = some x → ∃ v, vs[i]? = some v ∧ RW K F v x
  | _, _, _, _, .nil, e => by simp at e
  | _, _, 0, _, .cons h _, e => by simp at e; subst e; exact ⟨_, rfl, h⟩
  | _, _, i + 1, x, .cons _ h, e => by
    obtain ⟨v, h1, h2⟩ := RWs.got (i := i) (x := x) h (by simpa using e)
    exact ⟨v, by simpa using h1, h2⟩
theorem RWs.get : ∀ {vs : List V} {xs : List W} {i : Nat} {v : V}, RWs K F vs xs → vs[i]? = some v → ∃ x, xs[i]? = some x ∧ RW K F v x
  | _, _, _, _, .nil, e => by simp at e
  | _, _, 0, _, .cons h _, e => by simp at e; subst e; exact ⟨_, rfl, h⟩
  | _, _, i + 1, v, .cons _ h, e => by
    obtain ⟨x, h1, h2⟩ := RWs.get (i := i) (v := v) h (by simpa using e)
    exact ⟨x, by simpa using h1, h2⟩
theorem RWs.app : ∀ {vs ws : List V} {xs ys : List W}, RWs K F vs xs → RWs K F ws ys → RWs K F (vs ++ ws) (xs ++ ys)
  | _, _, _, _, .nil, h => h
  | _, _, _, _, .cons a b, h => .cons a (RWs.app b h)
theorem RWs.take : ∀ {vs : List V} {xs : List W} (n : Nat), RWs K F vs xs → RWs K F (vs.take n) (xs.take n)
  | _, _, 0, _ => .nil
  | _, _, _ + 1, .nil => .nil
  | _, _, n + 1, .cons a b => .cons a (RWs.take n b)
theorem RWs.drop : ∀ {vs : List V} {xs : List W} (n : Nat), RWs K F vs xs → RWs K F (vs.drop n) (xs.drop n)
  | _, _, 0, h => h
  | _, _, _ + 1, .nil => .nil
  | _, _, n + 1, .cons a b => RWs.drop n b
theorem RWs.rev : ∀ {vs : List V} {xs : List W}, RWs K F vs xs → RWs K F vs.reverse xs.reverse
  | _, _, .nil => .nil
  | _, _, .cons a b => by rw [List.reverse_cons, List.reverse_cons]; exact RWs.app (RWs.rev b) (.cons a .nil)
theorem RWs.set {v : V} {x : W} (h : RW K F v x) : ∀ {vs : List V} {xs : List W} (n : Nat), RWs K F vs xs → RWs K F (vs.set n v) (xs.set n x)
  | _, _, _, .nil => .nil
  | _, _, 0, .cons _ t => .cons h t
  | _, _, n + 1, .cons a t => .cons a (RWs.set h n t)
theorem RWs.dat : ∀ {vs : List V} {ds : List PyData}, DxL K F vs ds → RWs K F vs (ds.map W.d)
  | _, _, .nil => .nil
  | _, _, .cons a b => .cons (.d a) (RWs.dat b)
theorem RWs.undat : ∀ {ds : List PyData} {vs : List V}, RWs K F vs (ds.map W.d) → DxL K F vs ds
  | [], _, h => by cases h; exact .nil
  | d :: ds, _, h => by
    cases h with
    | cons a b =>
      cases a with
      | d a => exact .cons a (RWs.undat b)
end
/-- the law's own source of numbers: its cells, three numbers -/
def SrcV (K : PySem.W.Frag) (F : Hp) (b : Bool) (vs : List V) : Prop := ∃ (c : Addr) (cs : List Int) (i p z : Int), vs = [.ref c, .int i, .int p, .int z] ∧ SqL K F c (cs.map V.int) ∧ cs.length ≤ 63 ∧ (b = true → 0 < cs.length) ∧ 0 ≤ i ∧ 0 ≤ p ∧ 0 ≤ z ∧ z < (if b = true then 2147483647 else 2305843009213693951)
theorem SrcV.mono {K : PySem.W.Frag} {F F' : Hp} (e : Same F F') {b : Bool} {vs : List V} (h : SrcV K F b vs) : SrcV K F' b vs := by
  obtain ⟨c, cs, i, p, z, h1, h2, h3⟩ := h
  exact ⟨c, cs, i, p, z, h1, same_l e h2, h3⟩
def PrR {κ : Type} (K : PySem.W.Frag) (F : Hp) (kv : List (κ × V)) (kw : List (κ × W)) : Prop := kv.map (·.1) = kw.map (·.1) ∧ RWs K F (kv.map (·.2)) (kw.map (·.2))
theorem PrR.mono {κ : Type} {K : PySem.W.Frag} {F F' : Hp} (e : Same F F') {kv : List (κ × V)} {kw : List (κ × W)} (h : PrR K F kv kw) : PrR K F' kv kw := ⟨h.1, h.2.mono e⟩
mutual
theorem KeyV.mono {K : PySem.W.Frag} {F F' : Hp} (e : Same F F') : ∀ (k : NestedKey) (v : V), KeyV K F v k → KeyV K F' v k
  | .num i, _, h => by cases h; exact .int i
  | .tup ks, _, h => by
    cases h with
    | tup hs hr => exact .tup (same_t e hs) (KeyVs.mono e ks _ hr)
  | .none, _, h => by cases h
  | .text _, _, h => by cases h
theorem KeyVs.mono {K : PySem.W.Frag} {F F' : Hp} (e : Same F F') : ∀ (ks : List NestedKey) (vs : List V), KeyVs K F vs ks → KeyVs K F' vs ks
  | [], _, h => by cases h; exact .nil
  | k :: ks, _, h => by
    cases h with
    | cons a b => exact .cons (KeyV.mono e k _ a) (KeyVs.mono e ks _ b)
end
theorem KeysU.mono {K : PySem.W.Frag} {F F' : Hp} (e : Same F F') {a : Addr} {xs : List DU1} (h : KeysU K F a xs) : KeysU K F' a xs :=
  ⟨h.sm, h.sz, h.nd, fun x hx => ⟨KeyV.mono e _ _ (h.ks x hx).1, (h.ks x hx).2⟩⟩
mutual
theorem keyV_of {K : PySem.W.Frag} {F : Hp} : ∀ (d : PyData) (v : V), Dx K F v d → keyOk d = true → KeyV K F v (keyN d)
  | .int i, _, h, _ => by cases h; rw [keyN]; exact .int i
  | .tuple ds, _, h, k => by
    cases h with
    | tup hs hr => rw [keyN]; exact .tup hs (keyVs_of ds _ hr (by rw [keyOk] at k; exact k))
  | .none, _, _, h => by simp [keyOk] at h
  | .bool _, _, _, h => by simp [keyOk] at h
  | .str _, _, _, h => by simp [keyOk] at h
  | .list _, _, _, h => by simp [keyOk] at h
  | .dict _, _, _, h => by simp [keyOk] at h
theorem keyVs_of {K : PySem.W.Frag} {F : Hp} : ∀ (ds : List PyData) (vs : List V), DxL K F vs ds → keyOks ds = true → KeyVs K F vs (keyNs ds)
  | [], _, h, _ => by cases h; rw [keyNs]; exact .nil
  | d :: ds, _, h, k => by
    cases h with
    | cons a b =>
      rw [keyOks, Bool.and_eq_true] at k
      rw [keyNs]
      exact .cons (keyV_of d _ a k.1) (keyVs_of ds _ b k.2)
end
/-- a table of a def's code: each code object in it is data, of the name q -/
def TabO (F : Hp) (u : HO) (q : Str) : Prop := ∃ ps : Array Value, u = .tbl ps ∧ TriplesOk ps.toList ∧
  ∀ (z : Pos) (x : Value), codeAmong z ps.toList = some x → ∃ b, x = .ref b ∧ F b = some (LamX.CodeO b q)
theorem TabO.mono {F F' : Hp} (e : Same F F') {u : HO} {q : Str} (h : TabO F u q) : TabO F' u q := by
  obtain ⟨ps, h1, h2, h3⟩ := h
  refine ⟨ps, h1, h2, fun z x hx => ?_⟩
  obtain ⟨b, e1, e2⟩ := h3 z x hx
  exact ⟨b, e1, e _ _ e2⟩
/-- what stands there is the object o -/
def OR (K : PySem.W.Frag) (F : Hp) (a : Addr) (u : HO) : MO → Prop
  | .lst ws => ∃ vs, u = .lst vs ∧ RWs K F vs ws
  | .src b => ∃ vs, u = .lst vs ∧ SrcV K F b vs
  | .dK kw => ∃ kv, u = .dK kv ∧ PrR K F kv kw
  | .dT kw => ∃ xs : List DU1, u = DU a xs ∧ KeysU K F a xs ∧ xs.map (·.1) = kw.map (fun x => keyN x.1) ∧ (∀ x ∈ kw, keyOk x.1 = true) ∧ RWs K F (xs.map (·.2.2)) (kw.map (·.2))
  | .ins C dx fw => ∃ fv, u = .ins C dx fv ∧ PrR K F fv fw
  | .exc C dd => u = CgO (.ref C) dd a
  | .lkK ob kv kw => u = .frz ob (.dK kv) ∧ PrR K F kv kw
  | .tab q => TabO F u q
  | .lkT ob xs kw => u = .frz ob (DU a xs) ∧ KeysU K F a xs ∧ xs.map (·.1) = kw.map (fun x => keyN x.1) ∧ (∀ x ∈ kw, keyOk x.1 = true) ∧ RWs K F (xs.map (·.2.2)) (kw.map (·.2))
  | .lam q pa bo sc => ∃ (pm : Value) (b : Addr) (ctv : Value), u = .frz (PySem.W.kla_obj "<lambda>" q pa bo sc [] pm b ctv) (.ext fun _ => True) ∧ F b = some (LamX.CodeO b q)
theorem OR.mono {K : PySem.W.Frag} {F F' : Hp} (e : Same F F') {a : Addr} {u : HO} {o : MO} (h : OR K F a u o) : OR K F' a u o := by
  cases o with
  | lst ws =>
    obtain ⟨vs, h1, h2⟩ := h
    exact ⟨vs, h1, h2.mono e⟩
  | src b =>
    obtain ⟨vs, h1, h2⟩ := h
    exact ⟨vs, h1, h2.mono e⟩
  | dK kw =>
    obtain ⟨vs, h1, h2⟩ := h
    exact ⟨vs, h1, h2.mono e⟩
  | dT kw =>
    obtain ⟨vs, h1, h2, h3, h4, h5⟩ := h
    exact ⟨vs, h1, h2.mono e, h3, h4, h5.mono e⟩
  | ins C dx fw =>
    obtain ⟨vs, h1, h2⟩ := h
    exact ⟨vs, h1, h2.mono e⟩
  | exc C dd => exact h
  | lkK ob kv kw => exact ⟨h.1, h.2.mono e⟩
  | tab q => exact TabO.mono e h
  | lkT ob xs kw =>
    obtain ⟨h1, h2, h3, h4, h5⟩ := h
    exact ⟨h1, h2.mono e, h3, h4, h5.mono e⟩
  | lam q pa bo sc =>
    obtain ⟨pm, b, ctv, h1, h2⟩ := h
    exact ⟨pm, b, ctv, h1, e _ _ h2⟩
/-- F: what is data for good; M: what may change; H: what stands there -/
structure Rl (K : PySem.W.Frag) (F H : Hp) (M : Mem) : Prop where
  fh : Same F H
  mf : ∀ a o, M a = some o → F a = none
  at_ : ∀ a o, M a = some o → ∃ u, H a = some u ∧ OR K F a u o
/-- from one state to a later one: what is neither data nor told by M stays as it is -/
structure Gr (F H : Hp) (M : Mem) (F' H' : Hp) (M' : Mem) : Prop where
  ff : Same F F'
  un : ∀ b u, H b = some u → M b = none → H' b = some u ∧ M' b = none
  nf : ∀ b u, H b = some u → M b = none → F b = none → F' b = none
theorem Gr.refl {F H : Hp} {M : Mem} : Gr F H M F H M := ⟨Same.refl _, fun _ _ h n => ⟨h, n⟩, fun _ _ _ _ h => h⟩
theorem Gr.trans {F H F1 H1 F2 H2 : Hp} {M M1 M2 : Mem} (a : Gr F H M F1 H1 M1) (b : Gr F1 H1 M1 F2 H2 M2) : Gr F H M F2 H2 M2 :=
  ⟨a.ff.trans b.ff, fun c u h n => b.un c u (a.un c u h n).1 (a.un c u h n).2, fun c u h n f => b.nf c u (a.un c u h n).1 (a.un c u h n).2 (a.nf c u h n f)⟩
section
variable {K : PySem.W.Frag} {F H : Hp} {M : Mem}
theorem Rl.there (h : Rl K F H M) {a : Addr} {o : MO} (e : M a = some o) : ∃ u, H a = some u := by
  obtain ⟨u, h1, _⟩ := h.at_ a o e
  exact ⟨u, h1⟩
theorem Rl.new (h : Rl K F H M) {p : Addr} (e : H p = none) : M p = none := by
  cases c : M p with
  | none => rfl
  | some o =>
    obtain ⟨u, h1, _⟩ := h.at_ p o c
    rw [e] at h1
    cases h1
theorem Rl.step (h : Rl K F H M) {F' H' : Hp} (ff : Same F F') (fh : Same F' H') (hm : ∀ a o, M a = some o → H' a = H a ∧ F' a = none) : Rl K F' H' M :=
  ⟨fh, fun a o e => (hm a o e).2, fun a o e => by
    obtain ⟨u, h1, h2⟩ := h.at_ a o e
    exact ⟨u, by rw [(hm a o e).1]; exact h1, h2.mono ff⟩⟩
/-- the heap grows by what nobody tells of -/
theorem Rl.same (h : Rl K F H M) {H' : Hp} (e : Same H H') : Rl K F H' M ∧ Gr F H M F H' M := by
  refine ⟨h.step (Same.refl _) (h.fh.trans e) fun a o c => ?_, Same.refl _, fun b u c n => ⟨e b u c, n⟩, fun _ _ _ _ f => f⟩
  obtain ⟨u, hu⟩ := h.there c
  exact ⟨by rw [hu]; exact e a u hu, h.mf a o c⟩
/-- a new thing that stays as it is -/
theorem Rl.fresh (h : Rl K F H M) {p : Addr} {u : HO} (e : H p = none) : Rl K (upd F p u) (upd H p u) M ∧ Gr F H M (upd F p u) (upd H p u) M := by
  have g := Gw.new (o := u) h.fh e
  refine ⟨h.step g.ff g.fh fun a o c => ?_, g.ff, fun b v c n => ⟨g.hh b v c, n⟩, fun b v c n f => ?_⟩
  · obtain ⟨v, hv⟩ := h.there c
    have n : a ≠ p := ne_of_none hv e
    exact ⟨upd_ne n, by rw [upd_ne n]; exact h.mf a o c⟩
  · rw [upd_ne (ne_of_none c e)]
    exact f
/-- a new object that may change -/
theorem Rl.born (h : Rl K F H M) {p : Addr} {u : HO} {o : MO} (e : H p = none) (r : OR K F p u o) : Rl K F (upd H p u) (mset M p o) ∧ Gr F H M F (upd H p u) (mset M p o) := by
  have fp := h.fh.free e
  refine ⟨⟨same_mut h.fh fp, fun a o' c => ?_, fun a o' c => ?_⟩, Same.refl _, fun b v c n => ?_, fun _ _ _ _ f => f⟩
  · by_cases z : a = p
    · rw [z]; exact fp
    · rw [mset_ne z] at c; exact h.mf a o' c
  · by_cases z : a = p
    · subst z
      rw [mset_same] at c
      cases c
      exact ⟨u, upd_same, r⟩
    · rw [mset_ne z] at c
      rw [upd_ne z]
      exact h.at_ a o' c
  · have z : b ≠ p := ne_of_none c e
    rw [upd_ne z, mset_ne z]
    exact ⟨c, n⟩
/-- an object changes -/
theorem Rl.put (h : Rl K F H M) {p : Addr} {u : HO} {o o' : MO} (e : M p = some o') (r : OR K F p u o) : Rl K F (upd H p u) (mset M p o) ∧ Gr F H M F (upd H p u) (mset M p o) := by
  have fp := h.mf p o' e
  refine ⟨⟨same_mut h.fh fp, fun a o' c => ?_, fun a o' c => ?_⟩, Same.refl _, fun b v c n => ?_, fun _ _ _ _ f => f⟩
  · by_cases z : a = p
    · rw [z]; exact fp
    · rw [mset_ne z] at c; exact h.mf a o' c
  · by_cases z : a = p
    · subst z
      rw [mset_same] at c
      cases c
      exact ⟨u, upd_same, r⟩
    · rw [mset_ne z] at c
      rw [upd_ne z]
      exact h.at_ a o' c
  · have z : b ≠ p := fun z => by rw [z, e] at n; cases n
    rw [upd_ne z, mset_ne z]
    exact ⟨c, n⟩
/-- a list of data is data from now on -/
theorem Rl.freeze (h : Rl K F H M) {p : Addr} {ds : List PyData} (e : M p = some (.lst (ds.map W.d))) : ∃ F', Rl K F' H (mdel M p) ∧ Gr F H M F' H (mdel M p) ∧ Dx K F' (.ref p) (.list ds) := by
  obtain ⟨_, h1, vs, rfl, h2⟩ := h.at_ p _ e
  have fp := h.mf p _ e
  have ff : Same F (upd F p (.lst vs)) := same_new fp
  have r : DxL K F vs ds := RWs.undat h2
  refine ⟨upd F p (.lst vs), ⟨fun b u q => ?_, fun a o c => ?_, fun a o c => ?_⟩, ⟨ff, fun b v c n => ⟨c, ?_⟩, fun b v c n f => ?_⟩, .lst upd_same (DxL.mono ff _ _ r)⟩
  · by_cases z : b = p
    · subst z
      rw [upd_same] at q
      rw [h1]
      exact q
    · rw [upd_ne z] at q
      exact h.fh b u q
  · have z : a ≠ p := fun z => by rw [z, mdel_same] at c; cases c
    rw [mdel_ne z] at c
    rw [upd_ne z]
    exact h.mf a o c
  · have z : a ≠ p := fun z => by rw [z, mdel_same] at c; cases c
    rw [mdel_ne z] at c
    obtain ⟨u, g1, g2⟩ := h.at_ a o c
    exact ⟨u, g1, g2.mono ff⟩
  · by_cases z : b = p
    · rw [z]; exact mdel_same
    · rw [mdel_ne z]; exact n
  · have z : b ≠ p := fun z => by rw [z, e] at n; cases n
    rw [upd_ne z]
    exact f
/-- an object that is not looked at any more -/
theorem Rl.drop (h : Rl K F H M) (p : Addr) : Rl K F H (mdel M p) ∧ Gr F H M F H (mdel M p) := by
  refine ⟨⟨h.fh, fun a o c => ?_, fun a o c => ?_⟩, Same.refl _, fun b v c n => ⟨c, ?_⟩, fun b v c n f => f⟩
  · have z : a ≠ p := fun z => by rw [z, mdel_same] at c; cases c
    rw [mdel_ne z] at c
    exact h.mf a o c
  · have z : a ≠ p := fun z => by rw [z, mdel_same] at c; cases c
    rw [mdel_ne z] at c
    exact h.at_ a o c
  · by_cases z : b = p
    · rw [z]; exact mdel_same
    · rw [mdel_ne z]; exact n
/-- the heap of a thing nobody tells of changes (an object made in between, not told by M, not data) -/
theorem Rl.hid (h : Rl K F H M) {p : Addr} {u : HO} (hf : F p = none) (hm : M p = none) : Rl K F (upd H p u) M :=
  h.step (Same.refl _) (same_mut h.fh hf) fun a o c => ⟨upd_ne (fun z => by rw [z, hm] at c; cases c), h.mf a o c⟩
end
/-! ### slots -/
@[reducible] def slot : EnvD → Nat → Option W
  | [], _ => none
  | x :: _, 0 => x
  | _ :: r, n + 1 => slot r n
@[reducible] def put : EnvD → Nat → Option W → EnvD
  | [], _, _ => []
  | _ :: r, 0, w => w :: r
  | x :: r, n + 1, w => x :: put r n w
theorem put_len : ∀ (ρ : EnvD) (i : Nat) (w : Option W), (put ρ i w).length = ρ.length
  | [], _, _ => rfl
  | _ :: r, 0, _ => rfl
  | _ :: r, n + 1, w => congrArg (· + 1) (put_len r n w)
theorem slot_put : ∀ {ρ : EnvD} {i : Nat} {w : Option W} {x : W}, slot (put ρ i w) i = some x → w = some x ∧ i < ρ.length
  | [], _, _, _, h => by cases h
  | _ :: r, 0, _, _, h => ⟨h, Nat.succ_pos _⟩
  | _ :: r, n + 1, w, x, h => by
    obtain ⟨h1, h2⟩ := slot_put (ρ := r) (i := n) h
    exact ⟨h1, Nat.succ_lt_succ h2⟩
theorem slot_put_ne : ∀ {ρ : EnvD} {i j : Nat} {w : Option W}, j ≠ i → slot (put ρ i w) j = slot ρ j
  | [], _, _, _, _ => rfl
  | _ :: r, 0, 0, _, h => absurd rfl h
  | _ :: r, 0, j + 1, _, _ => rfl
  | _ :: r, n + 1, 0, w, h => rfl
  | _ :: r, n + 1, j + 1, w, h => slot_put_ne (ρ := r) fun z => h (by rw [z])
structure RelS (K : PySem.W.Frag) (F : Hp) (σ : L2.St) (ρ : EnvD) : Prop where
  len : σ.length = ρ.length
  at_ : ∀ i x, slot ρ i = some x → ∃ v, σ[i]? = some (some v) ∧ RW K F v x
section
variable {K : PySem.W.Frag} {F F' : Hp} {σ : L2.St} {ρ : EnvD}
theorem RelS.mono (e : Same F F') (h : RelS K F σ ρ) : RelS K F' σ ρ := ⟨h.len, fun i x c => by
  obtain ⟨v, h1, h2⟩ := h.at_ i x c
  exact ⟨v, h1, h2.mono e⟩⟩
theorem RelS.set (h : RelS K F σ ρ) {v : V} {x : W} (r : RW K F v x) (i : Nat) : RelS K F (σ.set i (some v)) (put ρ i (some x)) := by
  refine ⟨by rw [List.length_set, put_len]; exact h.len, fun j y c => ?_⟩
  by_cases z : j = i
  · subst z
    obtain ⟨h1, h2⟩ := slot_put c
    cases h1
    exact ⟨v, by rw [List.getElem?_set_self (by rw [h.len]; exact h2)], r⟩
  · rw [slot_put_ne z] at c
    rw [List.getElem?_set_ne (fun q => z q.symm)]
    exact h.at_ j y c
theorem RelS.del (h : RelS K F σ ρ) (i : Nat) (w : Option V) : RelS K F (σ.set i w) (put ρ i none) := by
  refine ⟨by rw [List.length_set, put_len]; exact h.len, fun j y c => ?_⟩
  by_cases z : j = i
  · subst z
    obtain ⟨h1, h2⟩ := slot_put c
    cases h1
  · rw [slot_put_ne z] at c
    rw [List.getElem?_set_ne (fun q => z q.symm)]
    exact h.at_ j y c
end
end Tl
set_option Elab.async false
set_option linter.all false
set_option maxRecDepth 100000
set_option maxHeartbeats 4000000
/-! Readings at the second layer, and that they hold. -/
namespace Tl
open PySem L2
abbrev TDE := EnvD → Mem → (W → Mem → Prop) → Prop
abbrev TDA := EnvD → Mem → (List W → Mem → Prop) → Prop
abbrev TDT := EnvD → Mem → (Bool → Mem → Prop) → Prop
/-- a thing that is raised: its class, its fields -/
structure Ex where
  cls : Value
  fs : List (Str × PyData)
abbrev REx := Ex → EnvD → Mem → Prop
def XRel (K : PySem.W.Frag) (F : Hp) (cls : Value) (d : Option Addr) (x : Ex) : Prop := cls = x.cls ∧ FX K F d x.fs
def XOk (K : PySem.W.Frag) (F H : Hp) (M : Mem) (Wx : WX) (RE : REx) : Prop :=
  ∀ F' H' M' σ ρ cls d x, Gr F H M F' H' M' → Rl K F' H' M' → RelS K F' σ ρ → XRel K F' cls d x → RE x ρ M' → Wx cls d σ H'
theorem XOk.mono {K : PySem.W.Frag} {F H F' H' : Hp} {M M' : Mem} {Wx : WX} {RE : REx} (x : XOk K F H M Wx RE) (g : Gr F H M F' H' M') : XOk K F' H' M' Wx RE :=
  fun F2 H2 M2 σ ρ cls d e g2 => x F2 H2 M2 σ ρ cls d e (g.trans g2)
/-- what is wanted of a value, there as here -/
abbrev Kt (K : PySem.W.Frag) (F H : Hp) (M : Mem) (R : W → Mem → Prop) (Q : VK) : Prop := ∀ v H' F' M' x, Rl K F' H' M' → Gr F H M F' H' M' → RW K F' v x → R x M' → Q v H'
def SE (K : PySem.W.Frag) (Wx : WX) (RE : REx) (t : TE) (T : TDE) : Prop :=
  ∀ F H M σ ρ R Q, Rl K F H M → XOk K F H M Wx RE → RelS K F σ ρ → T ρ M R → Kt K F H M R Q → t σ H Q
def ST (K : PySem.W.Frag) (Wx : WX) (RE : REx) (t : TT) (T : TDT) : Prop :=
  ∀ F H M σ ρ (R : Bool → Mem → Prop) (Q : Bool → Hp → Prop), Rl K F H M → XOk K F H M Wx RE → RelS K F σ ρ → T ρ M R → (∀ b H' F' M', Rl K F' H' M' → Gr F H M F' H' M' → R b M' → Q b H') → t σ H Q
def SA (K : PySem.W.Frag) (Wx : WX) (RE : REx) (t : TA) (T : TDA) : Prop :=
  ∀ F H M σ ρ (R : List W → Mem → Prop) (Q : List V → Hp → Prop), Rl K F H M → XOk K F H M Wx RE → RelS K F σ ρ → T ρ M R → (∀ vs H' F' M' xs, Rl K F' H' M' → Gr F H M F' H' M' → RWs K F' vs xs → R xs M' → Q vs H') → t σ H Q
abbrev F2 := W → W → Mem → (W → Mem → Prop) → Prop
abbrev FL := List W → Mem → (W → Mem → Prop) → Prop
def SO (K : PySem.W.Frag) (r : R2) (f : F2) : Prop := ∀ F H M v u x y R Q, Rl K F H M → RW K F v x → RW K F u y → f x y M R → Kt K F H M R Q → r v u H Q
def SU (K : PySem.W.Frag) (r : V → Hp → VK → Prop) (f : W → Mem → (W → Mem → Prop) → Prop) : Prop := ∀ F H M v x R Q, Rl K F H M → RW K F v x → f x M R → Kt K F H M R Q → r v H Q
def SC (K : PySem.W.Frag) (r : List V → Hp → VK → Prop) (f : FL) : Prop := ∀ F H M vs xs R Q, Rl K F H M → RWs K F vs xs → f xs M R → Kt K F H M R Q → r vs H Q
inductive gO {α : Type} (o : Option α) (k : α → Prop) : Prop where
  | mk (a : α) (h : o = some a) (q : k a) : gO o k
theorem gO_of {α : Type} {o : Option α} {k : α → Prop} (h : gO o k) : ∃ a, o = some a ∧ k a := by
  cases h with
  | mk a h q => exact ⟨a, h, q⟩
theorem gO_i {α : Type} {o : Option α} {a : α} {k : α → Prop} (h : o = some a) (q : k a) : gO o k := .mk a h q
/-! ### what a value is -/
@[reducible] def gI (x : W) (k : Int → Prop) : Prop := match x with | .d (.int a) => k a | _ => False
@[reducible] def gS (x : W) (k : Str → Prop) : Prop := match x with | .d (.str a) => k a | _ => False
@[reducible] def gB (x : W) (k : Bool → Prop) : Prop := match x with | .d (.bool a) => k a | _ => False
@[reducible] def gT (x : W) (k : List PyData → Prop) : Prop := match x with | .d (.tuple a) => k a | _ => False
@[reducible] def gL (x : W) (k : List PyData → Prop) : Prop := match x with | .d (.list a) => k a | _ => False
@[reducible] def gD (x : W) (k : PyData → Prop) : Prop := match x with | .d a => k a | _ => False
@[reducible] def gR (x : W) (k : Addr → Prop) : Prop := match x with | .r a => k a | _ => False
theorem gI_of {x : W} {k : Int → Prop} (h : gI x k) : ∃ a, x = .d (.int a) ∧ k a := by
  unfold gI at h
  split at h
  · exact ⟨_, rfl, h⟩
  · exact h.elim
theorem gS_of {x : W} {k : Str → Prop} (h : gS x k) : ∃ a, x = .d (.str a) ∧ k a := by
  unfold gS at h
  split at h
  · exact ⟨_, rfl, h⟩
  · exact h.elim
theorem gB_of {x : W} {k : Bool → Prop} (h : gB x k) : ∃ a, x = .d (.bool a) ∧ k a := by
  unfold gB at h
  split at h
  · exact ⟨_, rfl, h⟩
  · exact h.elim
theorem gT_of {x : W} {k : List PyData → Prop} (h : gT x k) : ∃ a, x = .d (.tuple a) ∧ k a := by
  unfold gT at h
  split at h
  · exact ⟨_, rfl, h⟩
  · exact h.elim
theorem gL_of {x : W} {k : List PyData → Prop} (h : gL x k) : ∃ a, x = .d (.list a) ∧ k a := by
  unfold gL at h
  split at h
  · exact ⟨_, rfl, h⟩
  · exact h.elim
theorem gD_of {x : W} {k : PyData → Prop} (h : gD x k) : ∃ a, x = .d a ∧ k a := by
  unfold gD at h
  split at h
  · exact ⟨_, rfl, h⟩
  · exact h.elim
theorem gR_of {x : W} {k : Addr → Prop} (h : gR x k) : ∃ a, x = .r a ∧ k a := by
  unfold gR at h
  split at h
  · exact ⟨_, rfl, h⟩
  · exact h.elim
section
variable {K : PySem.W.Frag} {F H : Hp} {M : Mem} {v : V}
theorem RW.int {a : Int} (h : RW K F v (.d (.int a))) : v = .int a := by cases h with | d h => cases h; rfl
theorem RW.str {a : Str} (h : RW K F v (.d (.str a))) : v = .str a := by cases h with | d h => cases h; rfl
theorem RW.bl {a : Bool} (h : RW K F v (.d (.bool a))) : v = .bl a := by cases h with | d h => cases h; rfl
theorem RW.non (h : RW K F v (.d .none)) : v = .non := by cases h with | d h => cases h; rfl
theorem RW.dx {x : PyData} (h : RW K F v (.d x)) : Dx K F v x := by cases h with | d h => exact h
theorem RW.ref {a : Addr} (h : RW K F v (.r a)) : v = .ref a := by cases h; rfl
theorem RW.tup {ds : List PyData} (h : RW K F v (.d (.tuple ds))) : ∃ a xs, v = .ref a ∧ SqT K F a xs ∧ DxL K F xs ds := by
  cases h with
  | d h => cases h with | tup h1 h2 => exact ⟨_, _, rfl, h1, h2⟩
theorem RW.lst {ds : List PyData} (h : RW K F v (.d (.list ds))) : ∃ a xs, v = .ref a ∧ F a = some (.lst xs) ∧ DxL K F xs ds := by
  cases h with
  | d h => cases h with | lst h1 h2 => exact ⟨_, _, rfl, h1, h2⟩
theorem Rl.lst (h : Rl K F H M) {a : Addr} {ws : List W} (e : M a = some (.lst ws)) : ∃ vs, H a = some (.lst vs) ∧ RWs K F vs ws := by
  obtain ⟨_, h1, vs, rfl, h2⟩ := h.at_ a _ e
  exact ⟨vs, h1, h2⟩
/-- a new tuple of data -/
theorem Rl.tup (h : Rl K F H M) {p : Addr} {xs : List V} {ds : List PyData} (e : H p = none) (r : DxL K F xs ds) : Rl K (upd F p (.tup xs)) (upd H p (.tup xs)) M ∧ Gr F H M (upd F p (.tup xs)) (upd H p (.tup xs)) M ∧ RW K (upd F p (.tup xs)) (.ref p) (.d (.tuple ds)) := by
  obtain ⟨h1, h2⟩ := h.fresh (u := .tup xs) e
  exact ⟨h1, h2, .d (.tup (.inl (.inl upd_same)) (DxL.mono h2.ff _ _ r))⟩
theorem Rl.list (h : Rl K F H M) {p : Addr} {xs : List V} {ds : List PyData} (e : H p = none) (r : DxL K F xs ds) : Rl K (upd F p (.lst xs)) (upd H p (.lst xs)) M ∧ Gr F H M (upd F p (.lst xs)) (upd H p (.lst xs)) M ∧ RW K (upd F p (.lst xs)) (.ref p) (.d (.list ds)) := by
  obtain ⟨h1, h2⟩ := h.fresh (u := .lst xs) e
  exact ⟨h1, h2, .d (.lst upd_same (DxL.mono h2.ff _ _ r))⟩
end
section
variable {K : PySem.W.Frag} {Wx : WX} {RE : REx}
/-! ### names, constants -/
@[reducible] def nmT (i : Nat) : TDE := fun ρ M R => match slot ρ i with | some x => R x M | none => False
@[reducible] def cT (x : W) : TDE := fun _ M R => R x M
theorem se_nm {i : Nat} : SE K Wx RE (tVar i) (nmT i) := fun F H M σ ρ R Q hr hx hs ht k => by
  unfold nmT at ht
  cases c : slot ρ i with
  | none => rw [c] at ht; exact ht.elim
  | some x =>
    rw [c] at ht
    obtain ⟨v, h1, h2⟩ := hs.at_ i x c
    exact ⟨v, h1, k v H F M x hr .refl h2 ht⟩
theorem se_int {i : Int} : SE K Wx RE (tC (.int i)) (cT (.d (.int i))) := fun F H M σ ρ R Q hr hx hs ht k => k _ H F M _ hr .refl (.d (.int i)) ht
theorem se_str {i : Str} : SE K Wx RE (tC (.str i)) (cT (.d (.str i))) := fun F H M σ ρ R Q hr hx hs ht k => k _ H F M _ hr .refl (.d (.str i)) ht
theorem se_bl {i : Bool} : SE K Wx RE (tC (.bl i)) (cT (.d (.bool i))) := fun F H M σ ρ R Q hr hx hs ht k => k _ H F M _ hr .refl (.d (.bl i)) ht
theorem se_non : SE K Wx RE (tC .non) (cT (.d .none)) := fun F H M σ ρ R Q hr hx hs ht k => k _ H F M _ hr .refl (.d .non) ht
theorem se_o {v : V} : SE K Wx RE (tC v) (cT (.o v)) := fun F H M σ ρ R Q hr hx hs ht k => k _ H F M _ hr .refl (.o v) ht
/-! ### operators -/
@[reducible] def opT (f : F2) (Ta Tb : TDE) : TDE := fun ρ M R => Ta ρ M fun x M1 => Tb ρ M1 fun y M2 => f x y M2 R
@[reducible] def unT (f : W → Mem → (W → Mem → Prop) → Prop) (Ta : TDE) : TDE := fun ρ M R => Ta ρ M fun x M1 => f x M1 R
theorem se_op {r : R2} {f : F2} {ta tb : TE} {Ta Tb : TDE} (ho : SO K r f) (ha : SE K Wx RE ta Ta) (hb : SE K Wx RE tb Tb) : SE K Wx RE (tOp r ta tb) (opT f Ta Tb) := fun F H M σ ρ R Q hr hx hs ht k =>
  ha F H M σ ρ _ _ hr hx hs ht fun v H1 F1 M1 x r1 g1 rx ht1 => hb F1 H1 M1 σ ρ _ _ r1 (hx.mono g1) (hs.mono g1.ff) ht1 fun u H2 F2 M2 y r2 g2 ry ht2 =>
    ho F2 H2 M2 v u x y R Q r2 (rx.mono g2.ff) ry ht2 fun w H3 F3 M3 z r3 g3 rz hz => k w H3 F3 M3 z r3 ((g1.trans g2).trans g3) rz hz
theorem se_un {r : V → Hp → VK → Prop} {f : W → Mem → (W → Mem → Prop) → Prop} {ta : TE} {Ta : TDE} (ho : SU K r f) (ha : SE K Wx RE ta Ta) : SE K Wx RE (tUn r ta) (unT f Ta) := fun F H M σ ρ R Q hr hx hs ht k =>
  ha F H M σ ρ _ _ hr hx hs ht fun v H1 F1 M1 x r1 g1 rx ht1 => ho F1 H1 M1 v x R Q r1 rx ht1 fun w H3 F3 M3 z r3 g3 rz hz => k w H3 F3 M3 z r3 (g1.trans g3) rz hz
@[reducible] def fI (g : Int → Int → PyData) : F2 := fun x y M R => gI x fun a => gI y fun b => R (.d (g a b)) M
theorem so_I {gv : Int → Int → V} {g : Int → Int → PyData} (h : ∀ F i j, Dx K F (gv i j) (g i j)) : SO K (rI0 gv) (fI g) := fun F H M v u x y R Q hr rx ry hf k => by
  obtain ⟨a, rfl, hf1⟩ := gI_of hf
  obtain ⟨b, rfl, hf2⟩ := gI_of hf1
  exact ⟨a, b, rx.int, ry.int, k _ H F M _ hr .refl (.d (h F a b)) hf2⟩
@[reducible] def fAdd : F2 := fI fun a b => .int (a + b)
@[reducible] def fSub : F2 := fI fun a b => .int (a - b)
@[reducible] def fLt : F2 := fI fun a b => .bool (decide (a < b))
@[reducible] def fLe : F2 := fI fun a b => .bool (decide (a ≤ b))
@[reducible] def fGt : F2 := fI fun a b => .bool (decide (b < a))
@[reducible] def fGe : F2 := fI fun a b => .bool (decide (b ≤ a))
theorem so_add : SO K (rI0 fun i j => .int (i + j)) fAdd := so_I fun _ _ _ => .int _
theorem so_sub : SO K (rI0 fun i j => .int (i - j)) fSub := so_I fun _ _ _ => .int _
theorem so_lt : SO K (rI0 fun i j => .bl (decide (i < j))) fLt := so_I fun _ _ _ => .bl _
theorem so_le : SO K (rI0 fun i j => .bl (decide (i ≤ j))) fLe := so_I fun _ _ _ => .bl _
theorem so_gt : SO K (rI0 fun i j => .bl (decide (j < i))) fGt := so_I fun _ _ _ => .bl _
theorem so_ge : SO K (rI0 fun i j => .bl (decide (j ≤ i))) fGe := so_I fun _ _ _ => .bl _
@[reducible] def fNeg : W → Mem → (W → Mem → Prop) → Prop := fun x M R => gI x fun a => R (.d (.int (-a))) M
theorem su_neg : SU K (rU fun i => .int (-i)) fNeg := fun F H M v x R Q hr rx hf k => by
  obtain ⟨a, rfl, hf⟩ := gI_of hf
  exact ⟨a, rx.int, k _ H F M _ hr .refl (.d (.int _)) hf⟩
/-- texts -/
@[reducible] def fS (g : Str → Str → PyData) : F2 := fun x y M R => gS x fun a => gS y fun b => R (.d (g a b)) M
@[reducible] def fLeS : F2 := fS fun i j => .bool (!decide (j.cps.toList < i.cps.toList))
theorem so_leS : SO K (fun x y H Q => ∃ i j, x = V.str i ∧ y = V.str j ∧ Q (.bl (!decide (j.cps.toList < i.cps.toList))) H) fLeS := fun F H M v u x y R Q hr rx ry hf k => by
  obtain ⟨a, rfl, hf1⟩ := gS_of hf
  obtain ⟨b, rfl, hf2⟩ := gS_of hf1
  exact ⟨a, b, rx.str, ry.str, k _ H F M _ hr .refl (.d (.bl _)) hf2⟩
/-- one sign in a text -/
@[reducible] def gC (x : W) (k : Nat → Prop) : Prop := gS x fun a => ∃ c, a = ⟨#[c]⟩ ∧ k c
/-! ### is None -/
@[reducible] def isN : W → Option Bool
  | .d .none => some true
  | .d _ => some false
  | .r _ => some false
  | .o _ => none
  | .x _ _ _ _ => some false
@[reducible] def fIsN (neg : Bool) : F2 := fun x y M R => y = .d .none ∧ gO (isN x) fun b => R (.d (.bool (ng neg b))) M
theorem isN_of {F : Hp} {v : V} {x : W} {b : Bool} (r : RW K F v x) (h : isN x = some b) : decide (v = .non) = b := by
  cases r with
  | d r => cases r <;> (cases h; simp)
  | r a => cases h; simp
  | o v => cases h
  | x _ => cases h; simp
theorem so_isN : SO K (fun x y H Q => y = V.non ∧ Q (.bl (decide (x = .non))) H) (fIsN false) := fun F H M v u x y R Q hr rx ry hf k => by
  obtain ⟨rfl, hf⟩ := hf
  obtain ⟨b, c, hf⟩ := gO_of hf
  refine ⟨ry.non, ?_⟩
  rw [isN_of rx c]
  exact k _ H F M _ hr .refl (.d (.bl _)) hf
theorem so_notN : SO K (fun x y H Q => y = V.non ∧ Q (.bl (!decide (x = .non))) H) (fIsN true) := fun F H M v u x y R Q hr rx ry hf k => by
  obtain ⟨rfl, hf⟩ := hf
  obtain ⟨b, c, hf⟩ := gO_of hf
  refine ⟨ry.non, ?_⟩
  rw [isN_of rx c]
  exact k _ H F M _ hr .refl (.d (.bl _)) hf
/-! ### == -/
/-- a list of data that may change, or data, as data -/
@[reducible] def asD (M : Mem) (x : W) (k : PyData → Prop) : Prop := match x with
  | .d a => k a
  | .r a => ∃ ds, M a = some (.lst (ds.map W.d)) ∧ k (.list ds)
  | _ => False
theorem asD_of {F H : Hp} {M : Mem} {v : V} {x : W} {k : PyData → Prop} (hr : Rl K F H M) (r : RW K F v x) (h : asD M x k) : ∃ a F', Same F F' ∧ Same F' H ∧ Dx K F' v a ∧ k a := by
  cases x with
  | d a => exact ⟨a, F, Same.refl _, hr.fh, r.dx, h⟩
  | r a =>
    obtain ⟨ds, h1, h2⟩ := h
    obtain ⟨F', r', g', d'⟩ := hr.freeze h1
    rw [r.ref]
    exact ⟨_, F', g'.ff, r'.fh, d', h2⟩
  | o v => exact h.elim
  | x a C dd fs => exact h.elim
def eqOk (d : PyData) : Bool := !d.hasDict && SeqAt.shaped d
theorem eqOk_of {d : PyData} (h : eqOk d = true) : d.hasDict = false ∧ SeqAt.shaped d = true := by
  unfold eqOk at h
  rw [Bool.and_eq_true] at h
  exact ⟨by simpa using h.1, h.2⟩
@[reducible] def fEqD (neg : Bool) : F2 := fun x y M R => asD M x fun a => asD M y fun b => (eqOk a = true ∧ eqOk b = true) ∧ R (.d (.bool (ng neg (PyData.eqv a b)))) M
theorem so_eqD : SO K (rEqD K) (fEqD false) := fun F H M v u x y R Q hr rx ry hf k => by
  obtain ⟨a, F1, e1, f1, da, hf⟩ := asD_of hr rx hf
  obtain ⟨b, F2, e2, f2, db, ⟨ha, hb⟩, hf⟩ := asD_of hr ry hf
  exact ⟨a, b, Dx.dp _ _ (Dx.mono f1 _ _ da) (eqOk_of ha).1, Dx.dp _ _ (Dx.mono f2 _ _ db) (eqOk_of hb).1, (eqOk_of ha).2, (eqOk_of hb).2, k _ H F M _ hr .refl (.d (.bl _)) hf⟩
theorem so_neD : SO K (rNeD K) (fEqD true) := fun F H M v u x y R Q hr rx ry hf k => by
  obtain ⟨a, F1, e1, f1, da, hf⟩ := asD_of hr rx hf
  obtain ⟨b, F2, e2, f2, db, ⟨ha, hb⟩, hf⟩ := asD_of hr ry hf
  exact ⟨a, b, Dx.dp _ _ (Dx.mono f1 _ _ da) (eqOk_of ha).1, Dx.dp _ _ (Dx.mono f2 _ _ db) (eqOk_of hb).1, (eqOk_of ha).2, (eqOk_of hb).2, k _ H F M _ hr .refl (.d (.bl _)) hf⟩
/-- plain values: numbers, texts, truths, None -/
@[reducible] def eqS : PyData → PyData → Option Bool
  | .int a, .int b => some (decide (a = b))
  | .str a, .str b => some (decide (a = b))
  | .bool a, .bool b => some (decide (a = b))
  | .none, .none => some true
  | .none, .int _ => some false
  | .none, .str _ => some false
  | .none, .bool _ => some false
  | .int _, .none => some false
  | .str _, .none => some false
  | .bool _, .none => some false
  | .int _, .str _ => some false
  | .str _, .int _ => some false
  | .bool _, .str _ => some false
  | .str _, .bool _ => some false
  | _, _ => none
@[reducible] def fEqS (neg : Bool) : F2 := fun x y M R => gD x fun a => gD y fun b => gO (eqS a b) fun c => R (.d (.bool (ng neg c))) M
theorem eqS_of {F : Hp} {v u : V} {a b : PyData} {c : Bool} (ra : Dx K F v a) (rb : Dx K F u b) (h : eqS a b = some c) : scal v u = true ∧ decide (v = u) = c := by
  cases ra <;> cases rb <;> first | (cases h; done) | (simp only [eqS, Option.some.injEq] at h; subst h; refine ⟨rfl, ?_⟩; simp)
theorem so_eqS : SO K rEq (fEqS false) := fun F H M v u x y R Q hr rx ry hf k => by
  obtain ⟨a, rfl, hf1⟩ := gD_of hf
  obtain ⟨b, rfl, hf2⟩ := gD_of hf1
  obtain ⟨e, c, hf2⟩ := gO_of hf2
  obtain ⟨h1, h2⟩ := eqS_of rx.dx ry.dx c
  refine ⟨h1, ?_⟩
  rw [h2]
  exact k _ H F M _ hr .refl (.d (.bl _)) hf2
theorem so_neS : SO K rNe (fEqS true) := fun F H M v u x y R Q hr rx ry hf k => by
  obtain ⟨a, rfl, hf1⟩ := gD_of hf
  obtain ⟨b, rfl, hf2⟩ := gD_of hf1
  obtain ⟨e, c, hf2⟩ := gO_of hf2
  obtain ⟨h1, h2⟩ := eqS_of rx.dx ry.dx c
  refine ⟨h1, ?_⟩
  rw [h2]
  exact k _ H F M _ hr .refl (.d (.bl _)) hf2
end
end Tl
set_option Elab.async false
set_option linter.all false
set_option maxRecDepth 100000
set_option maxHeartbeats 4000000
namespace Tl
open PySem L2
section
variable {K : PySem.W.Frag} {Wx : WX} {RE : REx}
/-! ### tests -/
@[reducible] def tbT (T : TDE) : TDT := fun ρ M R => T ρ M fun x M1 => gB x fun c => R c M1
@[reducible] def andT (T U : TDT) : TDT := fun ρ M R => T ρ M fun c M1 => IfB c (U ρ M1 R) (R false M1)
@[reducible] def orT (T U : TDT) : TDT := fun ρ M R => T ρ M fun c M1 => IfB c (R true M1) (U ρ M1 R)
@[reducible] def notT (T : TDT) : TDT := fun ρ M R => T ρ M fun c M1 => R (!c) M1
@[reducible] def andV (T U : TDE) : TDE := fun ρ M R => T ρ M fun x M1 => gB x fun c => IfB c (U ρ M1 R) (R (.d (.bool false)) M1)
@[reducible] def orV (T U : TDE) : TDE := fun ρ M R => T ρ M fun x M1 => gB x fun c => IfB c (R (.d (.bool true)) M1) (U ρ M1 R)
@[reducible] def notV (T : TDE) : TDE := fun ρ M R => T ρ M fun x M1 => gB x fun c => R (.d (.bool (!c))) M1
@[reducible] def ifT (T : TDT) (A B : TDE) : TDE := fun ρ M R => T ρ M fun c M1 => IfB c (A ρ M1 R) (B ρ M1 R)
theorem st_val {t : TE} {T : TDE} (h : SE K Wx RE t T) : ST K Wx RE (tB t) (tbT T) := fun F H M σ ρ R Q hr hx hs ht k =>
  h F H M σ ρ _ _ hr hx hs ht fun v H1 F1 M1 x r1 g1 rx h1 => by
    obtain ⟨c, rfl, h2⟩ := gB_of h1
    exact ⟨c, rx.bl, k c H1 F1 M1 r1 g1 h2⟩
theorem st_test {t : TE} {T : TDE} (h : SE K Wx RE t T) : ST K Wx RE (tTest t) (tbT T) := fun F H M σ ρ R Q hr hx hs ht k =>
  h F H M σ ρ _ _ hr hx hs ht fun v H1 F1 M1 x r1 g1 rx h1 => by
    obtain ⟨c, rfl, h2⟩ := gB_of h1
    exact ⟨c, rx.bl, k c H1 F1 M1 r1 g1 h2⟩
theorem st_and {t u : TT} {T U : TDT} (ha : ST K Wx RE t T) (hb : ST K Wx RE u U) : ST K Wx RE (tAnd t u) (andT T U) := fun F H M σ ρ R Q hr hx hs ht k =>
  ha F H M σ ρ _ _ hr hx hs ht fun c H1 F1 M1 r1 g1 h1 => by
    have h1 := h1.ite
    by_cases hc : c = true
    · rw [if_pos hc] at h1 ⊢
      exact hb F1 H1 M1 σ ρ R Q r1 (hx.mono g1) (hs.mono g1.ff) h1 fun b H2 F2 M2 r2 g2 h2 => k b H2 F2 M2 r2 (g1.trans g2) h2
    · rw [if_neg hc] at h1 ⊢
      exact k _ H1 F1 M1 r1 g1 h1
theorem st_or {t u : TT} {T U : TDT} (ha : ST K Wx RE t T) (hb : ST K Wx RE u U) : ST K Wx RE (tOr t u) (orT T U) := fun F H M σ ρ R Q hr hx hs ht k =>
  ha F H M σ ρ _ _ hr hx hs ht fun c H1 F1 M1 r1 g1 h1 => by
    have h1 := h1.ite
    by_cases hc : c = true
    · rw [if_pos hc] at h1 ⊢
      exact k _ H1 F1 M1 r1 g1 h1
    · rw [if_neg hc] at h1 ⊢
      exact hb F1 H1 M1 σ ρ R Q r1 (hx.mono g1) (hs.mono g1.ff) h1 fun b H2 F2 M2 r2 g2 h2 => k b H2 F2 M2 r2 (g1.trans g2) h2
theorem st_not {t : TT} {T : TDT} (ha : ST K Wx RE t T) : ST K Wx RE (tNot t) (notT T) := fun F H M σ ρ R Q hr hx hs ht k =>
  ha F H M σ ρ _ _ hr hx hs ht fun c H1 F1 M1 r1 g1 h1 => k _ H1 F1 M1 r1 g1 h1
theorem se_and {t u : TE} {T U : TDE} (ha : SE K Wx RE t T) (hb : SE K Wx RE u U) : SE K Wx RE (tAndV t u) (andV T U) := fun F H M σ ρ R Q hr hx hs ht k =>
  ha F H M σ ρ _ _ hr hx hs ht fun v H1 F1 M1 x r1 g1 rx h1 => by
    obtain ⟨c, rfl, h2⟩ := gB_of h1
    refine ⟨c, rx.bl, ?_⟩
    have h2 := h2.ite
    by_cases hc : c = true
    · rw [if_pos hc] at h2 ⊢
      exact hb F1 H1 M1 σ ρ R Q r1 (hx.mono g1) (hs.mono g1.ff) h2 fun b H2 F2 M2 x r2 g2 h3 h4 => k b H2 F2 M2 x r2 (g1.trans g2) h3 h4
    · rw [if_neg hc] at h2 ⊢
      exact k _ H1 F1 M1 _ r1 g1 (.d (.bl _)) h2
theorem se_or {t u : TE} {T U : TDE} (ha : SE K Wx RE t T) (hb : SE K Wx RE u U) : SE K Wx RE (tOrV t u) (orV T U) := fun F H M σ ρ R Q hr hx hs ht k =>
  ha F H M σ ρ _ _ hr hx hs ht fun v H1 F1 M1 x r1 g1 rx h1 => by
    obtain ⟨c, rfl, h2⟩ := gB_of h1
    refine ⟨c, rx.bl, ?_⟩
    have h2 := h2.ite
    by_cases hc : c = true
    · rw [if_pos hc] at h2 ⊢
      exact k _ H1 F1 M1 _ r1 g1 (.d (.bl _)) h2
    · rw [if_neg hc] at h2 ⊢
      exact hb F1 H1 M1 σ ρ R Q r1 (hx.mono g1) (hs.mono g1.ff) h2 fun b H2 F2 M2 x r2 g2 h3 h4 => k b H2 F2 M2 x r2 (g1.trans g2) h3 h4
theorem se_not {t : TE} {T : TDE} (ha : SE K Wx RE t T) : SE K Wx RE (tNotV t) (notV T) := fun F H M σ ρ R Q hr hx hs ht k =>
  ha F H M σ ρ _ _ hr hx hs ht fun v H1 F1 M1 x r1 g1 rx h1 => by
    obtain ⟨c, rfl, h2⟩ := gB_of h1
    exact ⟨c, rx.bl, k _ H1 F1 M1 _ r1 g1 (.d (.bl _)) h2⟩
theorem se_if {t : TT} {T : TDT} {ta tb : TE} {A B : TDE} (hc : ST K Wx RE t T) (ha : SE K Wx RE ta A) (hb : SE K Wx RE tb B) : SE K Wx RE (tIf t ta tb) (ifT T A B) := fun F H M σ ρ R Q hr hx hs ht k =>
  hc F H M σ ρ _ _ hr hx hs ht fun c H1 F1 M1 r1 g1 h1 => by
    have h1 := h1.ite
    by_cases hc : c = true
    · rw [if_pos hc] at h1 ⊢
      exact ha F1 H1 M1 σ ρ R Q r1 (hx.mono g1) (hs.mono g1.ff) h1 fun b H2 F2 M2 x r2 g2 h3 h4 => k b H2 F2 M2 x r2 (g1.trans g2) h3 h4
    · rw [if_neg hc] at h1 ⊢
      exact hb F1 H1 M1 σ ρ R Q r1 (hx.mono g1) (hs.mono g1.ff) h1 fun b H2 F2 M2 x r2 g2 h3 h4 => k b H2 F2 M2 x r2 (g1.trans g2) h3 h4
@[reducible] def chT (f f' : F2) (Ta Tb Tc : TDE) : TDE := fun ρ M R => Ta ρ M fun x M1 => Tb ρ M1 fun y M2 => f x y M2 fun z M3 => gB z fun c => IfB c (Tc ρ M3 fun w M4 => f' y w M4 R) (R (.d (.bool false)) M3)
theorem se_chain {r r' : R2} {f f' : F2} {ta tb tc : TE} {Ta Tb Tc : TDE} (ho : SO K r f) (ho' : SO K r' f') (ha : SE K Wx RE ta Ta) (hb : SE K Wx RE tb Tb) (hc : SE K Wx RE tc Tc) : SE K Wx RE (tChain r r' ta tb tc) (chT f f' Ta Tb Tc) := fun F H M σ ρ R Q hr hx hs ht k =>
  ha F H M σ ρ _ _ hr hx hs ht fun v H1 F1 M1 x r1 g1 rx ht1 => hb F1 H1 M1 σ ρ _ _ r1 (hx.mono g1) (hs.mono g1.ff) ht1 fun u H2 F2 M2 y r2 g2 ry ht2 =>
    ho F2 H2 M2 v u x y _ _ r2 (rx.mono g2.ff) ry ht2 fun w H3 F3 M3 z r3 g3 rz hz => by
      obtain ⟨c, rfl, h2⟩ := gB_of hz
      refine ⟨c, rz.bl, ?_⟩
      have g := (g1.trans g2).trans g3
      have h2 := h2.ite
      by_cases hc' : c = true
      · rw [if_pos hc'] at h2 ⊢
        exact hc F3 H3 M3 σ ρ _ _ r3 (hx.mono g) (hs.mono g.ff) h2 fun w4 H4 F4 M4 z4 r4 g4 rz4 h4 =>
          ho' F4 H4 M4 u w4 y z4 R Q r4 (ry.mono (g3.trans g4).ff) rz4 h4 fun w5 H5 F5 M5 z5 r5 g5 rz5 h5 => k w5 H5 F5 M5 z5 r5 ((g.trans g4).trans g5) rz5 h5
      · rw [if_neg hc'] at h2 ⊢
        exact k _ H3 F3 M3 _ r3 g (.d (.bl _)) h2
/-! ### arguments, displays -/
def SAn (K : PySem.W.Frag) (Wx : WX) (RE : REx) (n : Nat) (t : TA) (T : TDA) : Prop :=
  ∀ F H M σ ρ (R : List W → Mem → Prop) (Q : List V → Hp → Prop), Rl K F H M → XOk K F H M Wx RE → RelS K F σ ρ → T ρ M R → (∀ vs H' F' M' xs, Rl K F' H' M' → Gr F H M F' H' M' → RWs K F' vs xs → xs.length = n → R xs M' → Q vs H') → t σ H Q
@[reducible] def nilA : TDA := fun _ M R => R [] M
@[reducible] def consA (T : TDE) (U : TDA) : TDA := fun ρ M R => T ρ M fun x M1 => U ρ M1 fun xs M2 => R (x :: xs) M2
theorem sa_nil : SAn K Wx RE 0 tNil nilA := fun F H M σ ρ R Q hr hx hs ht k => k [] H F M [] hr .refl .nil rfl ht
theorem sa_cons {n : Nat} {t : TE} {u : TA} {T : TDE} {U : TDA} (ha : SE K Wx RE t T) (hb : SAn K Wx RE n u U) : SAn K Wx RE (n + 1) (tCons t u) (consA T U) := fun F H M σ ρ R Q hr hx hs ht k =>
  ha F H M σ ρ _ _ hr hx hs ht fun v H1 F1 M1 x r1 g1 rx h1 => hb F1 H1 M1 σ ρ _ _ r1 (hx.mono g1) (hs.mono g1.ff) h1 fun vs H2 F2 M2 xs r2 g2 rxs hl h2 =>
    k (v :: vs) H2 F2 M2 (x :: xs) r2 (g1.trans g2) (.cons (rx.mono g2.ff) rxs) (by rw [List.length_cons, hl]) h2
/-- all of them data -/
inductive gDs (xs : List W) (k : List PyData → Prop) : Prop where
  | mk (ds : List PyData) (h : xs = ds.map W.d) (q : k ds)
theorem gDs_of {xs : List W} {k : List PyData → Prop} (h : gDs xs k) : ∃ ds, xs = ds.map W.d ∧ k ds := by
  cases h with
  | mk ds h q => exact ⟨ds, h, q⟩
theorem map_injD {α β : Type} {f : α → β} (hf : ∀ a b, f a = f b → a = b) : ∀ {xs ys : List α}, xs.map f = ys.map f → xs = ys
  | [], [], _ => rfl
  | [], _ :: _, h => by cases h
  | _ :: _, [], h => by cases h
  | x :: xs, y :: ys, h => by
    rw [List.map_cons, List.map_cons] at h
    injection h with h1 h2
    rw [hf _ _ h1, map_injD hf h2]
theorem gDs_map {ds : List PyData} {k : List PyData → Prop} : gDs (ds.map W.d) k = k ds := propext ⟨fun h => by
  obtain ⟨es, e, q⟩ := gDs_of h
  rw [map_injD (fun a b h => by injection h) e]
  exact q, fun q => .mk ds rfl q⟩
theorem gDs_n {k : List PyData → Prop} (q : k []) : gDs [] k := .mk [] rfl q
theorem gDs_c {a : PyData} {r : List W} {k : List PyData → Prop} (h : gDs r fun ds => k (a :: ds)) : gDs (.d a :: r) k := by
  obtain ⟨ds, rfl, q⟩ := gDs_of h
  exact .mk (a :: ds) rfl q
@[reducible] def tupT (T : TDA) : TDE := fun ρ M R => T ρ M fun xs M1 => gDs xs fun ds => R (.d (.tuple ds)) M1
@[reducible] def lsfT (T : TDA) : TDE := fun ρ M R => T ρ M fun xs M1 => gDs xs fun ds => R (.d (.list ds)) M1
@[reducible] def lstT (T : TDA) : TDE := fun ρ M R => T ρ M fun xs M1 => ∀ p, M1 p = none → R (.r p) (mset M1 p (.lst xs))
theorem se_tup {n : Nat} {t : TA} {T : TDA} (h : SAn K Wx RE n t T) (hn : n ≤ 1000 := by decide) : SE K Wx RE (tTup t) (tupT T) := fun F H M σ ρ R Q hr hx hs ht k =>
  h F H M σ ρ _ _ hr hx hs ht fun vs H1 F1 M1 xs r1 g1 rxs hl h1 => by
    obtain ⟨ds, rfl, h2⟩ := gDs_of h1
    refine ⟨by rw [rxs.len, hl]; exact sz1000 hn, fun p hp => ?_⟩
    obtain ⟨r2, g2, rz⟩ := r1.tup hp rxs.undat
    exact k _ _ _ _ _ r2 (g1.trans g2) rz h2
theorem se_lsf {n : Nat} {t : TA} {T : TDA} (h : SAn K Wx RE n t T) (hn : n ≤ 1000 := by decide) : SE K Wx RE (tLst t) (lsfT T) := fun F H M σ ρ R Q hr hx hs ht k =>
  h F H M σ ρ _ _ hr hx hs ht fun vs H1 F1 M1 xs r1 g1 rxs hl h1 => by
    obtain ⟨ds, rfl, h2⟩ := gDs_of h1
    refine ⟨by rw [rxs.len, hl]; exact sz1000 hn, fun p hp => ?_⟩
    obtain ⟨r2, g2, rz⟩ := r1.list hp rxs.undat
    exact k _ _ _ _ _ r2 (g1.trans g2) rz h2
theorem se_lst {n : Nat} {t : TA} {T : TDA} (h : SAn K Wx RE n t T) (hn : n ≤ 1000 := by decide) : SE K Wx RE (tLst t) (lstT T) := fun F H M σ ρ R Q hr hx hs ht k =>
  h F H M σ ρ _ _ hr hx hs ht fun vs H1 F1 M1 xs r1 g1 rxs hl h1 => by
    refine ⟨by rw [rxs.len, hl]; exact sz1000 hn, fun p hp => ?_⟩
    obtain ⟨r2, g2⟩ := r1.born (u := .lst vs) (o := .lst xs) hp ⟨vs, rfl, rxs⟩
    exact k _ _ _ _ _ r2 (g1.trans g2) (.r p) (h1 p (r1.new hp))
/-! ### items -/
/-- the items of a list, data or not -/
@[reducible] def gW (M : Mem) (x : W) (k : List W → Prop) : Prop := match x with
  | .d (.list ds) => k (ds.map W.d)
  | .r a => ∃ ws, M a = some (.lst ws) ∧ k ws
  | _ => False
theorem gW_of {F H : Hp} {M : Mem} {v : V} {x : W} {k : List W → Prop} (hr : Rl K F H M) (r : RW K F v x) (h : gW M x k) : ∃ a vs ws, v = .ref a ∧ H a = some (.lst vs) ∧ RWs K F vs ws ∧ k ws := by
  unfold gW at h
  split at h
  · obtain ⟨a, xs, rfl, h1, h2⟩ := r.lst
    exact ⟨a, xs, _, rfl, hr.fh _ _ h1, .dat h2, h⟩
  · obtain ⟨ws, h1, h2⟩ := h
    obtain ⟨vs, h3, h4⟩ := hr.lst h1
    exact ⟨_, vs, ws, r.ref, h3, h4, h2⟩
  · exact h.elim
theorem atI_map {α β : Type} (f : α → β) (xs : List α) (i : Int) : atI (xs.map f) i = (atI xs i).map f := by
  unfold atI
  rw [List.length_map]
  cases ixN xs.length i with
  | none => rfl
  | some j => simp
theorem atI_rw {F : Hp} {vs : List V} {xs : List W} {i : Int} {x : W} (r : RWs K F vs xs) (h : atI xs i = some x) : ∃ v, atI vs i = some v ∧ RW K F v x := by
  unfold atI at h ⊢
  rw [r.len]
  cases c : ixN xs.length i with
  | none => rw [c] at h; cases h
  | some j => rw [c] at h; exact r.got h
theorem atI_dx {F : Hp} {vs : List V} {ds : List PyData} {i : Int} {d : PyData} (r : DxL K F vs ds) (h : atI ds i = some d) : ∃ v, atI vs i = some v ∧ Dx K F v d := by
  unfold atI at h ⊢
  rw [r.len]
  cases c : ixN ds.length i with
  | none => rw [c] at h; cases h
  | some j => rw [c] at h; exact r.got h
@[reducible] def fIxT : F2 := fun x y M R => gT x fun ds => gI y fun i => gO (atI ds i) fun d => R (.d d) M
@[reducible] def fIxL : F2 := fun x y M R => gW M x fun ws => gI y fun i => gO (atI ws i) fun w => R w M
@[reducible] def fIxS : F2 := fun x y M R => gS x fun z => gI y fun i => z.length ≤ sizeLine ∧ gO (atI z.cps.toList i) fun c => R (.d (.str ⟨#[c]⟩)) M
theorem so_ixT : SO K (rIxT K) fIxT := fun F H M v u x y R Q hr rx ry hf k => by
  obtain ⟨ds, rfl, h1⟩ := gT_of hf
  obtain ⟨i, rfl, h2⟩ := gI_of h1
  obtain ⟨d, h3, h4⟩ := gO_of h2
  obtain ⟨a, xs, rfl, h5, h6⟩ := rx.tup
  obtain ⟨w, h7, h8⟩ := atI_dx h6 h3
  exact ⟨a, xs, i, w, rfl, ry.int, same_t hr.fh h5, h7, k _ H F M _ hr .refl (.d h8) h4⟩
theorem so_ixL : SO K (rIxL K) fIxL := fun F H M v u x y R Q hr rx ry hf k => by
  obtain ⟨a, vs, ws, rfl, h1, h2, h3⟩ := gW_of hr rx hf
  obtain ⟨i, rfl, h4⟩ := gI_of h3
  obtain ⟨w, h5, h6⟩ := gO_of h4
  obtain ⟨u2, h7, h8⟩ := atI_rw h2 h5
  exact ⟨a, vs, i, u2, rfl, ry.int, SqL.of h1, h7, k _ H F M _ hr .refl h8 h6⟩
theorem so_ixS : SO K rIxS fIxS := fun F H M v u x y R Q hr rx ry hf k => by
  obtain ⟨z, rfl, h1⟩ := gS_of hf
  obtain ⟨i, rfl, hz, h2⟩ := gI_of h1
  obtain ⟨c, h3, h4⟩ := gO_of h2
  exact ⟨z, i, c, rx.str, ry.int, hz, h3, k _ H F M _ hr .refl (.d (.str _)) h4⟩
/-! ### slices -/
abbrev TDO := EnvD → Mem → (Option Int → Mem → Prop) → Prop
def SPt (K : PySem.W.Frag) (Wx : WX) (RE : REx) (t : TO) (T : TDO) : Prop :=
  ∀ F H M σ ρ (R : Option Int → Mem → Prop) (Q : Option Int → Hp → Prop), Rl K F H M → XOk K F H M Wx RE → RelS K F σ ρ → T ρ M R → (∀ o H' F' M', Rl K F' H' M' → Gr F H M F' H' M' → R o M' → Q o H') → t σ H Q
@[reducible] def noP : TDO := fun _ M R => R none M
@[reducible] def someP (T : TDE) : TDO := fun ρ M R => T ρ M fun x M1 => gI x fun i => R (some i) M1
theorem sp_no : SPt K Wx RE tNoPart noP := fun F H M σ ρ R Q hr hx hs ht k => k none H F M hr .refl ht
theorem sp_some {t : TE} {T : TDE} (h : SE K Wx RE t T) : SPt K Wx RE (tPart t) (someP T) := fun F H M σ ρ R Q hr hx hs ht k =>
  h F H M σ ρ _ _ hr hx hs ht fun v H1 F1 M1 x r1 g1 rx h1 => by
    obtain ⟨i, rfl, h2⟩ := gI_of h1
    exact ⟨i, rx.int, k _ H1 F1 M1 r1 g1 h2⟩
abbrev FSl := W → Option Int → Option Int → Mem → (W → Mem → Prop) → Prop
def SSl (K : PySem.W.Frag) (r : V → Option Int → Option Int → Hp → VK → Prop) (f : FSl) : Prop := ∀ F H M v x lo hi R Q, Rl K F H M → RW K F v x → f x lo hi M R → Kt K F H M R Q → r v lo hi H Q
@[reducible] def slT (f : FSl) (T : TDE) (Tl Th : TDO) : TDE := fun ρ M R => T ρ M fun x M1 => Tl ρ M1 fun lo M2 => Th ρ M2 fun hi M3 => f x lo hi M3 R
theorem se_sl {r : V → Option Int → Option Int → Hp → VK → Prop} {f : FSl} {te : TE} {tl th : TO} {T : TDE} {Tl Th : TDO} (ho : SSl K r f) (he : SE K Wx RE te T) (hl : SPt K Wx RE tl Tl) (hh : SPt K Wx RE th Th) : SE K Wx RE (tSl r te tl th) (slT f T Tl Th) := fun F H M σ ρ R Q hr hx hs ht k =>
  he F H M σ ρ _ _ hr hx hs ht fun v H1 F1 M1 x r1 g1 rx h1 => hl F1 H1 M1 σ ρ _ _ r1 (hx.mono g1) (hs.mono g1.ff) h1 fun lo H2 F2 M2 r2 g2 h2 =>
    hh F2 H2 M2 σ ρ _ _ r2 (hx.mono (g1.trans g2)) (hs.mono (g1.trans g2).ff) h2 fun hi H3 F3 M3 r3 g3 h3 =>
      ho F3 H3 M3 v x lo hi R Q r3 (rx.mono (g2.trans g3).ff) h3 fun w H4 F4 M4 z r4 g4 rz hz => k w H4 F4 M4 z r4 (((g1.trans g2).trans g3).trans g4) rz hz
def cut {α : Type} (xs : List α) (lo hi : Option Int) : List α := (xs.drop (HT.sIx xs.length 0 lo)).take (HT.sIx xs.length xs.length hi - HT.sIx xs.length 0 lo)
theorem cut_dx {F : Hp} {vs : List V} {ds : List PyData} {lo hi : Option Int} (r : DxL K F vs ds) : DxL K F (cutV vs lo hi) (cut ds lo hi) := by
  unfold cutV cut
  rw [r.len]
  exact (r.drop _).take _
theorem cut_rw {F : Hp} {vs : List V} {ds : List W} {lo hi : Option Int} (r : RWs K F vs ds) : RWs K F (cutV vs lo hi) (cut ds lo hi) := by
  unfold cutV cut
  rw [r.len]
  exact (r.drop _).take _
theorem cut_whole {α : Type} {xs : List α} {lo hi : Option Int} (h : HT.sIx xs.length 0 lo = 0 ∧ HT.sIx xs.length xs.length hi = xs.length) : cut xs lo hi = xs := by
  unfold cut
  rw [h.1, h.2, List.drop_zero, Nat.sub_zero, List.take_length]
@[reducible] def fSlT : FSl := fun x lo hi M R => gT x fun ds => R (.d (.tuple (cut ds lo hi))) M
theorem sl_T : SSl K (rSlA K) fSlT := fun F H M v x lo hi R Q hr rx hf k => by
  obtain ⟨ds, rfl, h1⟩ := gT_of hf
  obtain ⟨a, xs, rfl, h2, h3⟩ := rx.tup
  refine ⟨a, xs, rfl, same_t hr.fh h2, fun hw => ?_, fun _ p hp => ?_⟩
  · rw [h3.len] at hw
    rw [cut_whole hw] at h1
    exact k _ H F M _ hr .refl rx h1
  · obtain ⟨r2, g2, rz⟩ := hr.tup hp (cut_dx (lo := lo) (hi := hi) h3)
    exact k _ _ _ _ _ r2 g2 rz h1
/-- a slice of a list: a list that may change -/
@[reducible] def fSlL : FSl := fun x lo hi M R => gW M x fun ws => ∀ p, M p = none → R (.r p) (mset M p (.lst (cut ws lo hi)))
theorem sl_L : SSl K (rSlL K) fSlL := fun F H M v x lo hi R Q hr rx hf k => by
  obtain ⟨a, vs, ws, rfl, h1, h2, h3⟩ := gW_of hr rx hf
  refine ⟨a, vs, rfl, SqL.of h1, fun p hp => ?_⟩
  obtain ⟨r2, g2⟩ := hr.born (u := .lst (cutV vs lo hi)) (o := .lst (cut ws lo hi)) hp ⟨_, rfl, cut_rw h2⟩
  exact k _ _ _ _ _ r2 g2 (.r p) (h3 p (hr.new hp))
/-! ### + and * of rows -/
@[reducible] def fCatT : F2 := fun x y M R => gT x fun a => gT y fun b => a.length + b.length ≤ sizeLine ∧ R (.d (.tuple (a ++ b))) M
theorem so_catT : SO K (rCatA K) fCatT := fun F H M v u x y R Q hr rx ry hf k => by
  obtain ⟨a, rfl, h1⟩ := gT_of hf
  obtain ⟨b, rfl, hz, h2⟩ := gT_of h1
  obtain ⟨p, xs, rfl, h3, h4⟩ := rx.tup
  obtain ⟨q, ys, rfl, h5, h6⟩ := ry.tup
  refine ⟨p, q, xs, ys, rfl, rfl, same_t hr.fh h3, same_t hr.fh h5, by rw [h4.len, h6.len]; exact hz, fun e => ?_, fun _ e => ?_, fun _ _ t ht => ?_⟩
  · have ea : a = [] := by
      apply List.eq_nil_of_length_eq_zero
      rw [← h4.len, e]
      rfl
    subst ea
    exact k _ H F M _ hr .refl ry h2
  · have eb : b = [] := by
      apply List.eq_nil_of_length_eq_zero
      rw [← h6.len, e]
      rfl
    subst eb
    rw [List.append_nil] at h2
    exact k _ H F M _ hr .refl rx h2
  · obtain ⟨r2, g2, rz⟩ := hr.tup ht (h4.app h6)
    exact k _ _ _ _ _ r2 g2 rz h2
/-- list + list: data -/
@[reducible] def fCatF : F2 := fun x y M R => gW M x fun a => gW M y fun b => gDs a fun a => gDs b fun b => a.length + b.length ≤ sizeLine ∧ R (.d (.list (a ++ b))) M
theorem so_catF : SO K rCat fCatF := fun F H M v u x y R Q hr rx ry hf k => by
  obtain ⟨p, vs, ws, rfl, h1, h2, h3⟩ := gW_of hr rx hf
  obtain ⟨q, us, zs, rfl, h4, h5, h6⟩ := gW_of hr ry h3
  obtain ⟨a, rfl, h7⟩ := gDs_of h6
  obtain ⟨b, rfl, hz, h8⟩ := gDs_of h7
  refine ⟨p, q, vs, us, rfl, rfl, h1, h4, by rw [h2.len, h5.len, List.length_map, List.length_map]; exact hz, fun t ht => ?_⟩
  obtain ⟨r2, g2, rz⟩ := hr.list ht (h2.undat.app h5.undat)
  exact k _ _ _ _ _ r2 g2 rz h8
@[reducible] def fCatL : F2 := fun x y M R => gW M x fun a => gW M y fun b => a.length + b.length ≤ sizeLine ∧ ∀ p, M p = none → R (.r p) (mset M p (.lst (a ++ b)))
theorem so_catL : SO K rCat fCatL := fun F H M v u x y R Q hr rx ry hf k => by
  obtain ⟨p, vs, ws, rfl, h1, h2, h3⟩ := gW_of hr rx hf
  obtain ⟨q, us, zs, rfl, h4, h5, hz, h6⟩ := gW_of hr ry h3
  refine ⟨p, q, vs, us, rfl, rfl, h1, h4, by rw [h2.len, h5.len]; exact hz, fun t ht => ?_⟩
  obtain ⟨r2, g2⟩ := hr.born (u := .lst (vs ++ us)) (o := .lst (ws ++ zs)) ht ⟨_, rfl, h2.app h5⟩
  exact k _ _ _ _ _ r2 g2 (.r t) (h6 t (hr.new ht))
@[reducible] def fRepT : F2 := fun x y M R => gT x fun a => gI y fun n => (0 ≤ n ∧ n ≤ 1000 ∧ a.length ≤ 1000) ∧ R (.d (.tuple (List.replicate n.toNat a).flatten)) M
theorem so_repT : SO K (rRepA K) fRepT := fun F H M v u x y R Q hr rx ry hf k => by
  obtain ⟨a, rfl, h1⟩ := gT_of hf
  obtain ⟨n, rfl, ⟨c1, c2, c3⟩, h2⟩ := gI_of h1
  obtain ⟨p, xs, rfl, h3, h4⟩ := rx.tup
  refine ⟨p, n, xs, rfl, ry.int, same_t hr.fh h3, c1, c2, by rw [h4.len]; exact c3, fun e => ?_, fun _ t ht => ?_⟩
  · have ea : (List.replicate n.toNat a).flatten = a := by
      rcases e with e | e
      · have : a = [] := by
          apply List.eq_nil_of_length_eq_zero
          rw [← h4.len, e]
          rfl
        subst this
        simp
      · subst e
        simp
    rw [ea] at h2
    exact k _ H F M _ hr .refl rx h2
  · obtain ⟨r2, g2, rz⟩ := hr.tup ht (h4.rep n.toNat)
    exact k _ _ _ _ _ r2 g2 rz h2
end
end Tl
set_option Elab.async false
set_option linter.all false
set_option maxRecDepth 100000
set_option maxHeartbeats 4000000
namespace Tl
open PySem L2
section
variable {K : PySem.W.Frag} {Wx : WX} {RE : REx}
/-! ### built-in calls -/
@[reducible] def cbT (f : FL) (T : TDA) : TDE := fun ρ M R => T ρ M fun xs M1 => f xs M1 R
theorem se_cb {n : Nat} {r : List V → Hp → VK → Prop} {f : FL} {t : TA} {T : TDA} (ho : SC K r f) (h : SAn K Wx RE n t T) : SE K Wx RE (tCB r t) (cbT f T) := fun F H M σ ρ R Q hr hx hs ht k =>
  h F H M σ ρ _ _ hr hx hs ht fun vs H1 F1 M1 xs r1 g1 rxs hl h1 => ho F1 H1 M1 vs xs R Q r1 rxs h1 fun w H2 F2 M2 z r2 g2 rz hz => k w H2 F2 M2 z r2 (g1.trans g2) rz hz
@[reducible] def g1 (xs : List W) (k : W → Prop) : Prop := match xs with | [x] => k x | _ => False
@[reducible] def g2 (xs : List W) (k : W → W → Prop) : Prop := match xs with | [x, y] => k x y | _ => False
theorem g1_of {xs : List W} {k : W → Prop} (h : g1 xs k) : ∃ x, xs = [x] ∧ k x := by
  unfold g1 at h
  split at h
  · exact ⟨_, rfl, h⟩
  · exact h.elim
theorem g2_of {xs : List W} {k : W → W → Prop} (h : g2 xs k) : ∃ x y, xs = [x, y] ∧ k x y := by
  unfold g2 at h
  split at h
  · exact ⟨_, _, rfl, h⟩
  · exact h.elim
theorem RWs.one {F : Hp} {vs : List V} {x : W} (r : RWs K F vs [x]) : ∃ v, vs = [v] ∧ RW K F v x := by
  cases r with
  | cons a b => cases b; exact ⟨_, rfl, a⟩
theorem RWs.two {F : Hp} {vs : List V} {x y : W} (r : RWs K F vs [x, y]) : ∃ v u, vs = [v, u] ∧ RW K F v x ∧ RW K F u y := by
  cases r with
  | cons a b => cases b with | cons b c => cases c; exact ⟨_, _, rfl, a, b⟩
/-- the length of a row -/
@[reducible] def fLen : FL := fun xs M R => g1 xs fun x => match x with
  | .d (.tuple ds) => R (.d (.int ds.length)) M
  | x => gW M x fun ws => R (.d (.int ws.length)) M
theorem sc_len : SC K (fun xs H Q => ∃ p ys, xs = [V.ref p] ∧ (SqL K H p ys ∨ SqT K H p ys) ∧ Q (.int ys.length) H) fLen := fun F H M vs xs R Q hr rx hf k => by
  obtain ⟨x, rfl, h1⟩ := g1_of hf
  obtain ⟨v, rfl, r⟩ := rx.one
  have hw : (∀ ds, x ≠ .d (.tuple ds)) → gW M x (fun ws => R (.d (.int ws.length)) M) := fun hn => by
    cases x with
    | d a =>
      cases a with
      | tuple ds => exact absurd rfl (hn ds)
      | _ => exact h1
    | r a => exact h1
    | o a => exact h1
    | x a C dd fs => exact h1
  by_cases c : ∃ ds, x = .d (.tuple ds)
  · obtain ⟨ds, rfl⟩ := c
    obtain ⟨a, xs, rfl, h2, h3⟩ := r.tup
    refine ⟨a, xs, rfl, .inr (same_t hr.fh h2), ?_⟩
    rw [h3.len]
    exact k _ H F M _ hr .refl (.d (.int _)) h1
  · obtain ⟨a, us, ws, rfl, h2, h3, h4⟩ := gW_of hr r (hw fun ds e => c ⟨ds, e⟩)
    refine ⟨a, us, rfl, .inl (SqL.of h2), ?_⟩
    rw [h3.len]
    exact k _ H F M _ hr .refl (.d (.int _)) h4
@[reducible] def fLenS : FL := fun xs M R => g1 xs fun x => gS x fun z => z.length ≤ sizeLine ∧ R (.d (.int z.length)) M
theorem sc_lenS : SC K (fun xs H Q => ∃ z, xs = [V.str z] ∧ z.length ≤ sizeLine ∧ Q (.int z.length) H) fLenS := fun F H M vs xs R Q hr rx hf k => by
  obtain ⟨x, rfl, h1⟩ := g1_of hf
  obtain ⟨v, rfl, r⟩ := rx.one
  obtain ⟨z, rfl, hz, h2⟩ := gS_of h1
  exact ⟨z, by rw [r.str], hz, k _ H F M _ hr .refl (.d (.int _)) h2⟩
/-- all truths -/
inductive gBs (xs : List W) (k : List Bool → Prop) : Prop where
  | mk (bs : List Bool) (h : xs = bs.map fun b => W.d (.bool b)) (q : k bs)
theorem gBs_of {xs : List W} {k : List Bool → Prop} (h : gBs xs k) : ∃ bs : List Bool, xs = bs.map (fun b => W.d (.bool b)) ∧ k bs := by
  cases h with
  | mk bs h q => exact ⟨bs, h, q⟩
theorem gBs_map {α : Type} (g : α → Bool) {xs : List α} {k : List Bool → Prop} : gBs (xs.map fun a => W.d (.bool (g a))) k = k (xs.map g) := propext ⟨fun h => by
  obtain ⟨es, e, q⟩ := gBs_of h
  rw [show (xs.map fun a => W.d (.bool (g a))) = (xs.map g).map fun b => W.d (.bool b) by rw [List.map_map]; rfl] at e
  rw [map_injD (fun a b h => by injection h with h; injection h) e]
  exact q, fun q => .mk (xs.map g) (by rw [List.map_map]; rfl) q⟩
theorem gBs_n {k : List Bool → Prop} (q : k []) : gBs [] k := .mk [] rfl q
theorem gBs_c {x : W} {r : List W} {k : List Bool → Prop} (h : gB x fun b => gBs r fun bs => k (b :: bs)) : gBs (x :: r) k := by
  obtain ⟨a, rfl, h⟩ := gB_of h
  obtain ⟨bs, rfl, q⟩ := gBs_of h
  exact .mk (a :: bs) rfl q
inductive gIs (xs : List W) (k : List Int → Prop) : Prop where
  | mk (bs : List Int) (h : xs = bs.map fun b => W.d (.int b)) (q : k bs)
theorem gIs_of {xs : List W} {k : List Int → Prop} (h : gIs xs k) : ∃ bs : List Int, xs = bs.map (fun b => W.d (.int b)) ∧ k bs := by
  cases h with
  | mk bs h q => exact ⟨bs, h, q⟩
theorem gIs_map {α : Type} (g : α → Int) {xs : List α} {k : List Int → Prop} : gIs (xs.map fun a => W.d (.int (g a))) k = k (xs.map g) := propext ⟨fun h => by
  obtain ⟨es, e, q⟩ := gIs_of h
  rw [show (xs.map fun a => W.d (.int (g a))) = (xs.map g).map fun b => W.d (.int b) by rw [List.map_map]; rfl] at e
  rw [map_injD (fun a b h => by injection h with h; injection h) e]
  exact q, fun q => .mk (xs.map g) (by rw [List.map_map]; rfl) q⟩
theorem gIs_n {k : List Int → Prop} (q : k []) : gIs [] k := .mk [] rfl q
theorem gIs_c {x : W} {r : List W} {k : List Int → Prop} (h : gI x fun b => gIs r fun bs => k (b :: bs)) : gIs (x :: r) k := by
  obtain ⟨a, rfl, h⟩ := gI_of h
  obtain ⟨bs, rfl, q⟩ := gIs_of h
  exact .mk (a :: bs) rfl q
inductive gSs (xs : List W) (k : List Str → Prop) : Prop where
  | mk (bs : List Str) (h : xs = bs.map fun b => W.d (.str b)) (q : k bs)
theorem gSs_of {xs : List W} {k : List Str → Prop} (h : gSs xs k) : ∃ bs : List Str, xs = bs.map (fun b => W.d (.str b)) ∧ k bs := by
  cases h with
  | mk bs h q => exact ⟨bs, h, q⟩
theorem gSs_map {α : Type} (g : α → Str) {xs : List α} {k : List Str → Prop} : gSs (xs.map fun a => W.d (.str (g a))) k = k (xs.map g) := propext ⟨fun h => by
  obtain ⟨es, e, q⟩ := gSs_of h
  rw [show (xs.map fun a => W.d (.str (g a))) = (xs.map g).map fun b => W.d (.str b) by rw [List.map_map]; rfl] at e
  rw [map_injD (fun a b h => by injection h with h; injection h) e]
  exact q, fun q => .mk (xs.map g) (by rw [List.map_map]; rfl) q⟩
theorem gSs_n {k : List Str → Prop} (q : k []) : gSs [] k := .mk [] rfl q
theorem gSs_c {x : W} {r : List W} {k : List Str → Prop} (h : gS x fun b => gSs r fun bs => k (b :: bs)) : gSs (x :: r) k := by
  obtain ⟨a, rfl, h⟩ := gS_of h
  obtain ⟨bs, rfl, q⟩ := gSs_of h
  exact .mk (a :: bs) rfl q
theorem rws_bl {F : Hp} : ∀ {bs : List Bool} {vs : List V}, RWs K F vs (bs.map fun b => W.d (.bool b)) → vs = bs.map V.bl
  | [], _, h => by cases h; rfl
  | b :: bs, _, h => by
    cases h with
    | cons a c => rw [rws_bl c, a.bl]; rfl
theorem rws_int {F : Hp} : ∀ {bs : List Int} {vs : List V}, RWs K F vs (bs.map fun b => W.d (.int b)) → vs = bs.map V.int
  | [], _, h => by cases h; rfl
  | b :: bs, _, h => by
    cases h with
    | cons a c => rw [rws_int c, a.int]; rfl
theorem rws_str {F : Hp} : ∀ {bs : List Str} {vs : List V}, RWs K F vs (bs.map fun b => W.d (.str b)) → vs = bs.map V.str
  | [], _, h => by cases h; rfl
  | b :: bs, _, h => by
    cases h with
    | cons a c => rw [rws_str c, a.str]; rfl
@[reducible] def fAll : FL := fun xs M R => g1 xs fun x => gW M x fun ws => gBs ws fun bs => R (.d (.bool (bs.all id))) M
theorem sc_all : SC K (rAll K) fAll := fun F H M vs xs R Q hr rx hf k => by
  obtain ⟨x, rfl, h1⟩ := g1_of hf
  obtain ⟨v, rfl, r⟩ := rx.one
  obtain ⟨a, us, ws, rfl, h2, h3, h4⟩ := gW_of hr r h1
  obtain ⟨bs, rfl, h5⟩ := gBs_of h4
  refine ⟨a, bs, rfl, ?_, k _ H F M _ hr .refl (.d (.bl _)) h5⟩
  rw [← rws_bl h3]
  exact SqL.of h2
@[reducible] def fSum : FL := fun xs M R => g1 xs fun x => gW M x fun ws => gIs ws fun bs => R (.d (.int bs.sum)) M
theorem sc_sum : SC K (rSum K) fSum := fun F H M vs xs R Q hr rx hf k => by
  obtain ⟨x, rfl, h1⟩ := g1_of hf
  obtain ⟨v, rfl, r⟩ := rx.one
  obtain ⟨a, us, ws, rfl, h2, h3, h4⟩ := gW_of hr r h1
  obtain ⟨bs, rfl, h5⟩ := gIs_of h4
  refine ⟨a, bs, rfl, ?_, k _ H F M _ hr .refl (.d (.int _)) h5⟩
  rw [← rws_int h3]
  exact SqL.of h2
/-- the greatest of some numbers -/
def mxI : List Int → Int
  | [] => 0
  | [x] => x
  | x :: r => max x (mxI r)
theorem mxI_mem : ∀ {l : List Int}, l ≠ [] → mxI l ∈ l ∧ ∀ y ∈ l, y ≤ mxI l
  | [], h => absurd rfl h
  | [x], _ => ⟨List.mem_singleton.mpr rfl, fun y hy => by rw [List.mem_singleton.mp hy]; exact Int.le_refl _⟩
  | x :: z :: r, _ => by
    obtain ⟨h1, h2⟩ := mxI_mem (l := z :: r) (by simp)
    have e : mxI (x :: z :: r) = max x (mxI (z :: r)) := rfl
    rw [e]
    constructor
    · rcases Int.le_total x (mxI (z :: r)) with c | c
      · rw [Int.max_eq_right c]; exact List.mem_cons_of_mem _ h1
      · rw [Int.max_eq_left c]; exact List.mem_cons_self
    · intro y hy
      rcases List.mem_cons.mp hy with rfl | hy
      · exact Int.le_max_left _ _
      · exact Int.le_trans (h2 y hy) (Int.le_max_right _ _)
theorem mxI_eq {l : List Int} {m : Int} (h1 : m ∈ l) (h2 : ∀ y ∈ l, y ≤ m) : mxI l = m := by
  obtain ⟨a, b⟩ := mxI_mem (l := l) (List.ne_nil_of_mem h1)
  exact Int.le_antisymm (h2 _ a) (b _ h1)
@[reducible] def fMax : FL := fun xs M R => g1 xs fun x => gW M x fun ws => gIs ws fun bs => 0 < bs.length ∧ R (.d (.int (mxI bs))) M
theorem sc_max : SC K (rMax K) fMax := fun F H M vs xs R Q hr rx hf k => by
  obtain ⟨x, rfl, h1⟩ := g1_of hf
  obtain ⟨v, rfl, r⟩ := rx.one
  obtain ⟨a, us, ws, rfl, h2, h3, h4⟩ := gW_of hr r h1
  obtain ⟨bs, rfl, h0, h5⟩ := gIs_of h4
  refine ⟨a, bs, rfl, ?_, h0, fun m m1 m2 => ?_⟩
  · rw [← rws_int h3]
    exact SqL.of h2
  · rw [mxI_eq m1 m2] at h5
    exact k _ H F M _ hr .refl (.d (.int _)) h5
@[reducible] def fMax2 : FL := fun xs M R => g2 xs fun x y => gI x fun i => gI y fun j => R (.d (.int (max i j))) M
theorem sc_max2 : SC K (fun xs H Q => ∃ i j, xs = [V.int i, .int j] ∧ Q (.int (if j > i then j else i)) H) fMax2 := fun F H M vs xs R Q hr rx hf k => by
  obtain ⟨x, y, rfl, h1⟩ := g2_of hf
  obtain ⟨v, u, rfl, r, r'⟩ := rx.two
  obtain ⟨i, rfl, h2⟩ := gI_of h1
  obtain ⟨j, rfl, h3⟩ := gI_of h2
  refine ⟨i, j, by rw [r.int, r'.int], ?_⟩
  rw [show (if j > i then j else i) = max i j by omega]
  exact (k _ H F M _ hr .refl (.d (.int _)) h3)
/-- max(.., default=..) -/
@[reducible] def ckT (f : List W → List W → Mem → (W → Mem → Prop) → Prop) (T U : TDA) : TDE := fun ρ M R => T ρ M fun xs M1 => U ρ M1 fun ys M2 => f xs ys M2 R
@[reducible] def fMaxD : List W → List W → Mem → (W → Mem → Prop) → Prop := fun xs ys M R => g1 xs fun x => g1 ys fun y => gI y fun d => gW M x fun ws => gIs ws fun bs => R (.d (.int (if bs.length = 0 then d else mxI bs))) M
/-- tuple(..) -/
@[reducible] def fTuple : FL := fun xs M R => g1 xs fun x => match x with
  | .d (.tuple ds) => R (.d (.tuple ds)) M
  | x => gW M x fun ws => gDs ws fun ds => R (.d (.tuple ds)) M
theorem sc_tuple : SC K (fun xs H Q => ∃ p ys, xs = [V.ref p] ∧ ((SqL K H p ys ∧ ∀ l, H l = none → Q (.ref l) (upd H l (.tup ys))) ∨ (SqT K H p ys ∧ Q (.ref p) H))) fTuple := fun F H M vs xs R Q hr rx hf k => by
  obtain ⟨x, rfl, h1⟩ := g1_of hf
  obtain ⟨v, rfl, r⟩ := rx.one
  have hw : (∀ ds, x ≠ .d (.tuple ds)) → gW M x (fun ws => gDs ws fun ds => R (.d (.tuple ds)) M) := fun hn => by
    cases x with
    | d a =>
      cases a with
      | tuple ds => exact absurd rfl (hn ds)
      | _ => exact h1
    | r a => exact h1
    | o a => exact h1
    | x a C dd fs => exact h1
  by_cases c : ∃ ds, x = .d (.tuple ds)
  · obtain ⟨ds, rfl⟩ := c
    obtain ⟨a, xs, rfl, h2, h3⟩ := r.tup
    exact ⟨a, xs, rfl, .inr ⟨same_t hr.fh h2, k _ H F M _ hr .refl r h1⟩⟩
  · obtain ⟨a, us, ws, rfl, h2, h3, h4⟩ := gW_of hr r (hw fun ds e => c ⟨ds, e⟩)
    obtain ⟨ds, rfl, h5⟩ := gDs_of h4
    refine ⟨a, us, rfl, .inl ⟨SqL.of h2, fun l hl => ?_⟩⟩
    obtain ⟨r2, g2, rz⟩ := hr.tup hl h3.undat
    exact k _ _ _ _ _ r2 g2 rz h5
/-- the items of a row as data -/
@[reducible] def gRow (M : Mem) (x : W) (k : List W → Prop) : Prop := match x with
  | .d (.tuple ds) => k (ds.map W.d)
  | x => gW M x k
theorem gRow_of {F H : Hp} {M : Mem} {v : V} {x : W} {k : List W → Prop} (hr : Rl K F H M) (r : RW K F v x) (h : gRow M x k) : ∃ a vs ws, v = .ref a ∧ (SqL K H a vs ∨ SqT K H a vs) ∧ RWs K F vs ws ∧ k ws := by
  unfold gRow at h
  split at h
  · obtain ⟨a, xs, rfl, h1, h2⟩ := r.tup
    exact ⟨a, xs, _, rfl, .inr (same_t hr.fh h1), .dat h2, h⟩
  · obtain ⟨a, vs, ws, h1, h2, h3, h4⟩ := gW_of hr r h
    exact ⟨a, vs, ws, h1, .inl (SqL.of h2), h3, h4⟩
/-- repr: the text of data -/
def shOk (d : PyData) : Prop := d.showable = true ∧ d.depth ≤ 100 ∧ d.shown.length ≤ sizeLine
@[reducible] def isList : PyData → Bool
  | .list _ => true
  | _ => false
/-! ### isinstance -/
def tyIs (d : PyData) (n : String) : Option Bool :=
  if n = "int" then some (isInt d) else if n = "bool" then some (isBl d) else if n = "str" then some (isStr d) else if n = "tuple" then some (isTup d) else if n = "list" then some (isList d) else none
theorem kit_lst (d : PyData) : kitB (tyName d) "list" = some (isList d) := by cases d <;> (simp only [tyName, isList]; decide +kernel)
theorem tyIs_kit {d : PyData} {n : String} {b : Bool} (h : tyIs d n = some b) : kitB (tyName d) n = some b := by
  unfold tyIs at h
  split at h
  · rename_i e; subst e; rw [← h]; exact kit_int d
  · split at h
    · rename_i e; subst e; rw [← h]; exact kit_bl d
    · split at h
      · rename_i e; subst e; rw [← h]; exact kit_str d
      · split at h
        · rename_i e; subst e; rw [← h]; exact kit_tup d
        · split at h
          · rename_i e; subst e; rw [← h]; exact kit_lst d
          · cases h
theorem ty_dx {H : Hp} {v : V} {d : PyData} (h : Dx K H v d) : TyX K H v (.type (tyName d)) := by
  cases h with
  | non => exact .base .non
  | bl b => exact .base (.bl b)
  | int i => exact .base (.int i)
  | str x => exact .base (.str x)
  | lst hs _ => exact .base (.lst hs)
  | tup hs _ =>
    rcases hs with (h | ⟨o, h⟩) | ⟨o, its, n, h1, h2, _⟩
    · exact .base (.tup h)
    · exact .fTuple h
    · exact .kTuple h1 h2
  | dic h => exact .base (.dK h)
@[reducible] def fIsi : FL := fun xs M R => g2 xs fun x y => match y with
  | .o (.ty n) => (match x with
    | .d a => gO (tyIs a n) fun b => R (.d (.bool b)) M
    | .r a => ∃ ws, M a = some (.lst ws) ∧ gO (tyIs (.list []) n) fun b => R (.d (.bool b)) M
    | _ => False)
  | _ => False
theorem sc_isi : SC K (rIsi K) fIsi := fun F H M vs xs R Q hr rx hf k => by
  obtain ⟨x, y, rfl, h1⟩ := g2_of hf
  obtain ⟨v, u, rfl, r, r'⟩ := rx.two
  cases y with
  | d a => exact h1.elim
  | r a => exact h1.elim
  | x a C dd fs => exact h1.elim
  | o z =>
    cases r'
    cases u with
    | ty n =>
      cases x with
      | o a => exact h1.elim
      | x a C dd fs => exact h1.elim
      | d a =>
        obtain ⟨b, h2, h3⟩ := gO_of h1
        exact ⟨v, .ty n, _, _, b, rfl, .ty n, ty_dx (Dx.mono hr.fh _ _ r.dx), kit_ty (tyIs_kit h2), k _ H F M _ hr .refl (.d (.bl _)) h3⟩
      | r a =>
        obtain ⟨ws, h0, h2⟩ := h1
        obtain ⟨b, h3, h4⟩ := gO_of h2
        obtain ⟨us, h5, h6⟩ := hr.lst h0
        rw [r.ref]
        have hk : kitB "list" n = some b := tyIs_kit (d := .list []) h3
        exact ⟨.ref a, .ty n, .type "list", _, b, rfl, .ty n, .base (.lst h5), kit_ty hk, k _ H F M _ hr .refl (.d (.bl _)) h4⟩
    | _ => exact h1.elim
/-! ### methods of a list that may change -/
/-- a method of a list -/
def SM (K : PySem.W.Frag) (r : V → List V → Hp → VK → Prop) (f : W → List W → Mem → (W → Mem → Prop) → Prop) : Prop := ∀ F H M v vs x xs R Q, Rl K F H M → RW K F v x → RWs K F vs xs → f x xs M R → Kt K F H M R Q → r v vs H Q
@[reducible] def bmL (f : W → List W → Mem → (W → Mem → Prop) → Prop) (T : TDE) (U : TDA) : TDE := fun ρ M R => T ρ M fun x M1 => gR x fun a => (∃ ws, M1 a = some (.lst ws)) ∧ U ρ M1 fun xs M2 => f (.r a) xs M2 R
theorem se_bmL {n : Nat} {r : V → List V → Hp → VK → Prop} {f : W → List W → Mem → (W → Mem → Prop) → Prop} {to : TE} {t : TA} {T : TDE} {U : TDA} (ho : SM K r f) (h1 : SE K Wx RE to T) (h2 : SAn K Wx RE n t U) :
    SE K Wx RE (tBM K "list" r to t) (bmL f T U) := fun F H M σ ρ R Q hr hx hs ht k =>
  h1 F H M σ ρ _ _ hr hx hs ht fun v H1 F1 M1 x r1 g1 rx q1 => by
    obtain ⟨a, rfl, ⟨ws, hw⟩, q2⟩ := gR_of q1
    rw [rx.ref]
    obtain ⟨vs, h3, h4⟩ := r1.lst hw
    refine ⟨.inl ⟨rfl, _, SqL.of h3⟩, h2 F1 H1 M1 σ ρ _ _ r1 (hx.mono g1) (hs.mono g1.ff) q2 fun us H2 F2 M2 xs r2 g2 rxs hl q3 => ?_⟩
    exact ho F2 H2 M2 _ us _ xs R Q r2 (.r a) rxs q3 fun w H3 F3 M3 z r3 g3 rz hz => k w H3 F3 M3 z r3 ((g1.trans g2).trans g3) rz hz
@[reducible] def fAppend : W → List W → Mem → (W → Mem → Prop) → Prop := fun x xs M R => gR x fun a => g1 xs fun y => ∃ ws, M a = some (.lst ws) ∧ ws.length < sizeLine ∧ R (.d .none) (mset M a (.lst (ws ++ [y])))
theorem sm_append : SM K rAppend fAppend := fun F H M v vs x xs R Q hr rx rxs hf k => by
  obtain ⟨a, rfl, h1⟩ := gR_of hf
  obtain ⟨y, rfl, ws, h2, hz, h3⟩ := g1_of h1
  obtain ⟨u, rfl, ry⟩ := rxs.one
  obtain ⟨us, h4, h5⟩ := hr.lst h2
  rw [rx.ref]
  refine ⟨a, us, u, rfl, rfl, h4, by rw [h5.len]; exact hz, ?_⟩
  obtain ⟨r2, g2⟩ := hr.put (u := .lst (us ++ [u])) (o := .lst (ws ++ [y])) h2 ⟨_, rfl, h5.app (.cons ry .nil)⟩
  exact k _ _ _ _ _ r2 g2 (.d .non) h3
/-! ### calls of defs -/
abbrev TF := List W → Mem → (W → Mem → Prop) → (Ex → Mem → Prop) → Prop
/-- the promise of a def by the second layer -/
def spD (K : PySem.W.Frag) (n : Nat) (f : TF) : Sp := fun vs H Q E => ∃ F M ws R RX, Rl K F H M ∧ RWs K F vs ws ∧ ws.length = n ∧ f ws M R RX ∧ Kt K F H M R Q ∧
  ∀ cls d H' F' M' x, Rl K F' H' M' → Gr F H M F' H' M' → XRel K F' cls d x → RX x M' → E cls d H'
@[reducible] def callT (f : TF) (T : TDA) : TDE := fun ρ M R => T ρ M fun xs M1 => f xs M1 R fun _ _ => False
@[reducible] def callX (RE : REx) (f : TF) (T : TDA) : TDE := fun ρ M R => T ρ M fun xs M1 => f xs M1 R fun x M' => RE x ρ M'
theorem se_call {n : Nat} {f : TF} {E : XK} {t : TA} {T : TDA} (h : SAn K Wx RE n t T) : SE K Wx RE (tCall (spD K n f) [] E t) (callT f T) := fun F H M σ ρ R Q hr hx hs ht k =>
  h F H M σ ρ _ _ hr hx hs ht fun vs H1 F1 M1 xs r1 g1 rxs hl h1 => by
    show spD K n f (vs ++ []) H1 Q E
    rw [List.append_nil]
    exact ⟨F1, M1, xs, R, _, r1, rxs, hl, h1, fun w H2 F2 M2 z r2 g2 rz hz => k w H2 F2 M2 z r2 (g1.trans g2) rz hz, fun cls d H' F' M' x _ _ _ z => z.elim⟩
theorem se_callX {n : Nat} {f : TF} {t : TA} {T : TDA} (h : SAn K Wx RE n t T) : SE K Wx RE (tCallS (spD K n f) (WE Wx) t) (callX RE f T) := fun F H M σ ρ R Q hr hx hs ht k =>
  h F H M σ ρ _ _ hr hx hs ht fun vs H1 F1 M1 xs r1 g1 rxs hl h1 =>
    ⟨F1, M1, xs, R, _, r1, rxs, hl, h1, fun w H2 F2 M2 z r2 g2 rz hz => k w H2 F2 M2 z r2 (g1.trans g2) rz hz, fun cls d H' F' M' x r2 g2 xr z => hx F' H' M' σ ρ cls d x (g1.trans g2) r2 (hs.mono (g1.trans g2).ff) xr z⟩
end
end Tl
set_option Elab.async false
set_option linter.all false
set_option maxRecDepth 100000
set_option maxHeartbeats 4000000
namespace Tl
open PySem L2
/-! ### what is walked -/
/-- one turn's item: one thing as it stands, or a pair that is made for it -/
def Yd (K : PySem.W.Frag) (F H : Hp) (x : V) (H' : Hp) (row : List W) (pair : Bool) : Prop :=
  if pair = true then ∃ T v1 v2 w1 w2, row = [w1, w2] ∧ x = .ref T ∧ H T = none ∧ H' = upd H T (.tup [v1, v2]) ∧ RW K F v1 w1 ∧ RW K F v2 w2
  else ∃ w, row = [w] ∧ H' = H ∧ RW K F x w
def ItOk (K : PySem.W.Frag) (F H : Hp) (M : Mem) (J : It) (rows : List (List W)) (keep : Mem → Prop) (pair : Bool) : Prop :=
  ∃ (G : Hp → Prop) (Y : Nat → Hp → V → Hp → Prop), Walk J rows.length G Y ∧ (∀ F2 H2 M2, Rl K F2 H2 M2 → Gr F H M F2 H2 M2 → keep M2 → G H2) ∧
    ∀ i x H2 H3 F2 M2 row, rows[i]? = some row → Rl K F2 H2 M2 → Gr F H M F2 H2 M2 → keep M2 → Y i H2 x H3 → Yd K F2 H2 x H3 row pair
theorem ItOk.of {K : PySem.W.Frag} {F H : Hp} {M : Mem} {J : It} {rows : List (List W)} {keep : Mem → Prop} {pair : Bool} {n : Nat} {G : Hp → Prop} {Y : Nat → Hp → V → Hp → Prop} (wk : Walk J n G Y) (hn : rows.length = n)
    (hG : ∀ F2 H2 M2, Rl K F2 H2 M2 → Gr F H M F2 H2 M2 → keep M2 → G H2) (hY : ∀ i x H2 H3 F2 M2 row, rows[i]? = some row → Rl K F2 H2 M2 → Gr F H M F2 H2 M2 → keep M2 → Y i H2 x H3 → Yd K F2 H2 x H3 row pair) : ItOk K F H M J rows keep pair :=
  ⟨G, Y, by rw [hn]; exact wk, hG, hY⟩
abbrev TDI := EnvD → Mem → (List (List W) → (Mem → Prop) → Mem → Prop) → Prop
def SI (K : PySem.W.Frag) (Wx : WX) (RE : REx) (wi : TI) (pair : Bool) (T : TDI) : Prop :=
  ∀ F H M σ ρ (R : List (List W) → (Mem → Prop) → Mem → Prop) (Q : It → Hp → Prop), Rl K F H M → XOk K F H M Wx RE → RelS K F σ ρ → T ρ M R →
    (∀ J H' F' M' rows keep, Rl K F' H' M' → Gr F H M F' H' M' → ItOk K F' H' M' J rows keep pair → R rows keep M' → Q J H') → wi σ H Q
abbrev TDG := List W → EnvD → Mem → (EnvD → Mem → Prop) → Prop
/-- binding a turn's item: the slots vs alone are changed -/
def SG (K : PySem.W.Frag) (g : TG) (pair : Bool) (vs : List Nat) (b : TDG) : Prop :=
  ∀ F H M x H' row σ ρ (R : EnvD → Mem → Prop) (Q : L2.St → Hp → Prop), Rl K F H M → Yd K F H x H' row pair → RelS K F σ ρ → b row ρ M R →
    (∀ σ' H2 F2 M2 ρ', Rl K F2 H2 M2 → Gr F H M F2 H2 M2 → RelS K F2 σ' ρ' → (wipe σ' vs = wipe σ vs) → R ρ' M2 → Q σ' H2) → g x σ H' Q
section
variable {K : PySem.W.Frag} {Wx : WX} {RE : REx}
@[reducible] def any1 : Mem → Prop := fun _ => True
@[reducible] def rows1 (ws : List W) : List (List W) := ws.map fun w => [w]
/-- over a tuple -/
@[reducible] def itTup (T : TDE) : TDI := fun ρ M R => T ρ M fun x M1 => gT x fun ds => R (rows1 (ds.map W.d)) any1 M1
/-- over a list of data -/
@[reducible] def itLst (T : TDE) : TDI := fun ρ M R => T ρ M fun x M1 => match x with
  | .d (.list ds) => R (rows1 (ds.map W.d)) any1 M1
  | .r a => ∃ ws, M1 a = some (.lst ws) ∧ R (rows1 ws) (fun M => M a = some (.lst ws)) M1
  | _ => False
theorem rows1_get {ws : List W} {i : Nat} {row : List W} (h : (rows1 ws)[i]? = some row) : ∃ w, ws[i]? = some w ∧ row = [w] := by
  unfold rows1 at h
  rw [List.getElem?_map] at h
  obtain ⟨w, h1, h2⟩ := Option.map_eq_some_iff.mp h
  exact ⟨w, h1, h2.symm⟩
theorem si_tup {t : TE} {T : TDE} (h : SE K Wx RE t T) : SI K Wx RE (iTup K t) false (itTup T) := fun F H M σ ρ R Q hr hx hs ht k =>
  h F H M σ ρ _ _ hr hx hs ht fun v H1 F1 M1 x r1 g1 rx h1 => by
    obtain ⟨ds, rfl, h2⟩ := gT_of h1
    obtain ⟨a, xs, rfl, h3, h4⟩ := rx.tup
    refine ⟨a, rfl, ⟨xs, same_t r1.fh h3⟩, k _ H1 F1 M1 _ _ r1 g1 ?_ h2⟩
    refine ItOk.of (walk_tup (K := K) (a := a) (xs := xs)) (by unfold rows1; rw [List.length_map, List.length_map, h4.len]) (fun F2 H2 M2 r2 g2 _ => same_t (g2.ff.trans r2.fh) h3) (fun i x H2 H3 F2 M2 row hrow r2 g2 _ y => ?_)
    · obtain ⟨w, hw, rfl⟩ := rows1_get hrow
      rw [List.getElem?_map] at hw
      obtain ⟨d, hd, rfl⟩ := Option.map_eq_some_iff.mp hw
      obtain ⟨v, hv, dv⟩ := h4.got hd
      obtain ⟨rfl, hy⟩ := y
      rw [hv] at hy
      cases hy
      exact ⟨_, rfl, rfl, .d (Dx.mono g2.ff _ _ dv)⟩
theorem si_lst {t : TE} {T : TDE} (h : SE K Wx RE t T) : SI K Wx RE (iList K t) false (itLst T) := fun F H M σ ρ R Q hr hx hs ht k =>
  h F H M σ ρ _ _ hr hx hs ht fun v H1 F1 M1 x r1 g1 rx h1 => by
    cases x with
    | o a => exact h1.elim
    | x a C dd fs => exact h1.elim
    | d a =>
      cases a with
      | list ds =>
        obtain ⟨a, xs, rfl, h3, h4⟩ := rx.lst
        refine ⟨a, rfl, ⟨xs, SqL.of (r1.fh _ _ h3)⟩, k _ H1 F1 M1 _ _ r1 g1 ?_ h1⟩
        refine ItOk.of (walk_list (K := K) (a := a) (xs := xs)) (by unfold rows1; rw [List.length_map, List.length_map, h4.len]) (fun F2 H2 M2 r2 g2 _ => SqL.of ((g2.ff.trans r2.fh) _ _ h3)) (fun i x H2 H3 F2 M2 row hrow r2 g2 _ y => ?_)
        · obtain ⟨w, hw, rfl⟩ := rows1_get hrow
          rw [List.getElem?_map] at hw
          obtain ⟨d, hd, rfl⟩ := Option.map_eq_some_iff.mp hw
          obtain ⟨v, hv, dv⟩ := h4.got hd
          obtain ⟨rfl, hy⟩ := y
          rw [hv] at hy
          cases hy
          exact ⟨_, rfl, rfl, .d (Dx.mono g2.ff _ _ dv)⟩
      | _ => exact h1.elim
    | r a =>
      obtain ⟨ws, hw, h2⟩ := h1
      rw [rx.ref]
      obtain ⟨xs, h3, h4⟩ := r1.lst hw
      refine ⟨a, rfl, ⟨xs, SqL.of h3⟩, k _ H1 F1 M1 _ _ r1 g1 ?_ h2⟩
      refine ⟨fun H => ∃ vs, H a = some (.lst vs) ∧ vs.length = ws.length, fun i H x H' => H' = H ∧ ∀ vs, H a = some (.lst vs) → vs[i]? = some x, ?_, fun F2 H2 M2 r2 g2 hk => ?_, fun i x H2 H3 F2 M2 row hrow r2 g2 hk y => ?_⟩
      · have el : (rows1 ws).length = ws.length := by unfold rows1; rw [List.length_map]
        rw [el]
        refine ⟨fun i H hi ⟨vs, q1, q2⟩ => ⟨vs, vs[i]'(by omega), SqL.of q1, List.getElem?_eq_getElem _⟩, fun H ⟨vs, q1, q2⟩ => ⟨vs, SqL.of q1, by omega⟩, fun i H x H' hi ⟨vs, q1, q2⟩ y => ⟨y.1, fun us hu => y.2 us (SqL.of hu)⟩⟩
      · obtain ⟨vs, q1, q2⟩ := r2.lst hk
        exact ⟨vs, q1, q2.len⟩
      · obtain ⟨w, hw, rfl⟩ := rows1_get hrow
        obtain ⟨vs, q1, q2⟩ := r2.lst hk
        obtain ⟨v, hv, rv⟩ := q2.got hw
        obtain ⟨rfl, hy⟩ := y
        have := hy vs q1
        rw [hv] at this
        cases this
        exact ⟨_, rfl, rfl, rv⟩
/-- over a text -/
def signs (z : Str) : List W := z.cps.toList.map fun c => W.d (.str ⟨#[c]⟩)
@[reducible] def itStr (T : TDE) : TDI := fun ρ M R => T ρ M fun x M1 => gS x fun z => R (rows1 (signs z)) any1 M1
theorem si_str {t : TE} {T : TDE} (h : SE K Wx RE t T) : SI K Wx RE (iStr t) false (itStr T) := fun F H M σ ρ R Q hr hx hs ht k =>
  h F H M σ ρ _ _ hr hx hs ht fun v H1 F1 M1 x r1 g1 rx h1 => by
    obtain ⟨z, rfl, h2⟩ := gS_of h1
    refine ⟨z, rx.str, k _ H1 F1 M1 _ _ r1 g1 ?_ h2⟩
    refine ItOk.of (walk_str (z := z)) (by unfold rows1 signs; rw [List.length_map, List.length_map]; rfl) (fun F2 H2 M2 r2 g2 _ => True.intro) (fun i x H2 H3 F2 M2 row hrow r2 g2 _ y => ?_)
    · obtain ⟨w, hw, rfl⟩ := rows1_get hrow
      unfold signs at hw
      rw [List.getElem?_map] at hw
      obtain ⟨c, hc, rfl⟩ := Option.map_eq_some_iff.mp hw
      obtain ⟨rfl, c', hc', rfl⟩ := y
      rw [Array.getElem?_toList, hc'] at hc
      cases hc
      exact ⟨_, rfl, rfl, .d (.str _)⟩
/-- over a range -/
def rng (lo : Int) (n : Nat) : List W := (List.range n).map fun i => W.d (.int (lo + (i : Nat)))
def rngC (lo c : Int) (n : Nat) : List W := (List.range n).map fun i => W.d (.int (lo + (i : Nat) * c))
/-- small enough for a range -/
def Sm (i : Int) : Prop := -(2 ^ 62) ≤ i ∧ i < 2 ^ 62
theorem sm_of {i : Int} (h1 : -1000000000 ≤ i) (h2 : i ≤ 1000000000) : Sm i := ⟨by omega, by omega⟩
@[reducible] def itR1 (T : TDA) : TDI := fun ρ M R => T ρ M fun xs M1 => g1 xs fun x => gI x fun j => Sm j ∧ R (rows1 (rng 0 j.toNat)) any1 M1
@[reducible] def itR2 (T : TDA) : TDI := fun ρ M R => T ρ M fun xs M1 => g2 xs fun x y => gI x fun i => gI y fun j => (Sm i ∧ Sm j) ∧ R (rows1 (rng i (j - i).toNat)) any1 M1
theorem rng_ok {F H : Hp} {M : Mem} {lo : Int} {n : Nat} : ItOk K F H M (Itr lo n) (rows1 (rng lo n)) any1 false := by
  refine ItOk.of (walk_range (lo := lo) (n := n)) (by unfold rows1 rng; rw [List.length_map, List.length_map, List.length_range]) (fun F2 H2 M2 r2 g2 _ => True.intro) (fun i x H2 H3 F2 M2 row hrow r2 g2 _ y => ?_)
  · obtain ⟨w, hw, rfl⟩ := rows1_get hrow
    unfold rng at hw
    rw [List.getElem?_map] at hw
    obtain ⟨c, hc, rfl⟩ := Option.map_eq_some_iff.mp hw
    have e : c = i := by
      obtain ⟨h1, h2⟩ := List.getElem?_eq_some_iff.mp hc
      rw [← h2]
      simp
    subst e
    obtain ⟨rfl, rfl⟩ := y
    exact ⟨_, rfl, rfl, .d (.int _)⟩
theorem si_r1 {t : TA} {T : TDA} {n : Nat} (h : SAn K Wx RE n t T) : SI K Wx RE (iRng1 t) false (itR1 T) := fun F H M σ ρ R Q hr hx hs ht k =>
  h F H M σ ρ _ _ hr hx hs ht fun vs H1 F1 M1 xs r1 g1 rxs hl h1 => by
    obtain ⟨x, rfl, h2⟩ := g1_of h1
    obtain ⟨j, rfl, ⟨c1, c2⟩, h3⟩ := gI_of h2
    obtain ⟨v, rfl, rv⟩ := rxs.one
    exact ⟨j, by rw [rv.int], c1, c2, k _ H1 F1 M1 _ _ r1 g1 rng_ok h3⟩
theorem si_r2 {t : TA} {T : TDA} {n : Nat} (h : SAn K Wx RE n t T) : SI K Wx RE (iRng2 t) false (itR2 T) := fun F H M σ ρ R Q hr hx hs ht k =>
  h F H M σ ρ _ _ hr hx hs ht fun vs H1 F1 M1 xs r1 g1 rxs hl h1 => by
    obtain ⟨x, y, rfl, h2⟩ := g2_of h1
    obtain ⟨i, rfl, h3⟩ := gI_of h2
    obtain ⟨j, rfl, c, h4⟩ := gI_of h3
    obtain ⟨v, u, rfl, rv, ru⟩ := rxs.two
    exact ⟨i, j, by rw [rv.int, ru.int], ⟨c.1.1, c.1.2, c.2.1, c.2.2⟩, k _ H1 F1 M1 _ _ r1 g1 rng_ok h4⟩
/-- enumerate(..) -/
def enumR (n : Nat) : List W → List (List W)
  | [] => []
  | w :: r => [.d (.int (n : Nat)), w] :: enumR (n + 1) r
theorem enumR_len : ∀ (n : Nat) (ws : List W), (enumR n ws).length = ws.length
  | _, [] => rfl
  | n, w :: r => by rw [enumR, List.length_cons, enumR_len (n + 1) r, List.length_cons]
theorem enumR_get : ∀ {n : Nat} {ws : List W} {i : Nat} {row : List W}, (enumR n ws)[i]? = some row → ∃ w, ws[i]? = some w ∧ row = [.d (.int ((n + i : Nat) : Int)), w]
  | _, [], _, _, h => by simp [enumR] at h
  | n, w :: r, 0, row, h => ⟨w, rfl, by simp [enumR] at h; exact h.symm⟩
  | n, w :: r, i + 1, row, h => by
    obtain ⟨w', h1, h2⟩ := enumR_get (n := n + 1) (ws := r) (i := i) (row := row) (by simpa [enumR] using h)
    exact ⟨w', by simpa using h1, by rw [h2, show n + 1 + i = n + (i + 1) by omega]⟩
@[reducible] def itEnT (T : TDA) : TDI := fun ρ M R => T ρ M fun xs M1 => g1 xs fun x => gT x fun ds => R (enumR 0 (ds.map W.d)) any1 M1
@[reducible] def itEnL (T : TDA) : TDI := fun ρ M R => T ρ M fun xs M1 => g1 xs fun x => match x with
  | .d (.list ds) => R (enumR 0 (ds.map W.d)) any1 M1
  | .r a => ∃ ws, M1 a = some (.lst ws) ∧ R (enumR 0 ws) (fun M => M a = some (.lst ws)) M1
  | _ => False
theorem si_enT {n : Nat} {t : TA} {T : TDA} (h : SAn K Wx RE n t T) : SI K Wx RE (iEnumT K t) true (itEnT T) := fun F H M σ ρ R Q hr hx hs ht k =>
  h F H M σ ρ _ _ hr hx hs ht fun vs H1 F1 M1 xs r1 g1 rxs hl h1 => by
    obtain ⟨x, rfl, h2⟩ := g1_of h1
    obtain ⟨v, rfl, rx⟩ := rxs.one
    obtain ⟨ds, rfl, h5⟩ := gT_of h2
    obtain ⟨a, xs, rfl, h3, h4⟩ := rx.tup
    refine ⟨a, xs, rfl, same_t r1.fh h3, k _ H1 F1 M1 _ _ r1 g1 ?_ h5⟩
    refine ItOk.of (walk_enumT (K := K) (a := a) (xs := xs)) (by rw [enumR_len, List.length_map, ← h4.len]) (fun F2 H2 M2 r2 g2 _ => same_t (g2.ff.trans r2.fh) h3) (fun i x H2 H3 F2 M2 row hrow r2 g2 _ y => ?_)
    · obtain ⟨w, hw, rfl⟩ := enumR_get hrow
      rw [List.getElem?_map] at hw
      obtain ⟨d, hd, rfl⟩ := Option.map_eq_some_iff.mp hw
      obtain ⟨v, hv, dv⟩ := h4.got hd
      obtain ⟨T', x', rfl, hT, rfl, hy⟩ := y
      rw [hv] at hy
      cases hy
      refine ⟨T', _, _, _, _, rfl, rfl, hT, rfl, ?_, .d (Dx.mono g2.ff _ _ dv)⟩
      rw [Nat.zero_add]
      exact .d (.int _)
theorem si_enL {n : Nat} {t : TA} {T : TDA} (h : SAn K Wx RE n t T) : SI K Wx RE (iEnum K t) true (itEnL T) := fun F H M σ ρ R Q hr hx hs ht k =>
  h F H M σ ρ _ _ hr hx hs ht fun vs H1 F1 M1 xs r1 g1 rxs hl h1 => by
    obtain ⟨x, rfl, h2⟩ := g1_of h1
    obtain ⟨v, rfl, rx⟩ := rxs.one
    have wk : ∀ (a : Addr) (n : Nat), Walk (Ite K a) n (fun H => ∃ vs, H a = some (.lst vs) ∧ vs.length = n) (fun i H v H' => ∃ T x, v = .ref T ∧ H T = none ∧ H' = upd H T (.tup [.int (i : Nat), x]) ∧ ∀ vs, H a = some (.lst vs) → vs[i]? = some x) := fun a n =>
      ⟨fun i H hi ⟨vs, q1, q2⟩ => ⟨vs, vs[i]'(by omega), SqL.of q1, List.getElem?_eq_getElem _⟩, fun H ⟨vs, q1, q2⟩ => ⟨vs, SqL.of q1, by omega⟩, fun i H x H' hi ⟨vs, q1, q2⟩ y => by
        obtain ⟨T, x', e1, e2, e3, e4⟩ := y
        exact ⟨T, x', e1, e2, e3, fun us hu => e4 us (SqL.of hu)⟩⟩
    cases x with
    | o a => exact h2.elim
    | x a C dd fs => exact h2.elim
    | d a =>
      cases a with
      | list ds =>
        obtain ⟨a, xs, rfl, h3, h4⟩ := rx.lst
        refine ⟨a, xs, rfl, SqL.of (r1.fh _ _ h3), k _ H1 F1 M1 _ _ r1 g1 ?_ h2⟩
        refine ItOk.of (wk a ds.length) (by rw [enumR_len, List.length_map]) (fun F2 H2 M2 r2 g2 _ => ⟨xs, (g2.ff.trans r2.fh) _ _ h3, h4.len⟩) (fun i x H2 H3 F2 M2 row hrow r2 g2 _ y => ?_)
        obtain ⟨w, hw, rfl⟩ := enumR_get hrow
        rw [List.getElem?_map] at hw
        obtain ⟨d, hd, rfl⟩ := Option.map_eq_some_iff.mp hw
        obtain ⟨v, hv, dv⟩ := h4.got hd
        obtain ⟨T', x', rfl, hT, rfl, hy⟩ := y
        have := hy xs ((g2.ff.trans r2.fh) _ _ h3)
        rw [hv] at this
        cases this
        refine ⟨T', _, _, _, _, rfl, rfl, hT, rfl, ?_, .d (Dx.mono g2.ff _ _ dv)⟩
        rw [Nat.zero_add]
        exact .d (.int _)
      | _ => exact h2.elim
    | r a =>
      obtain ⟨ws, hw, h3⟩ := h2
      rw [rx.ref]
      obtain ⟨xs, h4, h5⟩ := r1.lst hw
      refine ⟨a, xs, rfl, SqL.of h4, k _ H1 F1 M1 _ _ r1 g1 ?_ h3⟩
      refine ItOk.of (wk a ws.length) (by rw [enumR_len]) (fun F2 H2 M2 r2 g2 hk => ?_) (fun i x H2 H3 F2 M2 row hrow r2 g2 hk y => ?_)
      · obtain ⟨vs, q1, q2⟩ := r2.lst hk
        exact ⟨vs, q1, q2.len⟩
      · obtain ⟨w, hw, rfl⟩ := enumR_get hrow
        obtain ⟨vs, q1, q2⟩ := r2.lst hk
        obtain ⟨v, hv, rv⟩ := q2.got hw
        obtain ⟨T', x', rfl, hT, rfl, hy⟩ := y
        have := hy vs q1
        rw [hv] at this
        cases this
        refine ⟨T', _, _, _, _, rfl, rfl, hT, rfl, ?_, rv⟩
        rw [Nat.zero_add]
        exact .d (.int _)
/-! ### binding -/
@[reducible] def bName (i : Nat) : TDG := fun row ρ M R => match row with | [w] => R (put ρ i (some w)) M | _ => False
theorem sg_name {i : Nat} : SG K (gName i) false [i] (bName i) := fun F H M x H' row σ ρ R Q hr hy hs hb k => by
  obtain ⟨w, rfl, rfl, rx⟩ := hy
  refine k _ _ F M _ hr .refl (hs.set rx i) ?_ hb
  show (σ.set i (some x)).set i none = σ.set i none
  rw [List.set_set]
/-- a pair that is made for the turn -/
@[reducible] def bPair (i j : Nat) : TDG := fun row ρ M R => match row with | [w1, w2] => R (put (put ρ i (some w1)) j (some w2)) M | _ => False
theorem wipe2 {σ : L2.St} {i j : Nat} {a b : Option V} : wipe ((σ.set i a).set j b) [i, j] = wipe σ [i, j] := by
  show (((σ.set i a).set j b).set j none).set i none = (σ.set j none).set i none
  rw [List.set_set]
  by_cases h : i = j
  · subst h
    rw [List.set_set, List.set_set, List.set_set]
  · rw [List.set_comm _ _ h, List.set_set]
theorem sg_pair {i j : Nat} : SG K (gTup K 2 (gCons (gName i) (gCons (gName j) gNil))) true [i, j] (bPair i j) := fun F H M x H' row σ ρ R Q hr hy hs hb k => by
  obtain ⟨T, v1, v2, w1, w2, rfl, rfl, hT, rfl, q1, q2⟩ := hy
  obtain ⟨r2, g2⟩ := hr.same (same_new (o := .tup [v1, v2]) hT)
  refine ⟨T, [v1, v2], rfl, .inl (.inl upd_same), rfl, v1, [v2], rfl, v2, [], rfl, rfl, ?_⟩
  exact k _ _ F M _ r2 g2 ((hs.set q1 i).set q2 j) wipe2 hb
/-- a tuple that stands there: two names -/
@[reducible] def bTup2 (i j : Nat) : TDG := fun row ρ M R => match row with | [w] => gT w fun ds => (match ds with | [a, b] => R (put (put ρ i (some (.d a))) j (some (.d b))) M | _ => False) | _ => False
theorem sg_tup2 {i j : Nat} : SG K (gTup K 2 (gCons (gName i) (gCons (gName j) gNil))) false [i, j] (bTup2 i j) := fun F H M x H' row σ ρ R Q hr hy hs hb k => by
  obtain ⟨w, rfl, rfl, rx⟩ := hy
  obtain ⟨ds, rfl, h1⟩ := gT_of hb
  obtain ⟨a, xs, rfl, h2, h3⟩ := rx.tup
  split at h1
  · rename_i c d
    cases h3 with
    | cons q1 h3 =>
    cases h3 with
    | cons q2 h3 =>
    cases h3
    refine ⟨a, _, rfl, same_t hr.fh h2, rfl, _, _, rfl, _, [], rfl, rfl, ?_⟩
    exact k _ _ F M _ hr .refl ((hs.set (.d q1) i).set (.d q2) j) wipe2 h1
  · exact h1.elim
/-! ### list comprehensions -/
/-- one after another; behind all the new list -/
def lcGo (b : TDG) (keep : Mem → Prop) (tt : TDT) (te : TDE) (ρ : EnvD) (fin : List W → Mem → Prop) : List (List W) → List W → Mem → Prop
  | [], acc, M => keep M ∧ fin acc M
  | row :: rest, acc, M => keep M ∧ b row ρ M fun ρ1 M1 => tt ρ1 M1 fun c M2 => IfB c (te ρ1 M2 fun y M3 => acc.length < sizeLine ∧ lcGo b keep tt te ρ fin rest (acc ++ [y]) M3) (lcGo b keep tt te ρ fin rest acc M2)
theorem wipe_wipe : ∀ (vs : List Nat) (σ : L2.St), vs.length ≤ 2 → wipe (wipe σ vs) vs = wipe σ vs
  | [], σ, _ => rfl
  | [a], σ, _ => by
    show (σ.set a none).set a none = σ.set a none
    rw [List.set_set]
  | [a, b], σ, _ => by
    show (((σ.set b none).set a none).set b none).set a none = (σ.set b none).set a none
    by_cases h : a = b
    · subst h
      rw [List.set_set, List.set_set, List.set_set]
    · rw [List.set_comm _ _ h, List.set_set, List.set_set]
  | _ :: _ :: _ :: _, _, h => by simp at h
theorem RelS.wipe {F : Hp} {σ : L2.St} {ρ : EnvD} (h : RelS K F σ ρ) : ∀ (vs : List Nat), (∀ i ∈ vs, slot ρ i = none) → RelS K F (L2.wipe σ vs) ρ
  | [], _ => h
  | v :: vs, hn => by
    have ih := h.wipe vs fun i hi => hn i (.tail _ hi)
    refine ⟨by rw [wipe_length]; exact h.len, fun i x c => ?_⟩
    obtain ⟨u, h1, h2⟩ := ih.at_ i x c
    refine ⟨u, ?_, h2⟩
    show ((L2.wipe σ vs).set v none)[i]? = _
    rw [List.getElem?_set_ne fun z => by rw [z] at hn; have := hn i (.head _); rw [c] at this; cases this]
    exact h1
/-- the slots of a comprehension's own names forgotten -/
@[reducible] def hide (ρ : EnvD) : List Nat → EnvD
  | [] => ρ
  | v :: vs => put (hide ρ vs) v none
theorem hide_rel {F : Hp} {σ : L2.St} {ρ : EnvD} (h : RelS K F σ ρ) : ∀ vs, RelS K F (L2.wipe σ vs) (hide ρ vs)
  | [] => h
  | v :: vs => (hide_rel h vs).del v none
theorem lc_core {wi : TI} {g : TG} {tt : TT} {te : TE} {vs : List Nat} {pair : Bool} {it : TDI} {b : TDG} {Tt : TDT} {Te : TDE} (hi : SI K Wx RE wi pair it) (hg : SG K g pair vs b) (ht : ST K (fun _ _ _ _ => False) (fun _ _ _ => False) tt Tt) (he : SE K (fun _ _ _ _ => False) (fun _ _ _ => False) te Te) (hv : vs.length ≤ 2)
    (fin : (W → Mem → Prop) → List W → Mem → Prop)
    (hf : ∀ F H M R Q D acc vl, Rl K F H M → H D = some (.lst vl) → F D = none → M D = none → RWs K F vl acc → fin R acc M → (∀ F0 H0 M0, Gr F0 H0 M0 F H M → H0 D = none → Kt K F0 H0 M0 R Q → Q (.ref D) H)) :
    SE K Wx RE (tLc wi g tt te vs) (fun ρ M R => it ρ M fun rows keep M1 => lcGo b keep Tt Te (hide ρ vs) (fin R) rows [] M1) := fun F H M σ ρ R Q hr hx hs hT k =>
  hi F H M σ ρ _ _ hr hx hs hT fun J H1 F1 M1 rows keep r1 g1 iok h1 D hD => by
    obtain ⟨G, Y, wk, hG, hY⟩ := iok
    have x0 : ∀ (F H : Hp) (M : Mem), XOk K F H M (fun _ _ _ _ => False) (fun _ _ _ => False) := fun F H M F' H' M' σ ρ cls d x _ _ _ _ z => z
    refine lc_it wk (fun i H2 => ∃ F2 M2 acc vl, Rl K F2 H2 M2 ∧ Gr F1 H1 M1 F2 H2 M2 ∧ H2 D = some (.lst vl) ∧ F2 D = none ∧ M2 D = none ∧ RWs K F2 vl acc ∧ lcGo b keep Tt Te (hide ρ vs) (fin R) (rows.drop i) acc M2)
      ⟨F1, M1, [], [], (r1.hid (r1.fh.free hD) (r1.new hD)), ⟨Same.refl _, fun c u q n => ⟨by rw [upd_ne (ne_of_none q hD)]; exact q, n⟩, fun _ _ _ _ f => f⟩, upd_same, r1.fh.free hD, r1.new hD, .nil, h1⟩
      (fun i H2 hi2 ⟨F2, M2, acc, vl, r2, g2, d1, d2, d3, d4, q⟩ => ?_) (fun i x H2 H3 hi2 ⟨F2, M2, acc, vl, r2, g2, d1, d2, d3, d4, q⟩ y => ?_) (fun H2 ⟨F2, M2, acc, vl, r2, g2, d1, d2, d3, d4, q⟩ => ?_)
    · have hk : keep M2 := by
        cases hd : rows.drop i with
        | nil => rw [hd] at q; exact q.1
        | cons a b => rw [hd] at q; exact q.1
      exact hG F2 H2 M2 r2 g2 hk
    · rw [List.drop_eq_getElem_cons hi2] at q
      obtain ⟨hk, q⟩ := q
      have hrow : rows[i]? = some rows[i] := List.getElem?_eq_getElem hi2
      have yd := hY i x H2 H3 F2 M2 _ hrow r2 g2 hk y
      have rel := (hs.mono (g1.trans g2).ff)
      refine hg F2 H2 M2 x H3 _ (wipe σ vs) (hide ρ vs) _ _ r2 yd (hide_rel rel vs) q fun σ4 H4 F4 M4 ρ4 r4 g4 s4 w4 q4 => ⟨by rw [w4]; exact wipe_wipe vs σ hv, ?_⟩
      have D4 : H4 D = some (.lst vl) ∧ M4 D = none := g4.un D _ d1 d3
      have F4D : F4 D = none := g4.nf D _ d1 d3 d2
      refine ht F4 H4 M4 σ4 ρ4 _ _ r4 (x0 _ _ _) s4 q4 fun c H5 F5 M5 r5 g5 q5 => ?_
      have D5 := g5.un D _ D4.1 D4.2
      have F5D := g5.nf D _ D4.1 D4.2 F4D
      have q5 := q5.ite
      by_cases hc : c = true
      · rw [if_pos hc] at q5 ⊢
        refine he F5 H5 M5 σ4 ρ4 _ _ r5 (x0 _ _ _) (s4.mono g5.ff) q5 fun v6 H6 F6 M6 z6 r6 g6 rz6 q6 => ?_
        have D6 := g6.un D _ D5.1 D5.2
        have F6D := g6.nf D _ D5.1 D5.2 F5D
        have gg := ((g4.trans g5).trans g6)
        refine ⟨vl, D6.1, by rw [d4.len]; exact q6.1, F6, M6, acc ++ [z6], vl ++ [v6], r6.hid F6D D6.2, ?_, upd_same, F6D, D6.2, (d4.mono gg.ff).app (.cons rz6 .nil), q6.2⟩
        have g7 := g2.trans gg
        refine ⟨g7.ff, fun c u q n => ?_, g7.nf⟩
        have z : c ≠ D := ne_of_none q hD
        rw [upd_ne z]
        exact g7.un c u q n
      · rw [if_neg hc] at q5 ⊢
        exact ⟨F5, M5, acc, vl, r5, (g2.trans (g4.trans g5)), D5.1, F5D, D5.2, d4.mono (g4.trans g5).ff, q5⟩
    · rw [List.drop_length] at q
      exact hf F2 H2 M2 R Q D acc vl r2 d1 d2 d3 d4 q.2 F1 H1 M1 g2 hD fun v H' F' M' x a b c d => k v H' F' M' x a (g1.trans b) c d
/-- a list that is data -/
@[reducible] def lcF (it : TDI) (b : TDG) (tt : TDT) (te : TDE) (vs : List Nat) : TDE := fun ρ M R => it ρ M fun rows keep M1 => lcGo b keep tt te (hide ρ vs) (fun acc M2 => gDs acc fun ds => R (.d (.list ds)) M2) rows [] M1
/-- a list that may change -/
@[reducible] def lcL (it : TDI) (b : TDG) (tt : TDT) (te : TDE) (vs : List Nat) : TDE := fun ρ M R => it ρ M fun rows keep M1 => lcGo b keep tt te (hide ρ vs) (fun acc M2 => ∀ p, M2 p = none → R (.r p) (mset M2 p (.lst acc))) rows [] M1
theorem se_lcF {wi : TI} {g : TG} {tt : TT} {te : TE} {vs : List Nat} {pair : Bool} {it : TDI} {b : TDG} {Tt : TDT} {Te : TDE} (hi : SI K Wx RE wi pair it) (hg : SG K g pair vs b) (ht : ST K (fun _ _ _ _ => False) (fun _ _ _ => False) tt Tt) (he : SE K (fun _ _ _ _ => False) (fun _ _ _ => False) te Te) (hv : vs.length ≤ 2 := by decide) :
    SE K Wx RE (tLc wi g tt te vs) (lcF it b Tt Te vs) :=
  lc_core hi hg ht he hv (fun R acc M2 => gDs acc fun ds => R (.d (.list ds)) M2) fun F H M R Q D acc vl hr h1 h2 h3 h4 hq F0 H0 M0 g hD k => by
    obtain ⟨ds, rfl, h5⟩ := gDs_of hq
    have e : Same F (upd F D (.lst vl)) := same_new h2
    have r' : Rl K (upd F D (.lst vl)) H M := by
      refine ⟨fun b u q => ?_, fun a o c => ?_, fun a o c => ?_⟩
      · by_cases z : b = D
        · subst z
          rw [upd_same] at q
          rw [h1]
          exact q
        · rw [upd_ne z] at q
          exact hr.fh b u q
      · rw [upd_ne (fun z => by rw [z, h3] at c; cases c)]
        exact hr.mf a o c
      · obtain ⟨u, q1, q2⟩ := hr.at_ a o c
        exact ⟨u, q1, q2.mono e⟩
    refine k _ H _ M _ r' ⟨g.ff.trans e, g.un, fun b u q n f => ?_⟩ (.d (.lst upd_same (DxL.mono e _ _ h4.undat))) h5
    rw [upd_ne (ne_of_none q hD)]
    exact g.nf b u q n f
theorem se_lcL {wi : TI} {g : TG} {tt : TT} {te : TE} {vs : List Nat} {pair : Bool} {it : TDI} {b : TDG} {Tt : TDT} {Te : TDE} (hi : SI K Wx RE wi pair it) (hg : SG K g pair vs b) (ht : ST K (fun _ _ _ _ => False) (fun _ _ _ => False) tt Tt) (he : SE K (fun _ _ _ _ => False) (fun _ _ _ => False) te Te) (hv : vs.length ≤ 2 := by decide) :
    SE K Wx RE (tLc wi g tt te vs) (lcL it b Tt Te vs) :=
  lc_core hi hg ht he hv (fun R acc M2 => ∀ p, M2 p = none → R (.r p) (mset M2 p (.lst acc))) fun F H M R Q D acc vl hr h1 h2 h3 h4 hq F0 H0 M0 g hD k => by
    have r' : Rl K F H (mset M D (.lst acc)) := by
      refine ⟨hr.fh, fun a o c => ?_, fun a o c => ?_⟩
      · by_cases z : a = D
        · rw [z]; exact h2
        · rw [mset_ne z] at c; exact hr.mf a o c
      · by_cases z : a = D
        · subst z
          rw [mset_same] at c
          cases c
          exact ⟨_, h1, vl, rfl, h4⟩
        · rw [mset_ne z] at c; exact hr.at_ a o c
    refine k _ H _ _ _ r' ⟨g.ff, fun b u q n => ?_, g.nf⟩ (.r D) (hq D h3)
    rw [mset_ne (ne_of_none q hD)]
    exact g.un b u q n
end
end Tl
set_option Elab.async false
set_option linter.all false
set_option maxRecDepth 100000
set_option maxHeartbeats 4000000
namespace Tl
open PySem L2
/-! ### statements -/
structure EndD where
  nx : EnvD → Mem → Prop
  rt : W → Mem → Prop
  bk : EnvD → Mem → Prop := fun _ _ => False
  ct : EnvD → Mem → Prop := fun _ _ => False
abbrev TDS := EndD → EnvD → Mem → Prop
abbrev Nk (K : PySem.W.Frag) (F H : Hp) (M : Mem) (R : EnvD → Mem → Prop) (Q : L2.St → Hp → Prop) : Prop := ∀ σ' H' F' M' ρ', Rl K F' H' M' → Gr F H M F' H' M' → RelS K F' σ' ρ' → R ρ' M' → Q σ' H'
structure EK (K : PySem.W.Frag) (F H : Hp) (M : Mem) (D : EndD) (E : Ends) : Prop where
  nx : Nk K F H M D.nx E.nx
  rt : Kt K F H M D.rt E.rt
  bk : Nk K F H M D.bk E.bk
  ct : Nk K F H M D.ct E.ct
theorem EK.mono {K : PySem.W.Frag} {F H F' H' : Hp} {M M' : Mem} {D : EndD} {E : Ends} (k : EK K F H M D E) (g : Gr F H M F' H' M') : EK K F' H' M' D E :=
  ⟨fun σ H2 F2 M2 ρ r g2 => k.nx σ H2 F2 M2 ρ r (g.trans g2), fun v H2 F2 M2 x r g2 => k.rt v H2 F2 M2 x r (g.trans g2), fun σ H2 F2 M2 ρ r g2 => k.bk σ H2 F2 M2 ρ r (g.trans g2), fun σ H2 F2 M2 ρ r g2 => k.ct σ H2 F2 M2 ρ r (g.trans g2)⟩
def SSt (K : PySem.W.Frag) (Wx : WX) (RE : REx) (t : TS) (T : TDS) : Prop :=
  ∀ F H M σ ρ D E, Rl K F H M → XOk K F H M Wx RE → RelS K F σ ρ → T D ρ M → EK K F H M D E → t E σ H
section
variable {K : PySem.W.Frag} {Wx : WX} {RE : REx}
@[reducible] def nextS : TDS := fun D ρ M => D.nx ρ M
@[reducible] def seqS (T U : TDS) : TDS := fun D ρ M => T { D with nx := U D } ρ M
@[reducible] def retS (T : TDE) : TDS := fun D ρ M => T ρ M D.rt
@[reducible] def dropS (T : TDE) : TDS := fun D ρ M => T ρ M fun _ M1 => D.nx ρ M1
@[reducible] def ifS (c : TDT) (T U : TDS) : TDS := fun D ρ M => c ρ M fun b M1 => IfB b (T D ρ M1) (U D ρ M1)
@[reducible] def setS (i : Nat) (T : TDE) : TDS := fun D ρ M => T ρ M fun x M1 => D.nx (put ρ i (some x)) M1
theorem ss_nil : SSt K Wx RE tNext nextS := fun F H M σ ρ D E hr hx hs ht k => k.nx σ H F M ρ hr .refl hs ht
theorem ss_cons {t u : TS} {T U : TDS} (h1 : SSt K Wx RE t T) (h2 : SSt K Wx RE u U) : SSt K Wx RE (tSeq t u) (seqS T U) := fun F H M σ ρ D E hr hx hs ht k =>
  h1 F H M σ ρ { D with nx := U D } { E with nx := u E } hr hx hs ht ⟨fun σ' H' F' M' ρ' r g s q => h2 F' H' M' σ' ρ' D E r (hx.mono g) s q (k.mono g), k.rt, k.bk, k.ct⟩
theorem ss_ret {t : TE} {T : TDE} (h : SE K Wx RE t T) : SSt K Wx RE (tRet t) (retS T) := fun F H M σ ρ D E hr hx hs ht k => h F H M σ ρ _ _ hr hx hs ht k.rt
theorem ss_drop {t : TE} {T : TDE} (h : SE K Wx RE t T) : SSt K Wx RE (tDrop t) (dropS T) := fun F H M σ ρ D E hr hx hs ht k =>
  h F H M σ ρ _ _ hr hx hs ht fun v H1 F1 M1 x r1 g1 rx h1 => k.nx σ H1 F1 M1 ρ r1 g1 (hs.mono g1.ff) h1
theorem ss_if {c : TT} {t u : TS} {C : TDT} {T U : TDS} (hc : ST K Wx RE c C) (h1 : SSt K Wx RE t T) (h2 : SSt K Wx RE u U) : SSt K Wx RE (tIfS c t u) (ifS C T U) := fun F H M σ ρ D E hr hx hs ht k =>
  hc F H M σ ρ _ _ hr hx hs ht fun b H1 F1 M1 r1 g1 q1 => by
    have q1 := q1.ite
    by_cases hb : b = true
    · rw [if_pos hb] at q1 ⊢
      exact h1 F1 H1 M1 σ ρ D E r1 (hx.mono g1) (hs.mono g1.ff) q1 (k.mono g1)
    · rw [if_neg hb] at q1 ⊢
      exact h2 F1 H1 M1 σ ρ D E r1 (hx.mono g1) (hs.mono g1.ff) q1 (k.mono g1)
theorem ss_set {i : Nat} {t : TE} {T : TDE} (h : SE K Wx RE t T) : SSt K Wx RE (tAsg t (gName i)) (setS i T) := fun F H M σ ρ D E hr hx hs ht k =>
  h F H M σ ρ _ _ hr hx hs ht fun v H1 F1 M1 x r1 g1 rx h1 => k.nx _ H1 F1 M1 _ r1 g1 ((hs.mono g1.ff).set rx i) h1
/-- a, b = e -/
@[reducible] def unpS (b : TDG) (T : TDE) : TDS := fun D ρ M => T ρ M fun x M1 => b [x] ρ M1 D.nx
theorem ss_unp {g : TG} {vs : List Nat} {b : TDG} {t : TE} {T : TDE} (hg : SG K g false vs b) (h : SE K Wx RE t T) : SSt K Wx RE (tAsg t g) (unpS b T) := fun F H M σ ρ D E hr hx hs ht k =>
  h F H M σ ρ _ _ hr hx hs ht fun v H1 F1 M1 x r1 g1 rx h1 => hg F1 H1 M1 v H1 [x] σ ρ _ _ r1 ⟨x, rfl, rfl, rx⟩ (hs.mono g1.ff) h1 fun σ' H2 F2 M2 ρ' r2 g2 s2 _ q2 => k.nx σ' H2 F2 M2 ρ' r2 (g1.trans g2) s2 q2
/-- xs[i] = e, xs a list that may change -/
@[reducible] def setIx (T O I : TDE) : TDS := fun D ρ M => T ρ M fun y M1 => O ρ M1 fun x M2 => I ρ M2 fun i M3 => gR x fun a => gI i fun n => ∃ ws, M3 a = some (.lst ws) ∧ gO (ixN ws.length n) fun j => D.nx ρ (mset M3 a (.lst (ws.set j y)))
/-- for -/
def forGo (b : TDG) (keep : Mem → Prop) (body : TDS) (D : EndD) : List (List W) → EnvD → Mem → Prop
  | [], ρ, M => keep M ∧ D.nx ρ M
  | row :: rest, ρ, M => keep M ∧ b row ρ M fun ρ1 M1 => body ⟨forGo b keep body D rest, D.rt, D.nx, forGo b keep body D rest⟩ ρ1 M1
@[reducible] def forS (it : TDI) (b : TDG) (body : TDS) : TDS := fun D ρ M => it ρ M fun rows keep M1 => forGo b keep body D rows ρ M1
theorem ss_for {wi : TI} {g : TG} {tb : TS} {pair : Bool} {vs : List Nat} {it : TDI} {b : TDG} {Tb : TDS} (hi : SI K Wx RE wi pair it) (hg : SG K g pair vs b) (hb : SSt K Wx RE tb Tb) : SSt K Wx RE (tFor wi g tb) (forS it b Tb) := fun F H M σ ρ D E hr hx hs ht k =>
  hi F H M σ ρ _ _ hr hx hs ht fun J H1 F1 M1 rows keep r1 g1 iok h1 => by
    obtain ⟨G, Y, wk, hG, hY⟩ := iok
    refine for_it wk (fun i σ2 H2 => ∃ F2 M2 ρ2, Rl K F2 H2 M2 ∧ Gr F1 H1 M1 F2 H2 M2 ∧ RelS K F2 σ2 ρ2 ∧ forGo b keep Tb D (rows.drop i) ρ2 M2)
      ⟨F1, M1, ρ, r1, .refl, hs.mono g1.ff, h1⟩ (fun i σ2 H2 hi2 ⟨F2, M2, ρ2, r2, g2, s2, q⟩ => ?_) (fun i x σ2 H2 H3 hi2 ⟨F2, M2, ρ2, r2, g2, s2, q⟩ y => ?_) (fun σ2 H2 ⟨F2, M2, ρ2, r2, g2, s2, q⟩ => ?_)
    · have hk : keep M2 := by
        cases hd : rows.drop i with
        | nil => rw [hd] at q; exact q.1
        | cons a b => rw [hd] at q; exact q.1
      exact hG F2 H2 M2 r2 g2 hk
    · rw [List.drop_eq_getElem_cons hi2] at q
      obtain ⟨hk, q⟩ := q
      have yd := hY i x H2 H3 F2 M2 _ (List.getElem?_eq_getElem hi2) r2 g2 hk y
      refine hg F2 H2 M2 x H3 _ σ2 ρ2 _ _ r2 yd s2 q fun σ4 H4 F4 M4 ρ4 r4 g4 s4 _ q4 => ?_
      have gg := g2.trans g4
      refine hb F4 H4 M4 σ4 ρ4 _ _ r4 (hx.mono (g1.trans gg)) s4 q4 ⟨fun σ5 H5 F5 M5 ρ5 r5 g5 s5 q5 => ⟨F5, M5, ρ5, r5, gg.trans g5, s5, q5⟩, fun v H5 F5 M5 x5 r5 g5 => k.rt v H5 F5 M5 x5 r5 ((g1.trans gg).trans g5), fun σ5 H5 F5 M5 ρ5 r5 g5 => k.nx σ5 H5 F5 M5 ρ5 r5 ((g1.trans gg).trans g5), fun σ5 H5 F5 M5 ρ5 r5 g5 s5 q5 => ⟨F5, M5, ρ5, r5, gg.trans g5, s5, q5⟩⟩
    · rw [List.drop_length] at q
      exact k.nx σ2 H2 F2 M2 ρ2 r2 (g1.trans g2) s2 q.2
/-- raise -/
@[reducible] def raiseS (RE : REx) (x : Ex) : TDS := fun _ ρ M => RE x ρ M
theorem ss_raise0 {C : Addr} : SSt K Wx RE (fun _ σ H => (fun _ H Q => Q (.ref C) none H : L2.St → Hp → XK → Prop) σ H fun cls d H' => Wx cls d σ H') (raiseS RE ⟨.ref C, []⟩) := fun F H M σ ρ D E hr hx hs ht k =>
  hx F H M σ ρ _ _ ⟨.ref C, []⟩ .refl hr hs ⟨rfl, rfl⟩ ht
/-- a store xs[i] = e -/
theorem ss_setIx {t to ti : TE} {T O I : TDE} (h1 : SE K Wx RE t T) (h2 : SE K Wx RE to O) (h3 : SE K Wx RE ti I) {ts : TSet}
    (hts : ∀ {a : Addr} {vs : List V} {i : Int} {j : Nat} {y : V} {H : Hp} {Q : Hp → Prop}, H a = some (.lst vs) → ixN vs.length i = some j → Q (upd H a (.lst (vs.set j y))) → ts (.ref a) (.int i) y H Q) : SSt K Wx RE (tAsg t (gSub to ti ts)) (setIx T O I) := fun F H M σ ρ D E hr hx hs ht k =>
  h1 F H M σ ρ _ _ hr hx hs ht fun v H1 F1 M1 x r1 g1 rx q1 => h2 F1 H1 M1 σ ρ _ _ r1 (hx.mono g1) (hs.mono g1.ff) q1 fun v2 H2 F2 M2 x2 r2 g2 rx2 q2 =>
    h3 F2 H2 M2 σ ρ _ _ r2 (hx.mono (g1.trans g2)) (hs.mono (g1.trans g2).ff) q2 fun v3 H3 F3 M3 x3 r3 g3 rx3 q3 => by
      obtain ⟨a, rfl, q4⟩ := gR_of q3
      obtain ⟨n, rfl, ws, hw, q5⟩ := gI_of q4
      obtain ⟨j, hj, q6⟩ := gO_of q5
      obtain ⟨vs, e1, e2⟩ := r3.lst hw
      have rv := rx.mono (g2.trans g3).ff
      obtain ⟨r4, g4⟩ := r3.put (u := .lst (vs.set j v)) (o := .lst (ws.set j x)) hw ⟨_, rfl, e2.set rv j⟩
      have e3 := (rx2.mono g3.ff).ref
      rw [e3, rx3.int]
      refine hts e1 (by rw [e2.len]; exact hj) ?_
      have g := ((g1.trans g2).trans g3).trans g4
      exact k.nx σ _ _ _ ρ r4 g (hs.mono g.ff) q6
theorem ts_list {a : Addr} {vs : List V} {i : Int} {j : Nat} {y : V} {H : Hp} {Q : Hp → Prop} (h1 : H a = some (.lst vs)) (h2 : ixN vs.length i = some j) (q : Q (upd H a (.lst (vs.set j y)))) : ∃ p xs i' k, (V.ref a) = .ref p ∧ (V.int i) = .int i' ∧ H p = some (.lst xs) ∧ ixN xs.length i' = some k ∧ Q (upd H p (.lst (xs.set k y))) := ⟨a, vs, i, j, rfl, rfl, h1, h2, q⟩
end
/-! ### defs -/
section
variable {P : Program} {w : World} {K : PySem.W.Frag} {mg : Str → Option Value} {base : Heap}
/-- the slots as a def begins -/
@[reducible] def start0 (n : Nat) (ws : List W) : EnvD := ws.map some ++ List.replicate (n - ws.length) none
theorem slot_rep (m i : Nat) : slot (List.replicate m none) i = none := by
  induction m generalizing i with
  | zero => rfl
  | succ m ih =>
    rw [List.replicate_succ]
    cases i with
    | zero => rfl
    | succ i => exact ih i
theorem slot_start : ∀ {ws : List W} {m i : Nat} {x : W}, slot (ws.map some ++ List.replicate m none) i = some x → ws[i]? = some x
  | [], m, i, x, h => by
    rw [List.map_nil, List.nil_append, slot_rep] at h
    cases h
  | w :: ws, m, 0, x, h => h
  | w :: ws, m, i + 1, x, h => by
    have := slot_start (ws := ws) (m := m) (i := i) h
    simpa using this
theorem rel_start {F : Hp} {N : List Str} {vs : List V} {ws : List W} (r : RWs K F vs ws) : RelS K F (L2.start N vs) (start0 N.length ws) := by
  refine ⟨?_, fun i x c => ?_⟩
  · unfold L2.start start0
    rw [List.length_append, List.length_append, List.length_map, List.length_map, List.length_replicate, List.length_replicate, r.len]
  · obtain ⟨v, h1, h2⟩ := r.got (slot_start c)
    refine ⟨v, ?_, h2⟩
    unfold L2.start
    rw [List.getElem?_append_left (by rw [List.length_map]; exact (List.getElem?_eq_some_iff.mp h1).1), List.getElem?_map, h1]
    rfl
/-- what is wanted behind a def -/
abbrev endD (R : W → Mem → Prop) : EndD := ⟨fun _ M => R (.d .none) M, R, fun _ _ => False, fun _ _ => False⟩
theorem ek_def {F H : Hp} {M : Mem} {R : W → Mem → Prop} {Q : VK} (k : Kt K F H M R Q) : EK K F H M (endD R) { nx := fun _ H' => Q .non H', rt := Q } :=
  ⟨fun σ H' F' M' ρ r g s q => k _ H' F' M' _ r g (.d .non) q, k, fun _ _ _ _ _ _ _ _ z => z.elim, fun _ _ _ _ _ _ _ _ z => z.elim⟩
/-- a def that lets nothing out -/
theorem okD {f : Addr} {fd : FuncData} {k n : Nat} {x qual : Str} {st : Stmt} {N ps : List Str} {tf : TF} (F : Fun K x qual st f fd) (S : FnScope N ps (defScope st)) (hp : ps.length = n)
    (hb : ∀ (cdv : Value) (A : Around) (outer : List Env) (s : Shared) (H : Hp) (E : XK), Room k (A.deeper (PyProof.Rows.envOfC qual (defScope st) s.heap.objs.size f cdv)) →
      ∃ (t : TS) (T : TDS), PSs (cxOf CX0 P w K mg base N qual (defScope st) f cdv A outer s H E).nox (defBody st) t ∧ SSt K (fun _ _ _ _ => False) (fun _ _ _ => False) t T ∧
        ∀ ws M R RX, ws.length = n → tf ws M R RX → T (endD R) (start0 N.length ws) M) : FnOk P w K mg base CX0 (k + 1) f fd ps (spD K n tf) := by
  refine F.ok S (fun vs H Q E h => ?_) (fun cdv A outer s H vs Q E hr h => ?_)
  · obtain ⟨F0, M, ws, R, RX, r, rs, hl, _⟩ := h
    rw [rs.len, hl, hp]
  · obtain ⟨F0, M, ws, R, RX, r, rs, hl, hf, hk, _⟩ := h
    obtain ⟨t, T, h1, h2, h3⟩ := hb cdv A outer s H E hr
    refine ⟨t, h1, h2 F0 H M _ _ _ _ r (fun F' H' M' σ ρ cls d x _ _ _ _ z => z) (rel_start rs) (h3 ws M R RX hl hf) (ek_def hk)⟩
/-- a def that errors may leave -/
theorem okDX {f : Addr} {fd : FuncData} {k n : Nat} {x qual : Str} {st : Stmt} {N ps : List Str} {tf : TF} (F : Fun K x qual st f fd) (S : FnScope N ps (defScope st)) (hp : ps.length = n)
    (hb : ∀ (cdv : Value) (A : Around) (outer : List Env) (s : Shared) (H : Hp) (E : XK), Room k (A.deeper (PyProof.Rows.envOfC qual (defScope st) s.heap.objs.size f cdv)) →
      ∃ (t : TS) (T : REx → TDS), PSs (cxOf (L2.CX P w) P w K mg base N qual (defScope st) f cdv A outer s H E) (defBody st) t ∧ (∀ RE, SSt K (fun cls d _ H => E cls d H) RE t (T RE)) ∧
        ∀ ws M R RX, ws.length = n → tf ws M R RX → T (fun x _ M => RX x M) (endD R) (start0 N.length ws) M) : FnOk P w K mg base (L2.CX P w) (k + 1) f fd ps (spD K n tf) := by
  refine F.okX S (fun vs H Q E h => ?_) (fun cdv A outer s H vs Q E hr h => ?_)
  · obtain ⟨F0, M, ws, R, RX, r, rs, hl, _⟩ := h
    rw [rs.len, hl, hp]
  · obtain ⟨F0, M, ws, R, RX, r, rs, hl, hf, hk, hx⟩ := h
    obtain ⟨t, T, h1, h2, h3⟩ := hb cdv A outer s H E hr
    refine ⟨t, h1, h2 (fun x _ M => RX x M) F0 H M _ _ _ _ r (fun F' H' M' σ ρ cls d x g r' _ xr z => hx cls d H' F' M' x r' g xr z) (rel_start rs) (h3 ws M R RX hl hf) (ek_def hk)⟩
end
end Tl
set_option Elab.async false
set_option linter.all false
set_option maxRecDepth 100000
set_option maxHeartbeats 4000000
namespace Tl
open PySem L2 RZ
theorem PS.nox {X : Cx} {st : Stmt} {t : TS} (h : PS X.nox st t) : PS X st t := ⟨fun pins s σ H D I hw =>
  wpAny_mono (h.run pins s σ H D (I.wish _) hw) (fun _ _ q => q.unwish) fun _ _ z => False.elim z⟩
section
variable {K : PySem.W.Frag} {Wx : WX} {RE : REx}
@[reducible] def yesT : TDT := fun _ M R => R true M
theorem st_yes : ST K Wx RE tYes yesT := fun F H M σ ρ R Q hr hx hs ht k => k true H F M hr .refl ht
/-- x += e, numbers -/
@[reducible] def augI (g : Int → Int → Int) (i : Nat) (T : TDE) : TDS := fun D ρ M => match slot ρ i with | some x => T ρ M fun y M1 => gI x fun a => gI y fun b => D.nx (put ρ i (some (.d (.int (g a b))))) M1 | none => False
theorem ss_augI {g : Int → Int → Int} {i : Nat} {t : TE} {T : TDE} (h : SE K Wx RE t T) : SSt K Wx RE (tAug i t (ipI g)) (augI g i T) := fun F H M σ ρ D E hr hx hs ht k => by
  unfold augI at ht
  cases c : slot ρ i with
  | none => rw [c] at ht; exact ht.elim
  | some x =>
    rw [c] at ht
    obtain ⟨v, h1, h2⟩ := hs.at_ i x c
    refine ⟨v, h1, h F H M σ ρ _ _ hr hx hs ht fun u H1 F1 M1 y r1 g1 ry q1 => ?_⟩
    obtain ⟨a, rfl, q2⟩ := gI_of q1
    obtain ⟨b, rfl, q3⟩ := gI_of q2
    exact ⟨a, b, h2.int, ry.int, k.nx _ H1 F1 M1 _ r1 g1 ((hs.mono g1.ff).set (.d (.int _)) i) q3⟩
theorem se_ckMax {n m : Nat} {t u : TA} {T U : TDA} (h : SAn K Wx RE n t T) (h' : SAn K Wx RE m u U) : SE K Wx RE (tCKw (rMaxDf K) t u) (ckT fMaxD T U) := fun F H M σ ρ R Q hr hx hs ht k =>
  h F H M σ ρ _ _ hr hx hs ht fun vs H1 F1 M1 xs r1 g1 rxs hl h1 => h' F1 H1 M1 σ ρ _ _ r1 (hx.mono g1) (hs.mono g1.ff) h1 fun us H2 F2 M2 ys r2 g2 rys hl2 h2 => by
    obtain ⟨x, rfl, h3⟩ := g1_of h2
    obtain ⟨y, rfl, h4⟩ := g1_of h3
    obtain ⟨d, rfl, h5⟩ := gI_of h4
    obtain ⟨v, rfl, rv⟩ := rxs.one
    obtain ⟨u', rfl, ru⟩ := rys.one
    obtain ⟨a, zs, ws, rfl, e1, e2, h6⟩ := gW_of r2 (rv.mono g2.ff) h5
    obtain ⟨bs, rfl, h7⟩ := gIs_of h6
    refine ⟨a, bs, d, rfl, by rw [ru.int], ?_, fun e => ?_, fun m m1 m2 => ?_⟩
    · rw [← rws_int e2]
      exact SqL.of e1
    · subst e
      exact k _ H2 F2 M2 _ r2 (g1.trans g2) (.d (.int _)) h7
    · rw [if_neg (fun z => List.ne_nil_of_mem m1 (List.eq_nil_of_length_eq_zero z)), mxI_eq m1 m2] at h7
      exact k _ H2 F2 M2 _ r2 (g1.trans g2) (.d (.int _)) h7
/-- ','.join(..) -/
@[reducible] def joinT (T U : TDE) : TDE := fun ρ M R => T ρ M fun x M1 => gS x fun a => U ρ M1 fun y M2 => gRow M2 y fun ws => gSs ws fun ys => (ys.map (·.length)).sum + ys.length * a.length ≤ 16777216 ∧ R (.d (.str (Txt.join a ys))) M2
theorem se_join {to te : TE} {T U : TDE} (h1 : SE K Wx RE to T) (h2 : SE K Wx RE te U) : SE K Wx RE (tM1 (fun x xs H Q => ∃ a p, ∃ ys : List Str, x = .str a ∧ xs = [V.ref p] ∧ (SqL K H p (ys.map V.str) ∨ SqT K H p (ys.map V.str)) ∧
      (ys.map (·.length)).sum + ys.length * a.length ≤ 16777216 ∧ Q (.str (Txt.join a ys)) H) to te) (joinT T U) := fun F H M σ ρ R Q hr hx hs ht k =>
  h1 F H M σ ρ _ _ hr hx hs ht fun v H1 F1 M1 x r1 g1 rx q1 => by
    obtain ⟨a, rfl, q2⟩ := gS_of q1
    refine ⟨⟨a, rx.str⟩, h2 F1 H1 M1 σ ρ _ _ r1 (hx.mono g1) (hs.mono g1.ff) q2 fun u H2 F2 M2 y r2 g2 ry q3 => ?_⟩
    obtain ⟨p, vs, ws, rfl, e1, e2, q4⟩ := gRow_of r2 ry q3
    obtain ⟨ys, rfl, hz, q5⟩ := gSs_of q4
    rw [rws_str e2] at e1
    exact ⟨a, p, ys, rx.str, rfl, e1, hz, k _ H2 F2 M2 _ r2 (g1.trans g2) (.d (.str _)) q5⟩
/-- repr -/
@[reducible] def fRepr : FL := fun xs M R => g1 xs fun x => asD M x fun d => ((d.hasDict = false ∨ d = .dict []) ∧ shOk d) ∧ R (.d (.str d.shown)) M
theorem sc_repr : SC K (rReprD K) fRepr := fun F H M vs xs R Q hr rx hf k => by
  obtain ⟨x, rfl, h1⟩ := g1_of hf
  obtain ⟨v, rfl, r⟩ := rx.one
  obtain ⟨d, F', e1, e2, dv, ⟨hd, h2, h3, h4⟩, h5⟩ := asD_of hr r h1
  refine ⟨v, d, rfl, ?_, h2, h3, h4, k _ H F M _ hr .refl (.d (.str _)) h5⟩
  rcases hd with hd | rfl
  · exact .d (Dx.dp _ _ (Dx.mono e2 _ _ dv) hd)
  · cases dv with
    | dic h => exact .e (e2 _ _ h)
end
end Tl
set_option Elab.async false
set_option linter.all false
set_option maxRecDepth 100000
set_option maxHeartbeats 4000000
namespace Tl
open PySem L2
theorem rows1_map {α : Type} (f : α → W) (xs : List α) : rows1 (xs.map f) = xs.map fun a => [f a] := by
  unfold rows1
  rw [List.map_map]
  rfl
section
variable {b : TDG} {keep : Mem → Prop} {tt : TDT} {te : TDE} {ρ : EnvD} {fin : List W → Mem → Prop} {M : Mem}
/-- each of some rows gives an item -/
theorem lc_map {α : Type} {row : α → List W} (g : α → W) (hk : keep M) : ∀ (xs : List α) (acc : List W), (∀ a ∈ xs, ∀ (Rk : W → Mem → Prop) (Rn : Mem → Prop), Rk (g a) M → b (row a) ρ M fun ρ1 M1 => IfB true (te ρ1 M1 Rk) (Rn M1)) → acc.length + xs.length ≤ sizeLine → fin (acc ++ xs.map g) M → lcGo b keep yesT te ρ fin (xs.map row) acc M
  | [], acc, hb, hl, h => by
    rw [List.map_nil, lcGo]
    rw [List.map_nil, List.append_nil] at h
    exact ⟨hk, h⟩
  | a :: xs, acc, hb, hl, h => by
    rw [List.map_cons, lcGo]
    rw [List.length_cons] at hl
    refine ⟨hk, hb a (.head _) _ _ ⟨by omega, lc_map g hk xs (acc ++ [g a]) (fun x hx => hb x (.tail _ hx)) (by rw [List.length_append]; simp; omega) (by rw [List.append_assoc]; exact h)⟩⟩
/-- each of some rows gives an item, or none -/
theorem lc_filter {α : Type} {row : α → List W} (p : α → Bool) (g : α → W) (hk : keep M) : ∀ (xs : List α) (acc : List W), (∀ a ∈ xs, ∀ (Rk : W → Mem → Prop) (Rn : Mem → Prop), (p a = true → Rk (g a) M) → (p a = false → Rn M) → b (row a) ρ M fun ρ1 M1 => tt ρ1 M1 fun c M2 => IfB c (te ρ1 M2 Rk) (Rn M2)) → acc.length + xs.length ≤ sizeLine → fin (acc ++ (xs.filter p).map g) M → lcGo b keep tt te ρ fin (xs.map row) acc M
  | [], acc, hb, hl, h => by
    rw [List.map_nil, lcGo]
    rw [List.filter_nil, List.map_nil, List.append_nil] at h
    exact ⟨hk, h⟩
  | a :: xs, acc, hb, hl, h => by
    rw [List.map_cons, lcGo]
    rw [List.length_cons] at hl
    refine ⟨hk, hb a (.head _) _ _ (fun c => ⟨by omega, lc_filter p g hk xs (acc ++ [g a]) (fun x hx => hb x (.tail _ hx)) (by rw [List.length_append]; simp; omega) ?_⟩) (fun c => lc_filter p g hk xs acc (fun x hx => hb x (.tail _ hx)) (by omega) ?_)⟩
    · rw [List.filter_cons_of_pos c, List.map_cons] at h
      rw [List.append_assoc]
      exact h
    · rw [List.filter_cons_of_neg (by rw [c]; exact Bool.false_ne_true)] at h
      exact h
/-- one name, over a list of data -/
theorem lc1 {α : Type} {i : Nat} {f : α → W} (g : α → W) (hk : keep M) {xs : List α} (hb : ∀ a ∈ xs, ∀ Rk : W → Mem → Prop, Rk (g a) M → te (put ρ i (some (f a))) M Rk) (hl : xs.length ≤ sizeLine) (h : fin (xs.map g) M) : lcGo (bName i) keep yesT te ρ fin (rows1 (xs.map f)) [] M := by
  rw [rows1_map]
  exact lc_map g hk xs [] (fun a ha Rk Rn q => .t rfl (hb a ha Rk q)) (by simpa using hl) h
theorem lc1f {α : Type} {i : Nat} {f : α → W} (p : α → Bool) (g : α → W) (hk : keep M) {xs : List α} (hb : ∀ a ∈ xs, ∀ (Rk : W → Mem → Prop) (Rn : Mem → Prop), (p a = true → Rk (g a) M) → (p a = false → Rn M) → tt (put ρ i (some (f a))) M fun c M2 => IfB c (te (put ρ i (some (f a))) M2 Rk) (Rn M2)) (hl : xs.length ≤ sizeLine) (h : fin ((xs.filter p).map g) M) : lcGo (bName i) keep tt te ρ fin (rows1 (xs.map f)) [] M := by
  rw [rows1_map]
  exact lc_filter p g hk xs [] (fun a ha Rk Rn q1 q2 => hb a ha Rk Rn q1 q2) (by simpa using hl) h
end
/-- a for, by what holds at each turn -/
theorem for_ix {b : TDG} {keep : Mem → Prop} {body : TDS} {D : EndD} {rows : List (List W)} {ρ : EnvD} {M : Mem} (Pv : Nat → EnvD → Mem → Prop) (h0 : Pv 0 ρ M) (hk : ∀ i ρ M, i ≤ rows.length → Pv i ρ M → keep M)
    (hs : ∀ i row ρ M (N : EnvD → Mem → Prop), rows[i]? = some row → Pv i ρ M → (∀ ρ' M', Pv (i + 1) ρ' M' → N ρ' M') → b row ρ M fun ρ1 M1 => body ⟨N, D.rt, D.nx, N⟩ ρ1 M1) (hd : ∀ ρ M, Pv rows.length ρ M → D.nx ρ M) : forGo b keep body D rows ρ M := by
  have go : ∀ (n i : Nat) (ρ : EnvD) (M : Mem), n = rows.length - i → i ≤ rows.length → Pv i ρ M → forGo b keep body D (rows.drop i) ρ M := by
    intro n
    induction n with
    | zero =>
      intro i ρ M hn hi p
      have e : i = rows.length := by omega
      subst e
      rw [List.drop_length, forGo]
      exact ⟨hk _ _ _ (Nat.le_refl _) p, hd ρ M p⟩
    | succ n ih =>
      intro i ρ M hn hi p
      have hi2 : i < rows.length := by omega
      rw [List.drop_eq_getElem_cons hi2, forGo]
      exact ⟨hk _ _ _ hi p, hs i _ ρ M _ (List.getElem?_eq_getElem hi2) p fun ρ' M' p' => ih (i + 1) ρ' M' (by omega) (by omega) p'⟩
  exact go _ 0 ρ M rfl (Nat.zero_le _) h0
/-- over a list of things, one name -/
theorem for1 {α : Type} {i : Nat} {f : α → W} {keep : Mem → Prop} {body : TDS} {D : EndD} {xs : List α} {ρ : EnvD} {M : Mem} (Pv : Nat → EnvD → Mem → Prop) (h0 : Pv 0 ρ M) (hk : ∀ i ρ M, i ≤ xs.length → Pv i ρ M → keep M)
    (hs : ∀ j a ρ M (N : EnvD → Mem → Prop), xs[j]? = some a → Pv j ρ M → (∀ ρ' M', Pv (j + 1) ρ' M' → N ρ' M') → body ⟨N, D.rt, D.nx, N⟩ (put ρ i (some (f a))) M) (hd : ∀ ρ M, Pv xs.length ρ M → D.nx ρ M) : forGo (bName i) keep body D (rows1 (xs.map f)) ρ M := by
  have el : (rows1 (xs.map f)).length = xs.length := by rw [rows1_map, List.length_map]
  refine for_ix Pv h0 (fun i ρ M hi p => hk i ρ M (by rw [← el]; exact hi) p) (fun j row ρ M N hrow p hN => ?_) (fun ρ M p => hd ρ M (by rw [← el]; exact p))
  rw [rows1_map, List.getElem?_map] at hrow
  obtain ⟨a, ha, e⟩ := Option.map_eq_some_iff.mp hrow
  subst e
  exact hs j a ρ M N ha p hN
/-- over numbers -/
theorem forR {i : Nat} {lo : Int} {n : Nat} {keep : Mem → Prop} {body : TDS} {D : EndD} {ρ : EnvD} {M : Mem} (Pv : Nat → EnvD → Mem → Prop) (h0 : Pv 0 ρ M) (hk : ∀ i ρ M, i ≤ n → Pv i ρ M → keep M)
    (hs : ∀ j ρ M (N : EnvD → Mem → Prop), j < n → Pv j ρ M → (∀ ρ' M', Pv (j + 1) ρ' M' → N ρ' M') → body ⟨N, D.rt, D.nx, N⟩ (put ρ i (some (.d (.int (lo + (j : Nat)))))) M) (hd : ∀ ρ M, Pv n ρ M → D.nx ρ M) : forGo (bName i) keep body D (rows1 (rng lo n)) ρ M := by
  unfold rng
  refine for1 Pv h0 (fun i ρ M hi p => hk i ρ M (by simpa using hi) p) (fun j a ρ M N ha p hN => ?_) (fun ρ M p => hd ρ M (by simpa using p))
  have e : a = j ∧ j < n := by
    obtain ⟨h1, h2⟩ := List.getElem?_eq_some_iff.mp ha
    rw [List.length_range] at h1
    simp at h2
    exact ⟨h2.symm, h1⟩
  obtain ⟨rfl, hj⟩ := e
  exact hs a ρ M N hj p hN
/-- pairs with their numbers -/
theorem forE {i j : Nat} {keep : Mem → Prop} {body : TDS} {D : EndD} {ws : List W} {ρ : EnvD} {M : Mem} (Pv : Nat → EnvD → Mem → Prop) (h0 : Pv 0 ρ M) (hk : ∀ i ρ M, i ≤ ws.length → Pv i ρ M → keep M)
    (hs : ∀ n a ρ M (N : EnvD → Mem → Prop), ws[n]? = some a → Pv n ρ M → (∀ ρ' M', Pv (n + 1) ρ' M' → N ρ' M') → body ⟨N, D.rt, D.nx, N⟩ (put (put ρ i (some (.d (.int (n : Nat))))) j (some a)) M) (hd : ∀ ρ M, Pv ws.length ρ M → D.nx ρ M) : forGo (bPair i j) keep body D (enumR 0 ws) ρ M := by
  refine for_ix Pv h0 (fun i ρ M hi p => hk i ρ M (by rw [← enumR_len 0 ws]; exact hi) p) (fun n row ρ M N hrow p hN => ?_) (fun ρ M p => hd ρ M (by rw [← enumR_len 0 ws]; exact p))
  obtain ⟨a, ha, rfl⟩ := enumR_get hrow
  rw [Nat.zero_add]
  exact hs n a ρ M N ha p hN
end Tl
set_option Elab.async false
set_option linter.all false
set_option maxRecDepth 100000
set_option maxHeartbeats 4000000
namespace Tl
open PySem L2
/-- what nobody looks at any more is left out -/
def lax (R : W → Mem → Prop) : W → Mem → Prop := fun x M => ∃ M0, (∀ a o, M0 a = some o → M a = some o) ∧ R x M0
theorem Rl.less {K : PySem.W.Frag} {F H : Hp} {M M0 : Mem} (h : Rl K F H M) (e : ∀ a o, M0 a = some o → M a = some o) : Rl K F H M0 :=
  ⟨h.fh, fun a o c => h.mf a o (e a o c), fun a o c => h.at_ a o (e a o c)⟩
theorem none_less {M M0 : Mem} (e : ∀ a o, M0 a = some o → M a = some o) {b : Addr} (h : M b = none) : M0 b = none := by
  cases c : M0 b with
  | none => rfl
  | some o => rw [e b o c] at h; cases h
theorem kt_lax {K : PySem.W.Frag} {F H : Hp} {M : Mem} {R : W → Mem → Prop} {Q : VK} (k : Kt K F H M R Q) : Kt K F H M (lax R) Q := fun v H' F' M' x r g rx ⟨M0, e, h⟩ =>
  k v H' F' M0 x (r.less e) ⟨g.ff, fun b u h1 h2 => ⟨(g.un b u h1 h2).1, none_less e (g.un b u h1 h2).2⟩, g.nf⟩ rx h
section
variable {P : Program} {w : World} {K : PySem.W.Frag} {mg : Str → Option Value} {base : Heap}
theorem okDL {f : Addr} {fd : FuncData} {k n : Nat} {x qual : Str} {st : Stmt} {N ps : List Str} {tf : TF} (F : Fun K x qual st f fd) (S : FnScope N ps (defScope st)) (hp : ps.length = n)
    (hb : ∀ (cdv : Value) (A : Around) (outer : List Env) (s : Shared) (H : Hp) (E : XK), Room k (A.deeper (PyProof.Rows.envOfC qual (defScope st) s.heap.objs.size f cdv)) →
      ∃ (t : TS) (T : TDS), PSs (cxOf CX0 P w K mg base N qual (defScope st) f cdv A outer s H E).nox (defBody st) t ∧ SSt K (fun _ _ _ _ => False) (fun _ _ _ => False) t T ∧
        ∀ ws M R RX, ws.length = n → tf ws M R RX → T (endD (lax R)) (start0 N.length ws) M) : FnOk P w K mg base CX0 (k + 1) f fd ps (spD K n tf) := by
  refine F.ok S (fun vs H Q E h => ?_) (fun cdv A outer s H vs Q E hr h => ?_)
  · obtain ⟨F0, M, ws, R, RX, r, rs, hl, _⟩ := h
    rw [rs.len, hl, hp]
  · obtain ⟨F0, M, ws, R, RX, r, rs, hl, hf, hk, _⟩ := h
    obtain ⟨t, T, h1, h2, h3⟩ := hb cdv A outer s H E hr
    refine ⟨t, h1, h2 F0 H M _ _ _ _ r (fun F' H' M' σ ρ cls d x _ _ _ _ z => z) (rel_start rs) (h3 ws M R RX hl hf) (ek_def (kt_lax hk))⟩
end
section
variable {K : PySem.W.Frag} {Wx : WX} {RE : REx}
/-- a range with a step -/
@[reducible] def itR3 (T : TDA) : TDI := fun ρ M R => T ρ M fun xs M1 => match xs with
  | [x, y, z] => gI x fun i => gI y fun j => gI z fun c => ∃ n, RgC i j c n ∧ R (rows1 (rngC i c n)) any1 M1
  | _ => False
theorem rngC_ok {F H : Hp} {M : Mem} {lo c : Int} {n : Nat} : ItOk K F H M (Itc lo c n) (rows1 (rngC lo c n)) any1 false := by
  refine ItOk.of (walk_rangeC (lo := lo) (c := c) (n := n)) (by unfold rows1 rngC; rw [List.length_map, List.length_map, List.length_range]) (fun F2 H2 M2 r2 g2 _ => True.intro) (fun i x H2 H3 F2 M2 row hrow r2 g2 _ y => ?_)
  obtain ⟨w, hw, rfl⟩ := rows1_get hrow
  unfold rngC at hw
  rw [List.getElem?_map] at hw
  obtain ⟨e, he, rfl⟩ := Option.map_eq_some_iff.mp hw
  have e' : e = i := by
    obtain ⟨h1, h2⟩ := List.getElem?_eq_some_iff.mp he
    rw [← h2]
    simp
  subst e'
  obtain ⟨rfl, rfl⟩ := y
  exact ⟨_, rfl, rfl, .d (.int _)⟩
theorem si_r3 {t : TA} {T : TDA} {n : Nat} (h : SAn K Wx RE n t T) : SI K Wx RE (iRng3 t) false (itR3 T) := fun F H M σ ρ R Q hr hx hs ht k =>
  h F H M σ ρ _ _ hr hx hs ht fun vs H1 F1 M1 xs r1 g1 rxs hl h1 => by
    split at h1
    · obtain ⟨i, rfl, h2⟩ := gI_of h1
      obtain ⟨j, rfl, h3⟩ := gI_of h2
      obtain ⟨c, rfl, m, hc, h4⟩ := gI_of h3
      cases rxs with
      | cons a rxs =>
      cases rxs with
      | cons b rxs =>
      cases rxs with
      | cons d rxs =>
      cases rxs
      exact ⟨i, j, c, m, by rw [a.int, b.int, d.int], hc, k _ H1 F1 M1 _ _ r1 g1 rngC_ok h4⟩
    · exact h1.elim
/-- list.insert, list.pop -/
@[reducible] def fInsert : W → List W → Mem → (W → Mem → Prop) → Prop := fun x xs M R => gR x fun a => g2 xs fun i y => gI i fun i => ∃ ws, M a = some (.lst ws) ∧ (ws.length < sizeLine ∧ 0 ≤ i ∧ i ≤ 1000000) ∧ R (.d .none) (mset M a (.lst (ws.take i.toNat ++ [y] ++ ws.drop i.toNat)))
theorem sm_insert : SM K (fun x vs H Q => ∃ (l : Addr) (xs : List V) (i : Int) (y : V), x = .ref l ∧ vs = [.int i, y] ∧ H l = some (.lst xs) ∧ xs.length < sizeLine ∧ 0 ≤ i ∧ i < 2 ^ 63 ∧
    Q .non (upd H l (.lst (xs.take i.toNat ++ [y] ++ xs.drop i.toNat)))) fInsert := fun F H M v vs x xs R Q hr rx rxs hf k => by
  obtain ⟨a, rfl, h1⟩ := gR_of hf
  obtain ⟨i, y, rfl, h2⟩ := g2_of h1
  obtain ⟨n, rfl, ws, h3, ⟨c1, c2, c3⟩, h4⟩ := gI_of h2
  obtain ⟨u, u', rfl, ry, ry'⟩ := rxs.two
  obtain ⟨us, h5, h6⟩ := hr.lst h3
  rw [rx.ref]
  refine ⟨a, us, n, u', rfl, by rw [ry.int], h5, by rw [h6.len]; exact c1, c2, by omega, ?_⟩
  obtain ⟨r2, g2⟩ := hr.put (u := .lst (us.take n.toNat ++ [u'] ++ us.drop n.toNat)) (o := .lst (ws.take n.toNat ++ [y] ++ ws.drop n.toNat)) h3 ⟨_, rfl, ((h6.take _).app (.cons ry' .nil)).app (h6.drop _)⟩
  exact k _ _ _ _ _ r2 g2 (.d .non) h4
theorem RWs.erase {F : Hp} : ∀ {vs : List V} {xs : List W} (n : Nat), RWs K F vs xs → RWs K F (vs.eraseIdx n) (xs.eraseIdx n)
  | _, _, _, .nil => .nil
  | _, _, 0, .cons _ t => t
  | _, _, n + 1, .cons a t => .cons a (RWs.erase n t)
end
/-- some new lists -/
theorem lc_new {ρ : EnvD} {i : Nat} {fin : List W → Mem → Prop} : ∀ (rows : List W) (acc : List Addr) (M M' : Mem), acc.length + rows.length ≤ sizeLine → acc.Nodup → (∀ a ∈ acc, M a = none ∧ M' a = some (.lst [])) → (∀ b, ¬ b ∈ acc → M' b = M b) →
    (∀ (as : List Addr) (M2 : Mem), as.length = acc.length + rows.length → as.Nodup → (∀ a ∈ as, M a = none ∧ M2 a = some (.lst [])) → (∀ b, ¬ b ∈ as → M2 b = M b) → fin (as.map W.r) M2) → lcGo (bName i) any1 yesT (lstT nilA) ρ fin (rows1 rows) (acc.map W.r) M'
  | [], acc, M, M', hl, hn, ha, hb, h => by
    show any1 M' ∧ fin _ M'
    exact ⟨trivial, h acc M' rfl hn ha hb⟩
  | r :: rows, acc, M, M', hl, hn, ha, hb, h => by
    show any1 M' ∧ IfB true (∀ p, M' p = none → (acc.map W.r).length < sizeLine ∧ lcGo (bName i) any1 yesT (lstT nilA) ρ fin (rows1 rows) (acc.map W.r ++ [W.r p]) (mset M' p (.lst []))) _
    rw [List.length_cons] at hl
    refine ⟨trivial, .t rfl fun p hp => ⟨by rw [List.length_map]; omega, ?_⟩⟩
    have np : ¬ p ∈ acc := fun z => by rw [(ha p z).2] at hp; cases hp
    have e : acc.map W.r ++ [W.r p] = (acc ++ [p]).map W.r := by rw [List.map_append]; rfl
    rw [e]
    have hMp : M p = none := by rw [← hb p np]; exact hp
    refine lc_new rows (acc ++ [p]) M _ (by rw [List.length_append]; simp; omega) ?_ (fun a h1 => ?_) (fun b h1 => ?_) (fun as M2 h1 h2 h3 h4 => h as M2 (by rw [h1, List.length_append, List.length_cons]; simp; omega) h2 h3 h4)
    · rw [List.nodup_append]
      exact ⟨hn, by simp, fun x hx y hy => by
        rw [List.mem_singleton.mp hy]
        exact fun z => np (by rw [← z]; exact hx)⟩
    · rcases List.mem_append.mp h1 with h1 | h1
      · have : a ≠ p := fun z => np (by rw [← z]; exact h1)
        rw [mset_ne this]
        exact ha a h1
      · rw [List.mem_singleton.mp h1]
        exact ⟨hMp, mset_same⟩
    · have h2 : b ≠ p := fun z => h1 (by rw [z]; exact List.mem_append_right _ (List.mem_singleton.mpr rfl))
      rw [mset_ne h2]
      exact hb b fun z => h1 (List.mem_append_left _ z)
/-- numbers with a step -/
theorem forRC {i : Nat} {lo c : Int} {n : Nat} {keep : Mem → Prop} {body : TDS} {D : EndD} {ρ : EnvD} {M : Mem} (Pv : Nat → EnvD → Mem → Prop) (h0 : Pv 0 ρ M) (hk : ∀ i ρ M, i ≤ n → Pv i ρ M → keep M)
    (hs : ∀ j ρ M (N : EnvD → Mem → Prop), j < n → Pv j ρ M → (∀ ρ' M', Pv (j + 1) ρ' M' → N ρ' M') → body ⟨N, D.rt, D.nx, N⟩ (put ρ i (some (.d (.int (lo + (j : Nat) * c))))) M) (hd : ∀ ρ M, Pv n ρ M → D.nx ρ M) : forGo (bName i) keep body D (rows1 (rngC lo c n)) ρ M := by
  unfold rngC
  refine for1 Pv h0 (fun i ρ M hi p => hk i ρ M (by simpa using hi) p) (fun j a ρ M N ha p hN => ?_) (fun ρ M p => hd ρ M (by simpa using p))
  have e : a = j ∧ j < n := by
    obtain ⟨h1, h2⟩ := List.getElem?_eq_some_iff.mp ha
    rw [List.length_range] at h1
    simp at h2
    exact ⟨h2.symm, h1⟩
  obtain ⟨rfl, hj⟩ := e
  exact hs a ρ M N hj p hN
end Tl
set_option Elab.async false
set_option linter.all false
set_option maxRecDepth 100000
set_option maxHeartbeats 4000000
/-! Elders and levels, lists of kids by their weights and places. -/
namespace Tl
open PySem L2
structure RelEL (es ls : List Nat) : Prop where
  first : ls[0]? = some 1
  lev : ∀ (j l : Nat), ls[j]? = some l → 1 ≤ l ∧ l ≤ 10
  eld : ∀ (j e : Nat), 1 ≤ j → es[j]? = some e → e < j ∧ ∀ (l l' : Nat), ls[e]? = some l → ls[j]? = some l' → l' = l + 1
theorem get_snoc {α : Type} {xs : List α} {x y : α} {j : Nat} (h : (xs ++ [x])[j]? = some y) : (j < xs.length ∧ xs[j]? = some y) ∨ (j = xs.length ∧ y = x) := by
  by_cases c : j < xs.length
  · rw [List.getElem?_append_left c] at h
    exact .inl ⟨c, h⟩
  · rw [List.getElem?_append_right (by omega)] at h
    have e : j - xs.length = 0 := by
      by_cases z : j - xs.length = 0
      · exact z
      · rw [List.getElem?_eq_none (by show 1 ≤ _; omega)] at h
        cases h
    rw [e] at h
    exact .inr ⟨by omega, (Option.some.inj h).symm⟩
theorem RelEL.app {es ls : List Nat} (r : RelEL es ls) {e l : Nat} (hlen : es.length = ls.length) (he : ls[e]? = some l) (hl : l ≤ 9) : RelEL (es ++ [e]) (ls ++ [l + 1]) := by
  have hel : e < ls.length := (List.getElem?_eq_some_iff.mp he).1
  refine ⟨?_, fun j m h => ?_, fun j e' hj h => ?_⟩
  · rw [List.getElem?_append_left (by omega)]
    exact r.first
  · rcases get_snoc h with ⟨_, h⟩ | ⟨_, rfl⟩
    · exact r.lev j m h
    · omega
  · rcases get_snoc h with ⟨c, h⟩ | ⟨rfl, rfl⟩
    · obtain ⟨h1, h2⟩ := r.eld j e' hj h
      refine ⟨h1, fun a b ha hb => ?_⟩
      rw [List.getElem?_append_left (by omega)] at ha hb
      exact h2 a b ha hb
    · refine ⟨by omega, fun a b ha hb => ?_⟩
      rw [List.getElem?_append_left hel] at ha
      rw [hlen, List.getElem?_append_right (Nat.le_refl _), Nat.sub_self] at hb
      rw [he] at ha
      cases ha
      exact (Option.some.inj hb).symm
theorem RelEL.one : RelEL [0] [1] := by
  refine ⟨rfl, fun j l h => ?_, fun j e hj h => ?_⟩
  · match j, h with
    | 0, h => have := Option.some.inj h; omega
    | j + 1, h => simp at h
  · match j, h with
    | 0, _ => omega
    | j + 1, h => simp at h
mutual
def nn : PyData → Nat
  | .tuple [_, .tuple ks] => 1 + nnAll ks
  | _ => 1
def nnAll : List PyData → Nat
  | [] => 0
  | k :: ks => nn k + nnAll ks
end
theorem nnAll_app : ∀ (a b : List PyData), nnAll (a ++ b) = nnAll a + nnAll b
  | [], b => by rw [List.nil_append, nnAll]; omega
  | k :: a, b => by
    rw [List.cons_append, nnAll, nnAll, nnAll_app a b]
    omega
/-- how many places the first m lists have together -/
def sn (m : Nat) (tss : List (List PyData)) : Nat := ((tss.take m).map nnAll).sum
theorem sn_succ {m : Nat} {tss : List (List PyData)} {ts : List PyData} (h : tss[m]? = some ts) : sn (m + 1) tss = sn m tss + nnAll ts := by
  unfold sn
  rw [List.take_add_one, h, List.map_append, List.sum_append]
  simp
theorem sn_rep (m n : Nat) : sn m (List.replicate n []) = 0 := by
  unfold sn
  rw [List.take_replicate, List.map_replicate]
  generalize min m n = k
  induction k with
  | zero => rfl
  | succ k ih => rw [List.replicate_succ, List.sum_cons, ih]; rfl
end Tl
set_option Elab.async false
set_option linter.all false
set_option maxRecDepth 100000
set_option maxHeartbeats 4000000
/-! What the program's own looks answer, as Lean functions; promises. -/
namespace Tl
open PySem L2
/-! ### what they answer -/
def isCount : PyData → Bool
  | .int i => decide (0 ≤ i)
  | _ => false
def isNum (m : Int) : PyData → Bool
  | .int i => decide (0 ≤ i) && decide (i ≤ m)
  | _ => false
def small (c : Nat) : Bool := decide (97 ≤ c) && decide (c ≤ 122)
def isTag : PyData → Bool
  | .str s => decide (1 ≤ s.length) && decide (s.length ≤ 8) && s.cps.toList.all small
  | _ => false
def isPath : PyData → Bool
  | .tuple ds => decide (ds.length < 12) && ds.all (isNum 59)
  | _ => false
def tagKids : PyData → Bool
  | .tuple [a, b] => isTag a && isTup b
  | _ => false
/-- the program's own numbers -/
structure Cs (mg : Str → Option Value) : Prop where
  SIZE : ∃ t, mg "SIZE" = some (.int 60 t)
  DEPTH : ∃ t, mg "DEPTH" = some (.int 12 t)
  SIGNS : ∃ t, mg "SIGNS" = some (.int 8 t)
theorem c_SIZE {X : Cx} (C : Cs X.mg) {p : Pos} (hg : Gl X "SIZE" := by rfl) : PE X (.Name "SIZE" p) (tC (.int 60)) := by
  obtain ⟨t, e⟩ := C.SIZE
  exact pe_glob hg e ⟨t, rfl⟩
theorem c_DEPTH {X : Cx} (C : Cs X.mg) {p : Pos} (hg : Gl X "DEPTH" := by rfl) : PE X (.Name "DEPTH" p) (tC (.int 12)) := by
  obtain ⟨t, e⟩ := C.DEPTH
  exact pe_glob hg e ⟨t, rfl⟩
theorem c_SIGNS {X : Cx} (C : Cs X.mg) {p : Pos} (hg : Gl X "SIGNS" := by rfl) : PE X (.Name "SIGNS" p) (tC (.int 8)) := by
  obtain ⟨t, e⟩ := C.SIGNS
  exact pe_glob hg e ⟨t, rfl⟩
/-- a truth about one thing -/
@[reducible] def tfB (f : PyData → Bool) : TF := fun ws M R _ => g1 ws fun x => gD x fun d => txt d = true ∧ R (.d (.bool (f d))) M
@[reducible] def tfB2 (f : Int → PyData → Bool) : TF := fun ws M R _ => g2 ws fun x y => gD x fun d => gI y fun m => txt d = true ∧ R (.d (.bool (f m d))) M
theorem lex1 (a b : Nat) : ([a] : List Nat) < [b] ↔ a < b := by
  constructor
  · intro h
    cases h with
    | rel h => exact h
    | cons h => cases h
  · intro h
    exact List.Lex.rel h
theorem le_a (c : Nat) : (!decide ((⟨#[c]⟩ : Str).cps.toList < ("a" : Str).cps.toList)) = decide (97 ≤ c) := by
  show (!decide ([c] < [97])) = _
  rw [decide_eq_decide.mpr (lex1 c 97)]
  by_cases h : c < 97
  · rw [decide_eq_true h, decide_eq_false (by omega)]; rfl
  · rw [decide_eq_false h, decide_eq_true (by omega)]; rfl
theorem le_z (c : Nat) : (!decide (("z" : Str).cps.toList < (⟨#[c]⟩ : Str).cps.toList)) = decide (c ≤ 122) := by
  show (!decide ([122] < [c])) = _
  rw [decide_eq_decide.mpr (lex1 122 c)]
  by_cases h : 122 < c
  · rw [decide_eq_true h, decide_eq_false (by omega)]; rfl
  · rw [decide_eq_false h, decide_eq_true (by omega)]; rfl
/-! ### trees -/
def kidsD : PyData → List PyData
  | .tuple [_, .tuple ks] => ks
  | _ => []
/-- the room behind a tree, its kids one behind another -/
def roomB : Nat → PyData → Nat → Option Nat
  | 0, _, _ => none
  | _ + 1, _, 0 => none
  | l + 1, d, r + 1 => if tagKids d = true then (kidsD d).foldl (fun o kd => o.bind (roomB l kd)) (some r) else none
@[reducible] def optD : Option Nat → PyData
  | none => .none
  | some n => .int n
def isTreeD (d : PyData) : Bool := (roomB 12 d 60).isSome
theorem fold_none {α : Type} (f : α → Nat → Option Nat) : ∀ ks : List α, ks.foldl (fun o kd => o.bind (f kd)) none = none
  | [] => rfl
  | _ :: r => by rw [List.foldl_cons]; exact fold_none f r
@[reducible] def tfRoom (n : Nat) : TF := fun ws M R _ => ∃ (d : PyData) (l r : Nat), ws = [.d d, .d (.int l), .d (.int r)] ∧ txt d = true ∧ l < n ∧ R (.d (optD (roomB l d r))) M
theorem no0 {tf : TF} {P : Program} {w : World} {K : PySem.W.Frag} {mg : Str → Option Value} {base : Heap} {CX : CXT} {f : Addr} {fd : FuncData} {k n : Nat} {ps : List Str} (h : ∀ ws M R RX, ¬ tf ws M R RX) : FnOk P w K mg base CX k f fd ps (spD K n tf) :=
  ⟨fun vs H Q E ⟨F0, M, ws, R, RX, r, rs, hl, hf, _⟩ => absurd hf (h _ _ _ _), fun A outer s H args us vs Q E _ _ _ _ ⟨F0, M, ws, R, RX, r, rs, hl, hf, _⟩ => absurd hf (h _ _ _ _)⟩
/-! ### refusals -/
/-- an own error without a word, as the top has left its class -/
structure Er (K : PySem.W.Frag) (mg : Str → Option Value) (x : Str) (C : Addr) : Prop where
  g : mg x = some (.ref C)
  x : PySem.W.excIn K C [.type "ValueError", .type "Exception", .type "BaseException", .type "object"] "ValueError.__new__" = true
  k : PySem.W.keepIn K (.ref C) = true
  b : PySem.W.subIn K (.ref C) (.type "BaseException") = some true
  t : PySem.W.typeIn K (.ref C) = some (.type "type")
/-- a def that errors may leave -/
structure UseX (P : Program) (w : World) (K : PySem.W.Frag) (mg : Str → Option Value) (base : Heap) (x : Str) (ps : List Str) (k : Nat) (sp : Sp) where
  f : Addr
  fd : FuncData
  ok : FnOk P w K mg base (L2.CX P w) k f fd ps sp
  m : mg x = some (.ref f)
  kp : PySem.W.keepIn K (.ref f) = true
  b : Binds K fd ps []
/-- one thing is refused, or not -/
@[reducible] def tfChk (f : PyData → Bool) (C : Addr) : TF := fun ws M R RX => g1 ws fun x => gD x fun d => txt d = true ∧ (f d = true → R (.d .none) M) ∧ (f d = false → RX ⟨.ref C, []⟩ M)
/-! ### trees by their form -/
def TrT : Nat → PyData → Prop
  | 0, _ => False
  | h + 1, d => ∃ (s : Str) (ks : List PyData), d = .tuple [.str s, .tuple ks] ∧ isTag (.str s) = true ∧ ∀ k ∈ ks, TrT h k
theorem TrT.mono : ∀ {h h' : Nat} {d : PyData}, h ≤ h' → TrT h d → TrT h' d
  | 0, _, _, _, t => t.elim
  | h + 1, 0, _, e, _ => by omega
  | h + 1, h' + 1, d, e, t => by
    obtain ⟨s, ks, rfl, a, b⟩ := t
    exact ⟨s, ks, rfl, a, fun k hk => TrT.mono (by omega) (b k hk)⟩
theorem tags6_tag : ∀ s ∈ tags6, isTag (.str s) = true := by decide +kernel
theorem TrD.t : ∀ {h : Nat} {d : PyData}, TrD h d → TrT h d
  | 0, _, t => t.elim
  | h + 1, d, t => by
    obtain ⟨s, ks, rfl, a, b⟩ := t
    exact ⟨s, ks, rfl, tags6_tag s a.2.2.2, fun k hk => TrD.t (b k hk)⟩
theorem nn_pos (d : PyData) : 1 ≤ nn d := by
  unfold nn
  split <;> omega
theorem tagKids_node {s : Str} {ks : List PyData} (h : isTag (.str s) = true) : tagKids (.tuple [.str s, .tuple ks]) = true := by
  rw [tagKids, h]
  rfl
theorem fold_room {l : Nat} : ∀ (ks : List PyData) (r : Nat), (∀ k ∈ ks, ∀ r, nn k ≤ r → roomB l k r = some (r - nn k)) → nnAll ks ≤ r → ks.foldl (fun o kd => o.bind (roomB l kd)) (some r) = some (r - nnAll ks)
  | [], r, _, _ => rfl
  | k :: ks, r, h, hr => by
    rw [nnAll] at hr
    rw [List.foldl_cons]
    show ks.foldl _ (roomB l k r) = _
    rw [h k (.head _) r (by omega), fold_room ks (r - nn k) (fun x hx => h x (.tail _ hx)) (by omega), nnAll]
    congr 1
    omega
theorem room_nn : ∀ {l : Nat} {d : PyData}, TrT l d → ∀ r, nn d ≤ r → roomB l d r = some (r - nn d)
  | 0, _, t, _, _ => t.elim
  | l + 1, _, ⟨s, ks, rfl, a, b⟩, r, hr => by
    rw [nn] at hr
    obtain ⟨r, rfl⟩ : ∃ r', r = r' + 1 := ⟨r - 1, by omega⟩
    rw [roomB, if_pos (tagKids_node a), kidsD, fold_room ks r (fun k hk => room_nn (b k hk)) (by omega), nn]
    congr 1
    omega
theorem fold_back {l : Nat} : ∀ (ks : List PyData) (r m : Nat), (∀ k ∈ ks, ∀ r m, roomB l k r = some m → TrT l k ∧ m + nn k = r) → ks.foldl (fun o kd => o.bind (roomB l kd)) (some r) = some m → (∀ k ∈ ks, TrT l k) ∧ m + nnAll ks = r
  | [], r, m, _, h => by
    cases h
    exact ⟨fun k hk => absurd hk List.not_mem_nil, rfl⟩
  | k :: ks, r, m, hk, h => by
    rw [List.foldl_cons] at h
    have h' : ks.foldl (fun o kd => o.bind (roomB l kd)) (roomB l k r) = some m := h
    cases c : roomB l k r with
    | none =>
      rw [c, fold_none] at h'
      cases h'
    | some m' =>
      rw [c] at h'
      obtain ⟨q1, q2⟩ := hk k (.head _) r m' c
      obtain ⟨q3, q4⟩ := fold_back ks m' m (fun x hx => hk x (.tail _ hx)) h'
      rw [nnAll]
      exact ⟨fun x hx => (List.mem_cons.mp hx).elim (fun z => by rw [z]; exact q1) (q3 x), by omega⟩
theorem tagKids_of {d : PyData} (h : tagKids d = true) : ∃ (s : Str) (ks : List PyData), d = .tuple [.str s, .tuple ks] ∧ isTag (.str s) = true := by
  unfold tagKids at h
  split at h
  · rename_i a b
    rw [Bool.and_eq_true] at h
    cases b with
    | tuple ks =>
      cases a with
      | str s => exact ⟨s, ks, rfl, h.1⟩
      | _ => exact absurd h.1 (by simp [isTag])
    | _ => exact absurd h.2 (by simp [isTup])
  · cases h
theorem room_back : ∀ {l : Nat} {d : PyData} {r m : Nat}, roomB l d r = some m → TrT l d ∧ m + nn d = r
  | 0, _, _, _, h => by rw [roomB] at h; cases h
  | l + 1, _, 0, _, h => by rw [roomB] at h; cases h
  | l + 1, d, r + 1, m, h => by
    rw [roomB] at h
    split at h
    · rename_i c
      obtain ⟨s, ks, rfl, hs⟩ := tagKids_of c
      rw [kidsD] at h
      obtain ⟨q1, q2⟩ := fold_back ks r m (fun k hk r m => room_back) h
      rw [nn]
      exact ⟨⟨s, ks, rfl, hs, q1⟩, by omega⟩
    · cases h
theorem tree_iff {d : PyData} : isTreeD d = true ↔ TrT 12 d ∧ nn d ≤ 60 := by
  unfold isTreeD
  constructor
  · intro h
    cases c : roomB 12 d 60 with
    | none => rw [c] at h; cases h
    | some m =>
      obtain ⟨q1, q2⟩ := room_back c
      exact ⟨q1, by omega⟩
  · intro h
    rw [room_nn h.1 60 h.2]
    rfl
theorem TrT.node {n : Nat} {d : PyData} (h : TrT n d) : ∃ (s : Str) (ks : List PyData), d = .tuple [.str s, .tuple ks] ∧ isTag (.str s) = true ∧ ∀ k ∈ ks, TrT (n - 1) k := by
  cases n with
  | zero => exact h.elim
  | succ n => exact h
theorem tag_small {s : Str} (h : isTag (.str s) = true) : 1 ≤ s.length ∧ s.length ≤ 8 ∧ PyData.strOk s = true := by
  rw [isTag, Bool.and_eq_true, Bool.and_eq_true] at h
  refine ⟨of_decide_eq_true h.1.1, of_decide_eq_true h.1.2, ?_⟩
  rw [PyData.strOk, ← Array.all_toList, List.all_eq_true]
  intro c hc
  have := List.all_eq_true.mp h.2 c hc
  unfold small at this
  rw [Bool.and_eq_true] at this
  have h2 := of_decide_eq_true this.2
  exact decide_eq_true (Nat.lt_of_le_of_lt h2 (by decide))
mutual
theorem TrT.gd : ∀ {h : Nat} {d : PyData}, TrT h d → Tl.gd d = true ∧ d.depth ≤ 2 * h ∧ wt d + 2 ≤ 96 * nn d ∧ noL d = true
  | 0, _, t => t.elim
  | h + 1, d, t => by
    obtain ⟨s, ks, rfl, a, b⟩ := t
    obtain ⟨a1, a2, a3⟩ := tag_small a
    obtain ⟨q1, q2, q3, q4⟩ := TrT.gds b
    refine ⟨?_, ?_, ?_, ?_⟩
    · rw [Tl.gd, gdAll, gdAll, gdAll, Tl.gd, Tl.gd, q1, a3, decide_eq_true (by omega)]
      rfl
    · simp only [PyData.depth, PyData.depthAll]
      omega
    · rw [wt_node, nn]
      omega
    · simp [noL, noLs, q4]
theorem TrT.gds : ∀ {h : Nat} {ks : List PyData}, (∀ k ∈ ks, TrT h k) → gdAll ks = true ∧ PyData.depthAll ks ≤ 2 * h ∧ wtAll ks ≤ 96 * nnAll ks ∧ noLs ks = true
  | h, [], _ => ⟨rfl, Nat.zero_le _, Nat.le_refl _, rfl⟩
  | h, k :: ks, hk => by
    obtain ⟨p1, p2, p3, p4⟩ := TrT.gd (hk k (.head _))
    obtain ⟨q1, q2, q3, q4⟩ := TrT.gds fun x hx => hk x (.tail _ hx)
    refine ⟨by rw [gdAll, p1, q1]; rfl, ?_, ?_, by rw [noLs, p4, q4]; rfl⟩
    · rw [PyData.depthAll]
      omega
    · rw [wtAll, nnAll]
      have := nn_pos k
      omega
end
end Tl
set_option Elab.async false
set_option linter.all false
set_option maxRecDepth 100000
set_option maxHeartbeats 4000000
/-! Flat rows of trees: the row, where parts end, where kids begin, and back. -/
set_option Elab.async false
set_option linter.all false
set_option maxRecDepth 100000
set_option maxHeartbeats 4000000
/-! Errors: raised with fields, caught, looked at. -/
set_option Elab.async false
set_option linter.all false
set_option maxRecDepth 100000
set_option maxHeartbeats 4000000
/-! Further rules: a list extended by a tuple. -/
namespace Tl
open PySem PySem.Spec PyProof.Rows L2
open AutoSeq1 (wpAny_loadPart')
theorem extendTup (l : Addr) (items : Array Value) (n : Nat) (b : Addr) (items2 : Array Value) (n2 : Nat) (dd : Option Addr) (sl : Array (Option Value)) (hs0 : ¬(!items.isEmpty && Builtin.List.listTooLong (items.size + items2.size)) = true) (hs1 : items.size ≤ sizeLine) (hs2 : items.size + items2.size ≤ sizeLine + 1) :
    Meets (Builtin.«list.extend» ⟨[.ref l, .ref b], []⟩) (fun _ R s => s.heap.get? l = some { cls := .type "list", dict := none, data := .seq items n, slots := #[] } ∧ s.heap.get? b = some { cls := .type "tuple", dict := dd, data := .seq items2 n2, slots := sl } ∧ R (.ok (.ret Value.none)) { s with heap := s.heap.update l (Obj.mapSeq fun x => x ++ items2), toks := s.toks }) :=
  .of_wp fun prog w A R s h => by
    obtain ⟨hp, g, d, tk, os⟩ := s
    obtain ⟨hl, hb, h⟩ := h
    have f1 := AutoSeq1.idx_int
    have f2 := AutoSeq1.sub_tuple_tuple
    have f3 := AutoSeq1.sub_list_list
    have f4 := AutoSeq1.sub_tuple_list
    have f5 := AutoSeq1.sub_list_tuple
    have hz' : (items ++ items2).size ≤ sizeLine + 1 := by rw [Array.size_append]; exact hs2
    wp_walk using (wpAny_updateSeq hl rfl (hz := hs1) (_hz' := hz')), wpAny_loadPart' hl, wpAny_loadPart' hb
    exact ⟨_, rfl, h⟩
def rExtT (K : PySem.W.Frag) : V → List V → Hp → VK → Prop := fun x vs H Q => ∃ l b xs zs, x = .ref l ∧ vs = [.ref b] ∧ H l = some (.lst xs) ∧ SqT K H b zs ∧ xs.length + zs.length ≤ sizeLine ∧ Q .non (upd H l (.lst (xs ++ zs)))
theorem mt_extT {X : Cx} : MtM X "list.extend" (rExtT X.K) := by
  intro pins s σ H x vs v us Q I rx rv h
  obtain ⟨l, b, xs, zs, rfl, rfl, hH, hB, hz, q⟩ := h
  cases rx
  rcases rv with _ | ⟨ru, rv⟩
  cases rv
  cases ru
  obtain ⟨z, its, n, r, hl, e⟩ := I.lstM hH
  obtain ⟨its2, r2, ⟨⟨oc, od, dt, sl⟩, ho, hc, n2, hd⟩, hz2⟩ := I.tuple hB
  simp only at hc hd
  subst hc hd
  have hl2 := r2.length
  have hsz : its.toArray.size + its2.toArray.size ≤ sizeLine := by rw [List.size_toArray, List.size_toArray]; omega
  have hlong : ¬ (!its.toArray.isEmpty && Builtin.List.listTooLong (its.toArray.size + its2.toArray.size)) = true := by
    rw [notLongL hsz, Bool.and_false]
    exact Bool.false_ne_true
  refine call_meets F.slot_list_extend ⟨_, e, rfl⟩ F.entry_list_extend (F.args_list_extend_2 _ _)
    (extendTup l its.toArray n b its2.toArray n2 od sl hlong (by rw [List.size_toArray]; omega) (by omega)) ⟨e, ho, ?_⟩
  refine ⟨.non, _, I.lset (its' := its ++ its2) hH e (by simp) (r.append r2) ?_, rfl, q⟩
  rw [List.length_append]
  omega
section
variable {K : PySem.W.Frag} {Wx : WX} {RE : REx}
@[reducible] def fExtT : W → List W → Mem → (W → Mem → Prop) → Prop := fun x xs M R => gR x fun a => g1 xs fun y => ∃ ws, M a = some (.lst ws) ∧ gT y fun ds => ws.length + ds.length ≤ sizeLine ∧ R (.d .none) (mset M a (.lst (ws ++ ds.map W.d)))
theorem sm_extT : SM K (rExtT K) fExtT := fun F H M v vs x xs R Q hr rx rxs hf k => by
  obtain ⟨a, rfl, h1⟩ := gR_of hf
  obtain ⟨y, rfl, ws, h2, h3⟩ := g1_of h1
  obtain ⟨ds, rfl, hz, h8⟩ := gT_of h3
  obtain ⟨u, rfl, ry⟩ := rxs.one
  obtain ⟨us, h4, h5⟩ := hr.lst h2
  obtain ⟨b, zv, rfl, h6, h7⟩ := ry.tup
  rw [rx.ref]
  refine ⟨a, b, us, zv, rfl, rfl, h4, same_t hr.fh h6, by rw [h5.len, h7.len]; exact hz, ?_⟩
  obtain ⟨r2, g2⟩ := hr.put (u := .lst (us ++ zv)) (o := .lst (ws ++ ds.map W.d)) h2 ⟨_, rfl, h5.app (.dat h7)⟩
  exact k _ _ _ _ _ r2 g2 (.d .non) h8
end
end Tl
set_option Elab.async false
set_option linter.all false
set_option maxRecDepth 100000
set_option maxHeartbeats 4000000
/-! t[::-1] of a tuple; rows by their places. -/
namespace Tl
open PySem PySem.Spec PyProof.Rows L2
section
variable {prog : Program} {w : World} {A : Around} {E : Value → Shared → Prop} {s : Shared}
theorem adj_rev (n : Nat) : Builtin.Slice.sliceAdjust none none (-1) (n : Int) = ((n : Int) - 1, -1) := rfl
theorem places_rev (n : Nat) : Builtin.Slice.slicePlaces ((n : Int) - 1) (-1) (-1) = n := by
  unfold Builtin.Slice.slicePlaces
  rw [if_neg (by decide)]
  by_cases h : (n : Int) - 1 > -1
  · rw [if_pos h, show (- -1 : Int) = 1 by decide, Int.ediv_one]
    omega
  · rw [if_neg h]
    omega
theorem fm_congr {α β : Type} {f g : α → Option β} : ∀ {l : List α}, (∀ x ∈ l, f x = g x) → l.filterMap f = l.filterMap g
  | [], _ => rfl
  | a :: l, h => by rw [List.filterMap_cons, List.filterMap_cons, h a (.head _), fm_congr fun x hx => h x (.tail _ hx)]
theorem pick_rev (xs : Array Value) : ((List.range xs.size).filterMap fun (k : Nat) => xs[((xs.size : Int) - 1 + (k : Int) * -1).toNat]?).toArray = xs.toList.reverse.toArray := by
  congr 1
  apply List.ext_getElem?
  intro i
  have e : (List.range xs.size).filterMap (fun (k : Nat) => xs[((xs.size : Int) - 1 + (k : Int) * -1).toNat]?) = (List.range xs.size).filterMap (fun k => xs.toList.reverse[k]?) := by
    apply fm_congr
    intro k hk
    have hk2 := List.mem_range.mp hk
    rw [List.getElem?_reverse (by simpa using hk2), show ((xs.size : Int) - 1 + (k : Int) * -1).toNat = xs.size - 1 - k by omega]
    simp
  rw [e]
  have : ∀ (l : List Value), (List.range l.length).filterMap (fun k => l[k]?) = l := by
    intro l
    induction l with
    | nil => rfl
    | cons a l ih =>
      rw [List.length_cons, List.range_succ_eq_map, List.filterMap_cons, List.filterMap_map]
      show a :: List.filterMap (fun k => l[k]?) (List.range l.length) = _
      rw [ih]
  have h2 := this xs.toList.reverse
  rw [List.length_reverse, Array.length_toList] at h2
  rw [h2]
theorem getItem_tuple_rev {t sl : Addr} {items : Array Value} {vl vu vs : Value} {Q : Value → Shared → Prop} (ht : IsTup s.heap t items) (hs : s.heap.IsSliceOf sl vl vu vs) (pl : IsPart vl none) (pu : IsPart vu none) (ps : IsPart vs (some (-1)))
    (h : Q (.ref s.heap.objs.size) { s with heap := s.heap.push { cls := .type "tuple", data := .seq items.toList.reverse.toArray } })
    (hsz : items.size ≤ sizeLine) : wpAny (model prog w) A (getItem (.ref t) (.ref sl)) Q E s := by
  have htake : sizeOk (.seq items.toList.reverse.toArray) := by
    show items.toList.reverse.toArray.size ≤ sizeLine
    rw [List.size_toArray, List.length_reverse, Array.length_toList]
    exact hsz
  obtain ⟨os, hos, hcs, hds⟩ := id hs
  have hTs : s.TypeIs (.ref sl) "slice" := ⟨os, hos, hcs⟩
  unfold getItem
  try with_reducible refine wpAny_holding ?_
  first | refine wpAny_bind (wpAny_pure ?_) | skip
  refine wpAny_bind (wpAny_sequenceKey ht.typeIs (by decide) ?_)
  refine wpAny_bind (wpAny_callSpecial?_slot (name := Str.ofString "__getitem__") ht.typeIs PyProof.Rows.slot_tuple_getitem
    (wpAny_call_entry PyProof.Rows.slot_tuple_getitem ht.typeIs entry_tuple_getitem ?_ (args_tuple_getitem _ _)))
  show wpAny _ _ (Builtin.Tuple.tupleItemsOf (.ref t) >>= _) _ _ s
  refine wpAny_bind (tupleItemsOf_ ht ?_)
  refine wpAny_bind (wpAny_typeOf hTs ?_)
  rw [if_pos (by decide)]
  refine wpAny_bind (m := Builtin.Slice.sliceApplied (.ref sl) (pure (items.size : Int))) ?_
  unfold Builtin.Slice.sliceApplied Builtin.Slice.sliceFields
  refine wpAny_bind (wpAny_bind (wpAny_field hos hds (x := vl) rfl (wpAny_bind (wpAny_field hos hds (x := vu) rfl (wpAny_bind (wpAny_field hos hds (x := vs) rfl (wpAny_pure ?_)))))))
  refine wpAny_bind (HT.slicePart_ ps ?_)
  show wpAny _ _ (if ((-1 : Int) == 0) = true then _ else _) _ _ s
  rw [if_neg (by decide)]
  refine wpAny_bind (HT.slicePart_ pl (wpAny_bind (HT.slicePart_ pu (wpAny_bind (wpAny_pure ?_)))))
  show wpAny _ _ (match Builtin.Slice.sliceAdjust none none (-1) (items.size : Int) with | (lo, hi) => pure (lo, (-1 : Int), Builtin.Slice.slicePlaces lo hi (-1))) _ _ s
  rw [adj_rev]
  show wpAny _ _ (pure ((items.size : Int) - 1, (-1 : Int), Builtin.Slice.slicePlaces ((items.size : Int) - 1) (-1) (-1))) _ _ s
  rw [places_rev]
  refine wpAny_pure ?_
  have hno : ¬ ((((items.size : Int) - 1) == 0 && (-1 : Int) == 1 && items.size == items.size) = true) := by
    rw [show ((-1 : Int) == 1) = false by decide, Bool.and_false, Bool.false_and]
    exact Bool.false_ne_true
  show wpAny _ _ (if (((items.size : Int) - 1) == 0 && (-1 : Int) == 1 && items.size == items.size) = true then _ else _) _ _ s
  rw [if_neg hno, pick_rev]
  first
    | exact wpAny_bind (m := Builtin.Tuple.tupleExact _) (wpAny_newObj_type (wpAny_pure ⟨_, rfl, wpAny_pure h⟩) htake)
    | exact wpAny_bind (m := Builtin.Tuple.tupleExact _) (wpAny_newObj_type (wpAny_bind (wpAny_pure (wpAny_pure ⟨_, rfl, wpAny_pure h⟩))) htake)
    | exact wpAny_bind (wpAny_bind (m := Builtin.Tuple.tupleExact _) (wpAny_newObj_type (wpAny_pure (wpAny_pure ⟨_, rfl, wpAny_pure h⟩)) htake))
    | exact wpAny_bind (wpAny_bind (m := Builtin.Tuple.tupleExact _) (wpAny_newObj_type (wpAny_pure ⟨_, rfl, wpAny_pure h⟩) htake))
end
section
variable {X : Cx}
def tRevT (K : PySem.W.Frag) (te : TE) : TE := fun σ H Q => te σ H fun x H1 => ∃ a xs, x = .ref a ∧ SqT K H1 a xs ∧ ∀ p, H1 p = none → Q (.ref p) (upd H1 p (.tup xs.reverse))
theorem pe_revT {e : Expr} {te : TE} {k : Nat} {p1 p2 p3 pos : Pos} (he : PE X e te) : PE X (.Subscript e (.Slice none none (some (.UnaryOp .USub (.Constant (.int 1) k p1) p2)) p3) pos) (tRevT X.K te) := by
  refine ⟨fun pins s σ H Q I h => ?_⟩
  refine Subscript_ (thn (he.run pins s σ H _ I h) fun v s1 ⟨x, H1, I1, r1, q1⟩ => ?_)
  obtain ⟨a, xs, ex, hx, q⟩ := q1
  subst ex
  cases r1
  have hst : PO X (some (.UnaryOp .USub (.Constant (.int 1) k p1) p2)) (tPart (tUn (rU fun i => .int (-i)) (tC (.int 1)))) := po_some (pe_un un_neg pe_int)
  refine wpAny_Slice (thn (po_none.run pins s1 σ H1 (fun o H2 => o = none ∧ H2 = H1) I1 ⟨rfl, rfl⟩) fun vl s2 ⟨l, H2, I2, pl, el, e2⟩ => ?_)
  subst el e2
  refine thn (po_none.run pins s2 σ H2 (fun o H3 => o = none ∧ H3 = H2) I2 ⟨rfl, rfl⟩) fun vu s3 ⟨u, H3, I3, pu, eu, e3⟩ => ?_
  subst eu e3
  refine thn (hst.run pins s3 σ H3 (fun o H4 => o = some (-1) ∧ H4 = H3) I3 ⟨1, rfl, -1, rfl, rfl, rfl⟩) fun vs s4 ⟨o, H4, I4, ps, eo, e4⟩ => ?_
  subst eo e4
  have I5 : Inv X pins σ H4 { s4 with heap := s4.heap.push { cls := .type "slice", data := .fields #[vl, vu, vs] } } := I4.kept (t' := s4.toks) fun b ob q => Heap.get?_push_of_some _ q
  obtain ⟨its, r, ht, hz⟩ := I5.tuple hx
  have hlen := r.length
  show wpAny (model X.prog X.w) X.A (subscriptTail e (.Slice none none (some (.UnaryOp .USub (.Constant (.int 1) k p1) p2)) p3) (.ref a) (.ref s4.heap.objs.size)) (EP X pins σ Q) X.xe { s4 with heap := s4.heap.push { cls := .type "slice", data := .fields #[vl, vu, vs] } }
  refine tail_any (ops := [.ref a, .ref s4.heap.objs.size]) ht.typeIs PyProof.Rows.slot_tuple_getitem.lookup ?_ (by with_unfolding_all rfl)
  refine getItem_tuple_rev ht (Heap.IsSliceOf.new _ vl vu vs) pl pu ps ?_ (by rw [List.size_toArray]; omega)
  refine ⟨.ref _, _, I5.laid (t' := s4.toks) (o := .tup xs.reverse) (fun b ob q => Heap.get?_push_of_some _ q) (Nat.le_refl _) ?_, rfl, q _ (I5.hok.fresh (Nat.le_refl _))⟩
  exact ⟨by rw [List.length_reverse]; exact hz, _, r.reverse, _, Heap.get?_push_size _ rfl, rfl, 0, rfl⟩
end
section
variable {K : PySem.W.Frag} {Wx : WX} {RE : REx}
@[reducible] def rvT (T : TDE) : TDE := fun ρ M R => T ρ M fun x M1 => gT x fun ds => R (.d (.tuple ds.reverse)) M1
theorem se_rvT {t : TE} {T : TDE} (h : SE K Wx RE t T) : SE K Wx RE (tRevT K t) (rvT T) := fun F H M σ ρ R Q hr hx hs ht k =>
  h F H M σ ρ _ _ hr hx hs ht fun v H1 F1 M1 x r1 g1 rx h1 => by
    obtain ⟨ds, rfl, h2⟩ := gT_of h1
    obtain ⟨a, xs, rfl, h3, h4⟩ := rx.tup
    refine ⟨a, xs, rfl, same_t r1.fh h3, fun p hp => ?_⟩
    obtain ⟨r2, g2, rz⟩ := r1.tup hp h4.rev
    exact k _ _ _ _ _ r2 (g1.trans g2) rz h2
end
end Tl
set_option Elab.async false
set_option linter.all false
set_option maxRecDepth 100000
set_option maxHeartbeats 4000000
/-! What the readings are unfolded by. -/
namespace Tl
open PySem L2
theorem tyIs_int {d : PyData} : tyIs d "int" = some (isInt d) := by simp [tyIs]
theorem tyIs_bool {d : PyData} : tyIs d "bool" = some (isBl d) := by simp [tyIs]
theorem tyIs_str {d : PyData} : tyIs d "str" = some (isStr d) := by simp [tyIs]
theorem tyIs_tuple {d : PyData} : tyIs d "tuple" = some (isTup d) := by simp [tyIs]
theorem tyIs_list {d : PyData} : tyIs d "list" = some (isList d) := by simp [tyIs]
theorem map_c {α β : Type} {f : α → β} {a : α} {l : List α} : (a :: l).map f = f a :: l.map f := rfl
theorem map_n {α β : Type} {f : α → β} : ([] : List α).map f = [] := rfl
theorem app_c {α : Type} {a : α} {l r : List α} : (a :: l) ++ r = a :: (l ++ r) := rfl
theorem app_n {α : Type} {r : List α} : ([] : List α) ++ r = r := rfl
theorem len_c {α : Type} {a : α} {l : List α} : (a :: l).length = l.length + 1 := rfl
theorem len_n {α : Type} : ([] : List α).length = 0 := rfl
theorem rep_0 {α : Type} {a : α} : List.replicate 0 a = [] := rfl
theorem rep_s {α : Type} {a : α} {n : Nat} : List.replicate (n + 1) a = a :: List.replicate n a := rfl
theorem isE_c {α : Type} {a : α} {l : List α} : (a :: l).isEmpty = false := rfl
theorem isE_n {α : Type} : ([] : List α).isEmpty = true := rfl
theorem IfB.nil {ds : List PyData} {A B : Prop} (h : IfB ds.isEmpty A B) : IfB (PyData.eqv (.list ds) (.list [])) A B := by
  cases ds <;> exact h
theorem IfB.nilT {ds : List PyData} {A B : Prop} (h : IfB ds.isEmpty A B) : IfB (PyData.eqv (.tuple ds) (.tuple [])) A B := by
  cases ds <;> exact h
theorem at_0 {α : Type} {x0 : α} {r : List α} : atI (x0 :: r) 0 = some x0 := atI_nat (j := 0) rfl
theorem at_m0 {α β : Type} {f : α → β} {x0 : α} {r : List α} : atI ((x0 :: r).map f) 0 = some (f x0) := atI_nat (j := 0) rfl
theorem at_1 {α : Type} {x0 x1 : α} {r : List α} : atI (x0 :: x1 :: r) 1 = some x1 := atI_nat (j := 1) rfl
theorem at_m1 {α β : Type} {f : α → β} {x0 x1 : α} {r : List α} : atI ((x0 :: x1 :: r).map f) 1 = some (f x1) := atI_nat (j := 1) rfl
theorem at_2 {α : Type} {x0 x1 x2 : α} {r : List α} : atI (x0 :: x1 :: x2 :: r) 2 = some x2 := atI_nat (j := 2) rfl
theorem at_m2 {α β : Type} {f : α → β} {x0 x1 x2 : α} {r : List α} : atI ((x0 :: x1 :: x2 :: r).map f) 2 = some (f x2) := atI_nat (j := 2) rfl
theorem at_3 {α : Type} {x0 x1 x2 x3 : α} {r : List α} : atI (x0 :: x1 :: x2 :: x3 :: r) 3 = some x3 := atI_nat (j := 3) rfl
theorem at_m3 {α β : Type} {f : α → β} {x0 x1 x2 x3 : α} {r : List α} : atI ((x0 :: x1 :: x2 :: x3 :: r).map f) 3 = some (f x3) := atI_nat (j := 3) rfl
theorem at_4 {α : Type} {x0 x1 x2 x3 x4 : α} {r : List α} : atI (x0 :: x1 :: x2 :: x3 :: x4 :: r) 4 = some x4 := atI_nat (j := 4) rfl
theorem at_m4 {α β : Type} {f : α → β} {x0 x1 x2 x3 x4 : α} {r : List α} : atI ((x0 :: x1 :: x2 :: x3 :: x4 :: r).map f) 4 = some (f x4) := atI_nat (j := 4) rfl
theorem at_5 {α : Type} {x0 x1 x2 x3 x4 x5 : α} {r : List α} : atI (x0 :: x1 :: x2 :: x3 :: x4 :: x5 :: r) 5 = some x5 := atI_nat (j := 5) rfl
theorem at_m5 {α β : Type} {f : α → β} {x0 x1 x2 x3 x4 x5 : α} {r : List α} : atI ((x0 :: x1 :: x2 :: x3 :: x4 :: x5 :: r).map f) 5 = some (f x5) := atI_nat (j := 5) rfl
theorem at_6 {α : Type} {x0 x1 x2 x3 x4 x5 x6 : α} {r : List α} : atI (x0 :: x1 :: x2 :: x3 :: x4 :: x5 :: x6 :: r) 6 = some x6 := atI_nat (j := 6) rfl
theorem at_m6 {α β : Type} {f : α → β} {x0 x1 x2 x3 x4 x5 x6 : α} {r : List α} : atI ((x0 :: x1 :: x2 :: x3 :: x4 :: x5 :: x6 :: r).map f) 6 = some (f x6) := atI_nat (j := 6) rfl
theorem at_7 {α : Type} {x0 x1 x2 x3 x4 x5 x6 x7 : α} {r : List α} : atI (x0 :: x1 :: x2 :: x3 :: x4 :: x5 :: x6 :: x7 :: r) 7 = some x7 := atI_nat (j := 7) rfl
theorem at_m7 {α β : Type} {f : α → β} {x0 x1 x2 x3 x4 x5 x6 x7 : α} {r : List α} : atI ((x0 :: x1 :: x2 :: x3 :: x4 :: x5 :: x6 :: x7 :: r).map f) 7 = some (f x7) := atI_nat (j := 7) rfl
theorem exW {o : Option MO} {ws : List W} {k : List W → Prop} (h : o = some (.lst ws)) (q : k ws) : ∃ ws, o = some (.lst ws) ∧ k ws := ⟨ws, h, q⟩
theorem gDs_i {ds : List PyData} {k : List PyData → Prop} (q : k ds) : gDs (ds.map W.d) k := by rw [gDs_map]; exact q
end Tl
set_option Elab.async false
set_option linter.all false
set_option maxRecDepth 100000
set_option maxHeartbeats 4000000
namespace Tl
open PySem L2
theorem eqv_nil (ds : List PyData) : PyData.eqv (.list ds) (.list []) = ds.isEmpty := by
  cases ds with
  | nil => rfl
  | cons a r => rfl
mutual
theorem gd_nd : ∀ d : PyData, gd d = true → d.hasDict = false
  | .none, _ => rfl
  | .bool _, _ => rfl
  | .int _, _ => rfl
  | .str _, _ => rfl
  | .list ds, h => by rw [gd] at h; rw [PyData.hasDict]; exact gds_nd ds h
  | .tuple ds, h => by rw [gd] at h; rw [PyData.hasDict]; exact gds_nd ds h
  | .dict _, h => Bool.noConfusion h
theorem gds_nd : ∀ ds : List PyData, gdAll ds = true → PyData.hasDictAll ds = false
  | [], _ => rfl
  | d :: ds, h => by
    rw [gdAll, Bool.and_eq_true] at h
    rw [PyData.hasDictAll, gd_nd d h.1, gds_nd ds h.2]
    rfl
end
end Tl
set_option Elab.async false
set_option linter.all false
set_option maxRecDepth 100000
set_option maxHeartbeats 4000000
/-! The empty dict; one of some; rows that are good to be shown, cut and put together. -/
namespace Tl
open PySem L2
theorem at_mem {α : Type} {xs : List α} {r : Int} (h0 : 0 ≤ r) (h1 : r < (xs.length : Nat)) : ∃ x, atI xs r = some x ∧ x ∈ xs := by
  obtain ⟨n, rfl⟩ : ∃ n : Nat, r = (n : Int) := ⟨r.toNat, by omega⟩
  have hn : n < xs.length := by omega
  exact ⟨xs[n], atI_nat (List.getElem?_eq_getElem hn), List.getElem_mem hn⟩
/-- good to be shown, of a weight and a depth -/
def Gk (m k : Nat) (d : PyData) : Prop := gd d = true ∧ wt d ≤ m ∧ d.depth ≤ k
def Gks (m k : Nat) (ds : List PyData) : Prop := gdAll ds = true ∧ wtAll ds ≤ m ∧ PyData.depthAll ds ≤ k
def GdE (d : PyData) : Prop := Gk 1000000 40 d ∨ d = .dict []
theorem Gk.mono {m k m' k' : Nat} {d : PyData} (h : Gk m k d) (h1 : m ≤ m') (h2 : k ≤ k') : Gk m' k' d := ⟨h.1, Nat.le_trans h.2.1 h1, Nat.le_trans h.2.2 h2⟩
theorem Gks.nil {m k : Nat} : Gks m k [] := ⟨rfl, Nat.zero_le _, Nat.zero_le _⟩
theorem Gks.cons {m k m' m'' : Nat} {d : PyData} {ds : List PyData} (h : Gk m k d) (h' : Gks m' k ds) (e : m + 2 + m' ≤ m'') : Gks m'' k (d :: ds) := by
  refine ⟨by rw [gdAll, h.1, h'.1]; rfl, ?_, ?_⟩
  · rw [wtAll]
    have := h.2.1
    have := h'.2.1
    omega
  · rw [PyData.depthAll]
    have := h.2.2
    have := h'.2.2
    omega
theorem Gks.tup {m k m' : Nat} {ds : List PyData} (h : Gks m k ds) (e : 3 + m ≤ m') : Gk m' (k + 1) (.tuple ds) := ⟨by rw [gd]; exact h.1, by rw [wt]; have := h.2.1; omega, by rw [PyData.depth]; have := h.2.2; omega⟩
theorem Gks.lst {m k m' : Nat} {ds : List PyData} (h : Gks m k ds) (e : 3 + m ≤ m') : Gk m' (k + 1) (.list ds) := ⟨by rw [gd]; exact h.1, by rw [wt]; have := h.2.1; omega, by rw [PyData.depth]; have := h.2.2; omega⟩
theorem Gks.app {m k m' m'' : Nat} {a b : List PyData} (h : Gks m k a) (h' : Gks m' k b) (e : m + m' ≤ m'') : Gks m'' k (a ++ b) := by
  refine ⟨by rw [gdAll_app, h.1, h'.1]; rfl, ?_, ?_⟩
  · rw [wtAll_app]
    have := h.2.1
    have := h'.2.1
    omega
  · rw [depthAll_app]
    have := h.2.2
    have := h'.2.2
    omega
theorem Gks.of_app {m k : Nat} {a b : List PyData} (h : Gks m k (a ++ b)) : Gks m k a ∧ Gks m k b := by
  obtain ⟨h1, h2, h3⟩ := h
  rw [gdAll_app, Bool.and_eq_true] at h1
  rw [wtAll_app] at h2
  rw [depthAll_app] at h3
  exact ⟨⟨h1.1, by omega, by omega⟩, h1.2, by omega, by omega⟩
theorem Gks.take {m k : Nat} {ds : List PyData} (h : Gks m k ds) (n : Nat) : Gks m k (ds.take n) := by
  rw [← List.take_append_drop n ds] at h
  exact h.of_app.1
theorem Gks.drop {m k : Nat} {ds : List PyData} (h : Gks m k ds) (n : Nat) : Gks m k (ds.drop n) := by
  rw [← List.take_append_drop n ds] at h
  exact h.of_app.2
theorem Gks.rev {m k : Nat} {ds : List PyData} (h : Gks m k ds) : Gks m k ds.reverse := by
  induction ds generalizing m with
  | nil => exact h
  | cons a r ih =>
    obtain ⟨h1, h2, h3⟩ := h
    rw [gdAll, Bool.and_eq_true] at h1
    rw [wtAll] at h2
    rw [PyData.depthAll] at h3
    rw [List.reverse_cons]
    exact Gks.app (m := wtAll r) (m' := wt a + 2) (ih ⟨h1.2, Nat.le_refl _, by omega⟩) (Gks.cons (m := wt a) (m' := 0) ⟨h1.1, Nat.le_refl _, by omega⟩ Gks.nil (Nat.le_refl _)) (by omega)
theorem Gks.get {m k : Nat} {ds : List PyData} {d : PyData} (h : Gks m k ds) (hd : d ∈ ds) : Gk m k d := by
  obtain ⟨i, hi, rfl⟩ := List.getElem_of_mem hd
  obtain ⟨q1, q2, q3⟩ := gdAll_get h.1 (List.getElem?_eq_getElem hi)
  have := h.2.1
  have := h.2.2
  exact ⟨q1, by omega, by omega⟩
theorem cut_to {α : Type} {xs : List α} {k : Nat} : cut xs none (some (k : Int)) = xs.take k := by
  unfold cut
  rw [HT.sIx_none, HT.sIx_nat, List.drop_zero, Nat.sub_zero]
  by_cases h : k ≤ xs.length
  · rw [Nat.min_eq_left h]
  · rw [Nat.min_eq_right (by omega), List.take_length, List.take_of_length_le (by omega)]
theorem cut_from {α : Type} {xs : List α} {k : Nat} : cut xs (some (k : Int)) none = xs.drop k := by
  unfold cut
  rw [HT.sIx_none, HT.sIx_nat]
  by_cases h : k ≤ xs.length
  · rw [Nat.min_eq_left h, List.take_of_length_le (by rw [List.length_drop]; omega)]
  · rw [Nat.min_eq_right (by omega), List.drop_length, List.drop_of_length_le (by omega), List.take_nil]
theorem gk_int {i : Int} {m k : Nat} (h : i.natAbs < 10 ^ 41) (hm : 1930 ≤ m) : Gk m k (.int i) := ⟨by rw [gd]; exact decide_eq_true h, by rw [wt]; exact hm, Nat.zero_le _⟩
theorem gk_str {s : Str} {m k : Nat} (h : s.length ≤ 1000) (h2 : PyData.strOk s = true) (hm : 10 * s.length + 4 ≤ m) : Gk m k (.str s) := ⟨by rw [gd, decide_eq_true h, h2]; rfl, by rw [wt]; exact hm, Nat.zero_le _⟩
theorem gO_atD {ds : List PyData} {r : Int} {k : W → Prop} (Pq : PyData → Prop) (h0 : 0 ≤ r) (h1 : r < (ds.length : Nat)) (hp : ∀ d ∈ ds, Pq d) (q : ∀ d, Pq d → k (W.d d)) : gO (atI (ds.map W.d) r) k := by
  obtain ⟨d, e, hm⟩ := at_mem (xs := ds) h0 h1
  refine gO_i (a := W.d d) ?_ (q d (hp d hm))
  rw [atI_map, e]
  rfl
theorem all1 {α : Type} {P : α → Prop} {a : α} {l : List α} (h : P a) (t : ∀ x ∈ l, P x) : ∀ x ∈ a :: l, P x := fun x hx => (List.mem_cons.mp hx).elim (fun z => by rw [z]; exact h) (t x)
theorem all0 {α : Type} {P : α → Prop} : ∀ x ∈ ([] : List α), P x := fun x hx => absurd hx List.not_mem_nil
theorem GdE.sh {d : PyData} (h : GdE d) : (d.hasDict = false ∨ d = .dict []) ∧ shOk d := by
  rcases h with h | rfl
  · refine ⟨.inl (gd_nd d h.1), gd_show d h.1, by have := h.2.2; omega, ?_⟩
    have := shown_le d h.1
    have h2 := h.2.1
    exact Nat.le_trans (Nat.le_trans this h2) (by decide)
  · exact ⟨.inr rfl, by decide +kernel, by decide +kernel, by decide +kernel⟩
end Tl
set_option Elab.async false
set_option linter.all false
set_option maxRecDepth 100000
set_option maxHeartbeats 4000000
/-! A def called at one place alone (what stands around it is known), and a law's end by it. -/
namespace Tl
open PySem PySem.Spec PyProof.Rows L2
theorem run_at {P : Program} {w : World} {K : PySem.W.Frag} {mg : Str → Option Value} {base : Heap} {k : Nat} {f : Addr} {fd : FuncData} {x qual : Str} {st : Stmt} {N ps : List Str} {A0 : Around} {outer : List Env} {s : Shared} {H : Hp} {args : Args} {us : List Value} {vs : List V} {Q : VK} {E : XK}
    (F : Fun K x qual st f fd) (S : FnScope N ps (defScope st)) (hr : Room (k + 1) A0) (e0 : Env0 P w K mg base A0 outer s H) (hb : BindsTo s fd args (ps.zip us)) (r : Vals vs us) (hl : vs.length = ps.length)
    (body : ∀ cdv : Value, Room k (A0.deeper (envOfC qual (defScope st) s.heap.objs.size f cdv)) →
      ∃ t, PSs (cxOf CX0 P w K mg base N qual (defScope st) f cdv A0 outer s H E).nox (defBody st) t ∧ t { nx := fun _ H' => Q .non H', rt := Q } (start N vs) H) :
    codeAny (model P w) A0 (.call (.ref f) args) (CR CX0 outer P w H s Q E) s := by
  obtain ⟨oc, od, kV, doc, pm, an, cdv, ct, osl, rfl, lk, hcd⟩ := F.ex
  have keep : ∀ b o, base.get? b = some o → s.heap.get? b = some o := fun b o q => (e0.bs b o q).1
  have KX : K.In s.heap := e0.mod.kin.keeps keep
  have hkind : ∀ y ∈ ps.zip us, (defScope st).names.lookup y.1 = some .local ∨
      ((defScope st).names.lookup y.1 = some .cell ∧ ((cellsFrom (s.heap.objs.size + 1) (defScope st).names []).lookup y.1).isSome = true) := by
    rintro ⟨n, v⟩ hy
    exact (S.par n (List.of_mem_zip hy).1).imp id fun q => ⟨q, PySem.W.cellsFrom_some _ _ _ (.inl q)⟩
  refine codeAny_call_function hr.depth (KX _ _ lk) rfl S.co S.gen rfl
    (PySem.W.codeRec_of KX hcd) (hb _ _ _ _ ?_)
  refine wpAny_newFunctionEnv_cells S.kind hkind fun env he s1 xx => ?_
  subst he
  refine ⟨(e0.mod.nolimit.keeps keep).keeps xx.toInCall.keep, codeAny_func ?_⟩
  obtain ⟨t, ht, hq⟩ := body cdv (hr.deeper _)
  have I := inv_start (CX := CX0) (E := E) S hr.hd e0 hl r xx
  refine wpAny_mono (ht.nox.run [] s1 (start N vs) H _ I hq) (fun fl s' hs => ?_) fun e s' hs => hs
  cases fl with
  | ret u =>
    obtain ⟨v, σ', H', J, rv, q⟩ := hs
    exact ⟨v, H', J.os, J.bare, J.base, J.hok, rv, q⟩
  | next =>
    obtain ⟨σ', H', J, q⟩ := hs
    exact ⟨V.non, H', J.os, J.bare, J.base, J.hok, rfl, q⟩
  | brk =>
    obtain ⟨_, _, _, q⟩ := hs
    exact q.elim
  | cont =>
    obtain ⟨_, _, _, q⟩ := hs
    exact q.elim
/-- what is tracked as a law begins: nothing, or the script alone, locked -/
def onlyAt (a : Addr) (o : Obj) (xs : List V) : Hp := fun b => if b = a then some (.frz o (.lst xs)) else none
theorem end_at {P : Program} {w : World} {K : PySem.W.Frag} {mg mb : Str → Option Value} {fa a : Addr} {s₁ : Shared} {vs : List Value} {ns : List Int}
    (KX : K.In s₁.heap) (hns : s₁.heap.Ns mainGlobals mg) (hmb : s₁.heap.Ns builtinsNs mb) (hbb : ∀ x : Str, x ≠ "__name__" → mb x = bootBuiltins x)
    (hlim : s₁.heap.NoLimit) (hg : s₁.gens = #[]) (ha : s₁.heap.get? a = some { cls := .type "list", data := .seq vs.toArray }) (hi : IntsAre vs ns) (hl : ns.length ≤ sizeLine)
    (run : ∀ (base : Heap) (H : Hp), K.In base → base.Ns mainGlobals mg → SqL K H a (ns.map V.int) → Env0 P w K mg base callerA [] s₁ H →
      codeAny (model P w) callerA (.call (.ref fa) ⟨[.ref a], []⟩) (CR CX0 [] P w H s₁ (fun v _ => v = V.bl true) fun _ _ _ => False) s₁) :
    codeAny (model P w) callerA (.call (.ref fa) ⟨[.ref a], []⟩)
      (fun r s' => r = .ok (.ret (.bool true)) ∧ OldK s₁.heap s'.heap ∧ s'.os = s₁.os ∧ AllBare s'.gens) s₁ := by
  have rv := vals_ints hi
  have go : ∀ H : Hp, (∀ b u, H b = some u → b = a ∧ ∃ o xs, u = .frz o (.lst xs)) → SqL K H a (ns.map V.int) → HOk P w H s₁.heap → (H a ≠ none → K.lookup a = none) →
      codeAny (model P w) callerA (.call (.ref fa) ⟨[.ref a], []⟩)
        (fun r s' => r = .ok (.ret (.bool true)) ∧ OldK s₁.heap s'.heap ∧ s'.os = s₁.os ∧ AllBare s'.gens) s₁ := by
    intro H hO hS hok hK
    have bo : ∀ {b : Addr} {o : Obj}, s₁.heap.get? b = some o → H b = none → (hidT s₁.heap H).get? b = some o := fun q n => hidT_get q n
    have nd : ∀ {b : Addr} {o : Obj} {es : Array DictEntry} {ep : Nat}, s₁.heap.get? b = some o → o.data = .dict es ep → H b = none := by
      intro b o es ep q d
      cases z : H b with
      | none => rfl
      | some u =>
        obtain ⟨rfl, _⟩ := hO b u z
        rw [ha] at q
        cases q
        have d' : Data.seq vs.toArray _ = Data.dict es ep := d
        cases d'
    have nsK : ∀ {b : Addr} {m : Str → Option Value}, s₁.heap.Ns b m → (hidT s₁.heap H).Ns b m := by
      rintro b m ⟨o, es, ep, q, d, r⟩
      exact ⟨o, es, ep, bo q (nd q d), d, r⟩
    have hKb : K.In (hidT s₁.heap H) := fun b o q => bo (KX b o q) (by
      cases z : H b with
      | none => rfl
      | some u =>
        obtain ⟨rfl, _⟩ := hO b u z
        have := hK (by rw [z]; exact fun y => nomatch y)
        rw [this] at q
        cases q)
    obtain ⟨mc, l1, l2⟩ := hlim
    have hM : Mod K mg (hidT s₁.heap H) := ⟨hKb, nsK hns, ⟨mb, nsK hmb, hbb⟩, ⟨mc, nsK l1, l2⟩⟩
    have e0 : Env0 P w K mg (hidT s₁.heap H) callerA [] s₁ H :=
      ⟨rfl, hM, fun b o q => of_hidT q, Nat.le_of_eq (hidT_size _ _), trivial, fun b hb => absurd (show b ∈ ([] : List Addr) from hb) (by simp), hok, .of_eq hg⟩
    refine codeAny_mono (run _ H hKb (nsK hns) hS e0) fun r s' h => ?_
    cases r with
    | error e => exact h.elim
    | ok fl =>
      cases fl with
      | ret u =>
        obtain ⟨v, H', os, bare, un, hok', r', q⟩ := h
        have q' : v = .bl true := q
        subst q'
        obtain rfl : u = Value.bool true := r'
        refine ⟨rfl, OldK.of_keep fun b o e => ?_, os, bare⟩
        cases z : H b with
        | none => exact un.keep b o e z (fun y => absurd (show b ∈ ([] : List Addr) from y) (by simp)) (by simp)
        | some u =>
          obtain ⟨rfl, ob, xs, rfl⟩ := hO b u z
          have z2 := un.frzs b ob _ z
          obtain ⟨e1, _⟩ := hok b _ z
          obtain ⟨e2, _⟩ := hok' b _ z2
          rw [e] at e1
          cases e1
          exact e2
      | next => exact h.elim
      | brk => exact h.elim
      | cont => exact h.elim
  have lenV := hi.length
  cases hk : K.lookup a with
  | some o =>
    have e := KX a o hk
    rw [ha] at e
    cases e
    have no : ∀ (b : Addr) (u : HO), (fun _ : Addr => (none : Option HO)) b = some u → False := fun b u z => by
      have z' : (none : Option HO) = some u := z
      cases z'
    exact go (fun _ => none) (fun b u z => (no b u z).elim) (.inr ⟨_, vs.toArray, _, hk, rfl, rfl, rfl, by rw [List.size_toArray, lenV]; exact hl, by simpa using rv⟩)
      (fun b u z => (no b u z).elim) fun z => absurd rfl z
  | none =>
    have at_a : onlyAt a { cls := .type "list", data := .seq vs.toArray } (ns.map V.int) a = some (.frz { cls := .type "list", data := .seq vs.toArray } (.lst (ns.map V.int))) := if_pos rfl
    have only : ∀ b u, onlyAt a { cls := .type "list", data := .seq vs.toArray } (ns.map V.int) b = some u → b = a ∧ u = .frz { cls := .type "list", data := .seq vs.toArray } (.lst (ns.map V.int)) := fun b u z => by
      unfold onlyAt at z
      by_cases hb : b = a
      · rw [if_pos hb] at z
        exact ⟨hb, (Option.some.inj z).symm⟩
      · rw [if_neg hb] at z
        cases z
    refine go (onlyAt a { cls := .type "list", data := .seq vs.toArray } (ns.map V.int)) (fun b u z => ?_) (.inl (.inr ⟨_, at_a⟩)) (fun b u z => ?_) fun _ => hk
    · obtain ⟨h1, h2⟩ := only b u z
      exact ⟨h1, _, _, h2⟩
    · obtain ⟨rfl, rfl⟩ := only b u z
      exact ⟨ha, by rw [List.length_map]; exact hl, vs, _, rv, ha⟩
theorem walk_at_top {l : PySem.W.OpenLaw} {n : Nat} {q : Program} {loose : List Str} {XP : (Str → Option Value) → Heap → Prop} {YP : World → Heap → Prop} {d : DefRec} {K : Params → PySem.W.Frag}
    (hn : l.most = some n) (hn2 : n ≤ sizeLine) (hdf : d.params.defaults = []) (hY : ∀ (w : World) (h : Heap), YP w h → (K w.params).In h)
    (F : ∀ (w : World) (mg : Str → Option Value) (fa : Addr) (h : Heap), (K w.params).In h → h.Ns mainGlobals mg → mg d.name = some (.ref fa) →
      ∀ (s₁ : Shared) (base : Heap) (H : Hp) (a : Addr) (ns : List Int), ns.length ≤ n → (K w.params).In base → base.Ns mainGlobals mg → SqL (K w.params) H a (ns.map V.int) → Env0 l.prog w (K w.params) mg base callerA [] s₁ H →
        codeAny (model l.prog w) callerA (.call (.ref fa) ⟨[.ref a], []⟩) (CR CX0 [] l.prog w H s₁ (fun v _ => v = V.bl true) fun _ _ _ => False) s₁) :
    PySem.W.WalkO q loose XP YP l.row.toRowW d [] (fun f vs => PySem.call f vs) := by
  refine Att.attach_call hn hdf fun w s₀ s₁ mg mb fa o pm cd doc a vs ns G Y ho hd hcd hmg hobj hints hlen hg => ?_
  have KX := hY w _ Y
  exact end_at KX G.T.g G.T.b G.T.builtins G.T.nolimit hg hobj hints (Nat.le_trans hlen hn2)
    fun base H h1 h2 h3 h4 => F w mg fa _ KX G.T.g hmg s₁ base H a ns hlen h1 h2 h3 h4
end Tl
set_option Elab.async false
set_option linter.all false
set_option maxRecDepth 100000
set_option maxHeartbeats 4000000
/-! Defs that show things: they are run where no text is being made. -/
namespace Tl
open PySem PySem.Spec PyProof.Rows L2
/-- a promise of a def that is kept where nothing is being shown -/
structure FnG (P : Program) (w : World) (K : PySem.W.Frag) (mg : Str → Option Value) (base : Heap) (k : Nat) (f : Addr) (fd : FuncData) (ps : List Str) (sp : Sp) : Prop where
  len : ∀ vs H Q E, sp vs H Q E → vs.length = ps.length
  run : ∀ (A : Around) (st : List Env) (s : Shared) (H : Hp) (args : Args) (us : List Value) (vs : List V) (Q : VK) (E : XK), A.guards = some [] → Room k A → Env0 P w K mg base A st s H → BindsTo s fd args (ps.zip us) → Vals vs us → sp vs H Q E →
    codeAny (model P w) A (.call (.ref f) args) (CR CX0 st P w H s Q E) s
structure UseG (P : Program) (w : World) (K : PySem.W.Frag) (mg : Str → Option Value) (base : Heap) (x : Str) (ps : List Str) (k : Nat) (sp : Sp) where
  f : Addr
  fd : FuncData
  ok : FnG P w K mg base k f fd ps sp
  m : mg x = some (.ref f)
  kp : PySem.W.keepIn K (.ref f) = true
  b : Binds K fd ps []
end Tl
set_option Elab.async false
set_option linter.all false
set_option maxRecDepth 100000
set_option maxHeartbeats 4000000
/-! A law that makes its source of numbers by its first row. -/
set_option Elab.async false
set_option linter.all false
set_option maxRecDepth 100000
set_option maxHeartbeats 4000000
/-! What a top needs: facts of classes, promises lifted to one level. -/
namespace Tl
open PySem L2
theorem kit_sub0 {K : PySem.W.Frag} {D C : Addr} {b : Bool} (h1 : PySem.W.isClsIn K C = true) (h2 : PySem.W.typeIn K (.ref C) = some (.type "type")) (h : PySem.W.subIn K (.ref D) (.ref C) = some b) (hb : D = C → b = true) : PySem.W.kitOne K (.ref D) (.ref C) = some b := by
  unfold PySem.W.kitOne
  by_cases e : D = C
  · rw [hb e, e, if_pos (by simp)]
  · rw [if_neg (fun z => e (Value.ref.inj (eq_of_beq z)))]
    unfold PySem.W.kitCls
    have h1' : (PySem.W.clsIn K C).isSome = true := h1
    have e2 : ((PySem.W.clsIn K C).isSome && PySem.W.typeIn K (.ref C) == some (.type "type")) = true := by rw [h1', h2] <;> rfl
    show (if ((PySem.W.clsIn K C).isSome && PySem.W.typeIn K (.ref C) == some (.type "type")) = true then PySem.W.subIn K (.ref D) (.ref C) else none) = some b
    rw [if_pos e2]
    exact h
theorem kit_sub {K : PySem.W.Frag} {D C : Addr} (h1 : PySem.W.isClsIn K C = true) (h2 : PySem.W.typeIn K (.ref C) = some (.type "type")) (h : PySem.W.subIn K (.ref D) (.ref C) = some true) : PySem.W.kitOne K (.ref D) (.ref C) = some true := kit_sub0 h1 h2 h fun _ => rfl
theorem kit_no {K : PySem.W.Frag} {D C : Addr} (h1 : PySem.W.isClsIn K C = true) (h2 : PySem.W.typeIn K (.ref C) = some (.type "type")) (hs : PySem.W.subIn K (.ref D) (.ref D) = some true) (h : PySem.W.subIn K (.ref D) (.ref C) = some false) : PySem.W.kitOne K (.ref D) (.ref C) = some false :=
  kit_sub0 h1 h2 h fun e => by
    subst e
    rw [hs] at h
    cases h
theorem kit_ve {K : PySem.W.Frag} {D : Addr} (h : PySem.W.subIn K (.ref D) (.type "ValueError") = some true) : PySem.W.kitOne K (.ref D) (.type "ValueError") = some true := by
  unfold PySem.W.kitOne
  rw [if_neg (by simp)]
  show (if PySem.W.kitMeta "ValueError" = true then PySem.W.subIn K (.ref D) (.type "ValueError") else none) = some true
  rw [if_pos (by decide +kernel)]
  exact h
section
variable {P : Program} {w : World} {K : PySem.W.Frag} {mg : Str → Option Value} {base : Heap} {x : Str} {ps : List Str} {k k' : Nat} {sp : Sp}
def Use.up (u : Use P w K mg base x ps k sp) (h : k ≤ k') : Use P w K mg base x ps k' sp := ⟨u.f, u.fd, u.ok.mono h, u.m, u.kp, u.b⟩
def UseX.up (u : UseX P w K mg base x ps k sp) (h : k ≤ k') : UseX P w K mg base x ps k' sp := ⟨u.f, u.fd, u.ok.mono h, u.m, u.kp, u.b⟩
theorem FnG.mono {f : Addr} {fd : FuncData} (F : FnG P w K mg base k f fd ps sp) (h : k ≤ k') : FnG P w K mg base k' f fd ps sp := ⟨F.len, fun A st s H args us vs Q E g hr => F.run A st s H args us vs Q E g (hr.mono h)⟩
def UseG.up (u : UseG P w K mg base x ps k sp) (h : k ≤ k') : UseG P w K mg base x ps k' sp := ⟨u.f, u.fd, u.ok.mono h, u.m, u.kp, u.b⟩
/-- a def as the top has left it -/
structure At (K : PySem.W.Frag) (mg : Str → Option Value) (x : Str) (st : Stmt) where
  f : Addr
  fd : FuncData
  F : Fun K x x st f fd
  m : mg x = some (.ref f)
def use {st : Stmt} (d : At K mg x st) (b : Binds K d.fd ps []) (ok : FnOk P w K mg base CX0 k d.f d.fd ps sp) : Use P w K mg base x ps k sp := ⟨d.f, d.fd, ok, d.m, d.F.kp, b⟩
def useX {st : Stmt} (d : At K mg x st) (b : Binds K d.fd ps []) (ok : FnOk P w K mg base (L2.CX P w) k d.f d.fd ps sp) : UseX P w K mg base x ps k sp := ⟨d.f, d.fd, ok, d.m, d.F.kp, b⟩
/-- one def, from what the top has written -/
def at_mk {h : Heap} {x : Str} {st : Stmt} (X : K.In h) (G : h.Ns mainGlobals mg) {f : Addr} {od an : Option Addr} {sl : Array (Option Value)} {oc kV dc pm cd ct : Value} (a : PySem.W.nsIn K mainGlobals x = some (some (.ref f)))
    (l : K.lookup f = some ⟨oc, od, .func (PySem.W.fnOf x x (defArgs st) (defBody st) (defScope st) .none kV dc pm an cd ct), sl⟩) (c : PySem.W.codeIn K cd x = true) (k : PySem.W.keepIn K (.ref f) = true) : At K mg x st :=
  ⟨f, _, fun_mk (st := st) l c k, PySem.W.mg_of X G a⟩
end
end Tl
set_option Elab.async false
set_option linter.all false
set_option maxRecDepth 100000
set_option maxHeartbeats 4000000
/-! Places, levels and parts of a tree that is data. -/
namespace Tl
open PySem L2
def pathD (q : List Nat) : PyData := .tuple (q.map fun n : Nat => .int (n : Int))
mutual
def plc : PyData → List (List Nat)
  | .tuple [_, .tuple ks] => [] :: plcAll 0 ks
  | _ => [[]]
def plcAll : Nat → List PyData → List (List Nat)
  | _, [] => []
  | i, k :: ks => (plc k).map (i :: ·) ++ plcAll (i + 1) ks
end
mutual
def lev : PyData → Nat
  | .tuple [_, .tuple ks] => 1 + levAll ks
  | _ => 1
def levAll : List PyData → Nat
  | [] => 0
  | k :: ks => max (lev k) (levAll ks)
end
/-- the part at a path -/
def sub : PyData → List Nat → Option PyData
  | d, [] => some d
  | .tuple [_, .tuple ks], n :: q => (match ks[n]? with | some k => sub k q | none => none)
  | _, _ :: _ => none
def optP : Option PyData → PyData
  | some d => d
  | none => .none
theorem plc_node (s : PyData) (ks : List PyData) : plc (.tuple [s, .tuple ks]) = [] :: plcAll 0 ks := by rw [plc]
theorem lev_node (s : PyData) (ks : List PyData) : lev (.tuple [s, .tuple ks]) = 1 + levAll ks := by rw [lev]
theorem sub_node (s : PyData) (ks : List PyData) (n : Nat) (q : List Nat) : sub (.tuple [s, .tuple ks]) (n :: q) = (match ks[n]? with | some k => sub k q | none => none) := by rw [sub]
theorem sub_nil (d : PyData) : sub d [] = some d := by
  rw [sub]
theorem plcAll_app : ∀ (i : Nat) (a b : List PyData), plcAll i (a ++ b) = plcAll i a ++ plcAll (i + a.length) b
  | i, [], b => by rw [plcAll]; rfl
  | i, k :: a, b => by
    rw [List.cons_append, plcAll, plcAll, plcAll_app (i + 1) a b, List.append_assoc, List.length_cons, show i + 1 + a.length = i + (a.length + 1) by omega]
theorem plcAll_one (i : Nat) (k : PyData) : plcAll i [k] = (plc k).map (i :: ·) := by rw [plcAll, plcAll, List.append_nil]
mutual
theorem plc_len : ∀ {n : Nat} {d : PyData}, TrT n d → (plc d).length = nn d
  | 0, _, h => h.elim
  | n + 1, d, h => by
    obtain ⟨s, ks, rfl, _, hk⟩ := h
    rw [plc_node, List.length_cons, plcAll_len 0 hk, nn]
    omega
theorem plcAll_len : ∀ {n : Nat} {ks : List PyData} (i : Nat), (∀ k ∈ ks, TrT n k) → (plcAll i ks).length = nnAll ks
  | _, [], _, _ => by rw [plcAll, nnAll]; rfl
  | n, k :: ks, i, h => by rw [plcAll, List.length_append, List.length_map, plc_len (h k (.head _)), plcAll_len (i + 1) fun x hx => h x (.tail _ hx), nnAll]
end
mutual
theorem lev_le : ∀ {n : Nat} {d : PyData}, TrT n d → lev d ≤ n
  | 0, _, h => h.elim
  | n + 1, d, h => by
    obtain ⟨s, ks, rfl, _, hk⟩ := h
    have := levAll_le hk
    rw [lev_node]
    omega
theorem levAll_le : ∀ {n : Nat} {ks : List PyData}, (∀ k ∈ ks, TrT n k) → levAll ks ≤ n
  | _, [], _ => by rw [levAll]; exact Nat.zero_le _
  | n, k :: ks, h => by
    have h1 := lev_le (h k (.head _))
    have h2 := levAll_le fun x hx => h x (.tail _ hx)
    rw [levAll]
    omega
end
theorem nnAll_map : ∀ ks : List PyData, ((ks.map fun k => ((nn k : Nat) : Int)).sum) = ((nnAll ks : Nat) : Int)
  | [] => by rw [nnAll]; rfl
  | k :: ks => by
    rw [List.map_cons, List.sum_cons, nnAll_map ks, nnAll]
    omega
theorem mx_lev : ∀ {ks : List PyData}, ks ≠ [] → mxI (ks.map fun k => ((lev k : Nat) : Int)) = ((levAll ks : Nat) : Int)
  | [], h => absurd rfl h
  | [k], _ => by
    rw [List.map_cons, List.map_nil, mxI, levAll, levAll]
    omega
  | k :: z :: r, _ => by
    have e : mxI ((k :: z :: r).map fun k => ((lev k : Nat) : Int)) = max ((lev k : Nat) : Int) (mxI ((z :: r).map fun k => ((lev k : Nat) : Int))) := rfl
    rw [e, mx_lev (ks := z :: r) (by simp), show levAll (k :: z :: r) = max (lev k) (levAll (z :: r)) by rw [levAll]]
    omega
theorem mx_lev0 (ks : List PyData) : mxI ((0 : Int) :: ks.map fun k => ((lev k : Nat) : Int)) = ((levAll ks : Nat) : Int) := by
  cases ks with
  | nil => rw [List.map_nil, mxI, levAll]; rfl
  | cons k r =>
    have e : mxI ((0 : Int) :: (k :: r).map fun k => ((lev k : Nat) : Int)) = max (0 : Int) (mxI ((k :: r).map fun k => ((lev k : Nat) : Int))) := rfl
    rw [e, mx_lev (by simp)]
    omega
theorem sub_tr : ∀ {q : List Nat} {n : Nat} {d e : PyData}, TrT n d → sub d q = some e → TrT (n - q.length) e ∧ q.length < n ∧ nn e ≤ nn d
  | [], n, d, e, h, hs => by
    rw [sub_nil] at hs
    cases hs
    refine ⟨h, ?_, Nat.le_refl _⟩
    cases n with
    | zero => exact h.elim
    | succ n => exact Nat.succ_pos _
  | i :: q, 0, d, e, h, hs => h.elim
  | i :: q, n + 1, d, e, h, hs => by
    obtain ⟨s, ks, rfl, _, hk⟩ := h
    rw [sub_node] at hs
    cases c : ks[i]? with
    | none => rw [c] at hs; cases hs
    | some k =>
      rw [c] at hs
      have hm := List.mem_of_getElem? c
      obtain ⟨h1, h2, h3⟩ := sub_tr (hk k hm) hs
      refine ⟨?_, by rw [List.length_cons]; omega, ?_⟩
      · rw [List.length_cons, show n + 1 - (q.length + 1) = n - q.length by omega]
        exact h1
      · have : ∀ {ks : List PyData} {k : PyData}, k ∈ ks → nn k ≤ nnAll ks := fun {ks k} h => by
          induction ks with
          | nil => cases h
          | cons z r ih =>
            rw [nnAll]
            rcases List.mem_cons.mp h with rfl | h
            · omega
            · have := ih h; omega
        have := this hm
        rw [nn]
        omega
mutual
theorem plc_sub : ∀ {n : Nat} {d : PyData}, TrT n d → ∀ q ∈ plc d, ∃ e, sub d q = some e
  | 0, _, h => h.elim
  | n + 1, d, h => by
    obtain ⟨s, ks, rfl, _, hk⟩ := h
    intro q hq
    rw [plc_node] at hq
    rcases List.mem_cons.mp hq with rfl | hq
    · exact ⟨_, sub_nil _⟩
    · obtain ⟨i, r, k, rfl, _, hi, hr⟩ := plcAll_sub 0 hk q hq
      obtain ⟨e, he⟩ := hr
      exact ⟨e, by rw [sub_node, show ks[i]? = some k by rw [← hi]; rfl]; exact he⟩
theorem plcAll_sub : ∀ {n : Nat} {ks : List PyData} (j : Nat), (∀ k ∈ ks, TrT n k) → ∀ q ∈ plcAll j ks, ∃ i r k, q = i :: r ∧ j ≤ i ∧ ks[i - j]? = some k ∧ ∃ e, sub k r = some e
  | _, [], _, _, q, hq => by rw [plcAll] at hq; cases hq
  | n, k :: ks, j, h, q, hq => by
    rw [plcAll] at hq
    rcases List.mem_append.mp hq with hq | hq
    · obtain ⟨r, hr, rfl⟩ := List.mem_map.mp hq
      obtain ⟨e, he⟩ := plc_sub (h k (.head _)) r hr
      exact ⟨j, r, k, rfl, Nat.le_refl _, by rw [Nat.sub_self]; rfl, e, he⟩
    · obtain ⟨i, r, k', rfl, hi, hk, he⟩ := plcAll_sub (j + 1) (fun x hx => h x (.tail _ hx)) q hq
      exact ⟨i, r, k', rfl, by omega, by rw [show i - j = (i - (j + 1)) + 1 by omega]; exact hk, he⟩
end
/-- a new list, told as data -/
theorem FnOk.dat {P : Program} {w : World} {K : PySem.W.Frag} {mg : Str → Option Value} {base : Heap} {CX : CXT} {f : Addr} {fd : FuncData} {k n : Nat} {ps : List Str} {tf tf' : TF} (F : FnOk P w K mg base CX k f fd ps (spD K n tf))
    (h : ∀ ws M R RX, ws.length = n → tf' ws M R RX → tf ws M (fun x M' => ∃ p ds, x = .r p ∧ M p = none ∧ M' = mset M p (.lst (ds.map W.d)) ∧ R (.d (.list ds)) M) RX) : FnOk P w K mg base CX k f fd ps (spD K n tf') :=
  F.imp fun vs H Q E ⟨F0, M, ws, R, RX, r, rs, hl, hf, hk, hx⟩ => ⟨F0, M, ws, _, RX, r, rs, hl, h ws M R RX hl hf, fun v H' F' M' x r' g rx q => by
    obtain ⟨p, ds, rfl, hp, rfl, hR⟩ := q
    obtain ⟨F2, r2, g2, d2⟩ := r'.freeze (p := p) (ds := ds) mset_same
    rw [mdel_mset, mdel_none hp] at r2 g2
    rw [rx.ref]
    exact hk _ H' F2 M _ r2 (g.trans g2) (.d d2) hR, hx⟩
theorem mapW {α : Type} (g : α → PyData) (xs : List α) : (xs.map g).map W.d = xs.map fun a => W.d (g a) := by rw [List.map_map]; rfl
theorem gIs_ints {bs : List Int} {k : List Int → Prop} (q : k bs) : gIs ((bs.map PyData.int).map W.d) k := by
  rw [mapW, gIs_map (fun a => a), List.map_id']
  exact q
theorem max_ints {ρ : EnvD} {M : Mem} {bs : List Int} {k : W → Mem → Prop} (h : 0 < bs.length) (q : k (.d (.int (mxI bs))) M) : nilA ρ M fun xs M2 => fMax (W.d (.list (bs.map PyData.int)) :: xs) M2 k := gIs_ints (bs := bs) (k := fun bs => 0 < bs.length ∧ k (.d (.int (mxI bs))) M) ⟨h, q⟩
theorem lc1F {α : Type} {b : TDG} {keep : Mem → Prop} {te : TDE} {ρ : EnvD} {k : List PyData → Prop} {M : Mem} {i : Nat} {f : α → W} (g : α → PyData) (hk : keep M) {xs : List α} (hb : ∀ a ∈ xs, ∀ Rk : W → Mem → Prop, Rk (.d (g a)) M → te (put ρ i (some (f a))) M Rk) (hl : xs.length ≤ sizeLine) {fin : List PyData → Mem → Prop} (h : fin (xs.map g) M) : lcGo (bName i) keep yesT te ρ (fun acc M2 => gDs acc fun ds => fin ds M2) (rows1 (xs.map f)) [] M := by
  refine lc1 (fun a => .d (g a)) hk hb hl ?_
  rw [show (xs.map fun a => W.d (g a)) = (xs.map g).map W.d by rw [List.map_map]; rfl]
  exact gDs_i h
end Tl
set_option Elab.async false
set_option linter.all false
set_option maxRecDepth 100000
set_option maxHeartbeats 4000000
/-! The very value told; count papers. -/
namespace Tl
open PySem L2
mutual
theorem gd_lay : ∀ d : PyData, gd d = true → d.canLay0 = true
  | .none, _ => rfl
  | .bool _, _ => rfl
  | .int _, _ => rfl
  | .str s, h => by
    rw [gd, Bool.and_eq_true] at h
    rw [PyData.canLay0]
    exact h.2
  | .list ds, h => by rw [gd] at h; rw [PyData.canLay0]; exact gds_lay ds h
  | .tuple ds, h => by rw [gd] at h; rw [PyData.canLay0]; exact gds_lay ds h
  | .dict _, h => Bool.noConfusion h
theorem gds_lay : ∀ ds : List PyData, gdAll ds = true → PyData.canLayAll0 ds = true
  | [], _ => rfl
  | d :: ds, h => by
    rw [gdAll, Bool.and_eq_true] at h
    rw [PyData.canLayAll0, gd_lay d h.1, gds_lay ds h.2]
    rfl
end
theorem gd_eqOk {d : PyData} (h : gd d = true) (hd : d.depth ≤ 64) : eqOk d = true := by
  unfold eqOk SeqAt.shaped
  rw [gd_nd d h, gd_lay d h, decide_eq_true hd]
  rfl
/-- a row of a count paper -/
def rowD (q : List Nat) (m h : Nat) : PyData := .tuple [pathD q, .int (m : Int), .int (h : Int)]
theorem sub_app : ∀ {q : List Nat} {n : Nat} {d : PyData} (r : List Nat), TrT n d → sub d (q ++ r) = (match sub d q with | some e => sub e r | none => none)
  | [], n, d, r, h => by rw [List.nil_append, sub_nil]
  | i :: q, 0, d, r, h => h.elim
  | i :: q, n + 1, d, r, h => by
    obtain ⟨s, ks, rfl, _, hk⟩ := h
    rw [List.cons_append, sub_node, sub_node]
    cases c : ks[i]? with
    | none => rfl
    | some k => exact sub_app r (hk k (List.mem_of_getElem? c))
end Tl
set_option Elab.async false
set_option linter.all false
set_option maxRecDepth 100000
set_option maxHeartbeats 4000000
/-! More names at once; what is good to be shown, decided. -/
namespace Tl
open PySem L2
instance {m k : Nat} {d : PyData} : Decidable (Gk m k d) := inferInstanceAs (Decidable (_ ∧ _ ∧ _))
instance {m k : Nat} {d : List PyData} : Decidable (Gks m k d) := inferInstanceAs (Decidable (_ ∧ _ ∧ _))
theorem Gks.of {m k : Nat} : ∀ {ds : List PyData}, (∀ d ∈ ds, Gk m k d) → Gks ((m + 2) * ds.length) k ds
  | [], _ => ⟨rfl, Nat.zero_le _, Nat.zero_le _⟩
  | d :: ds, h => Gks.cons (h d (.head _)) (Gks.of fun x hx => h x (.tail _ hx)) (by rw [List.length_cons, Nat.mul_succ]; omega)
theorem Gks.mono {m k m' k' : Nat} {ds : List PyData} (h : Gks m k ds) (h1 : m ≤ m') (h2 : k ≤ k') : Gks m' k' ds := ⟨h.1, Nat.le_trans h.2.1 h1, Nat.le_trans h.2.2 h2⟩
theorem Gks.ofL {m k n m' : Nat} {ds : List PyData} (h : ∀ d ∈ ds, Gk m k d) (hl : ds.length ≤ n) (hm : (m + 2) * n ≤ m') : Gks m' k ds := (Gks.of h).mono (Nat.le_trans (Nat.mul_le_mul (Nat.le_refl _) hl) hm) (Nat.le_refl _)
theorem GdE.of {m k : Nat} {d : PyData} (h : Gk m k d) (h1 : m ≤ 1000000) (h2 : k ≤ 40) : GdE d := .inl (h.mono h1 h2)
theorem small41 {i : Int} (h : -100000 ≤ i) (h2 : i ≤ 100000) : i.natAbs < 10 ^ 41 := Nat.lt_of_le_of_lt (show i.natAbs ≤ 100000 by omega) (by decide)
theorem gk_i {i : Int} {k : Nat} (h : -100000 ≤ i) (h2 : i ≤ 100000) : Gk 1930 k (.int i) := gk_int (small41 h h2) (Nat.le_refl _)
theorem sub_ent : ∀ {q : List Nat} {n : Nat} {d e : PyData}, TrT n d → sub d q = some e → ∀ i ∈ q, i < nn d
  | [], n, d, e, h, hs, i, hi => by cases hi
  | j :: q, 0, d, e, h, hs, i, hi => h.elim
  | j :: q, n + 1, d, e, h, hs, i, hi => by
    obtain ⟨s, ks, rfl, _, hk⟩ := h
    rw [sub_node] at hs
    have hl : ∀ ks : List PyData, ks.length ≤ nnAll ks := fun ks => by
      induction ks with
      | nil => exact Nat.zero_le _
      | cons z r ih =>
        have := nn_pos z
        rw [nnAll, List.length_cons]
        omega
    have hm : ∀ {ks : List PyData} {k : PyData}, k ∈ ks → nn k ≤ nnAll ks := fun {ks k} h => by
      induction ks with
      | nil => cases h
      | cons z r ih =>
        rw [nnAll]
        rcases List.mem_cons.mp h with rfl | h
        · omega
        · have := ih h; omega
    cases c : ks[j]? with
    | none => rw [c] at hs; cases hs
    | some k =>
      rw [c] at hs
      have h1 := hl ks
      have h2 := (List.getElem?_eq_some_iff.mp c).1
      have h3 := hm (List.mem_of_getElem? c)
      rw [nn]
      rcases List.mem_cons.mp hi with rfl | hi
      · omega
      · have := sub_ent (hk k (List.mem_of_getElem? c)) hs i hi
        omega
/-- a path that is good to be shown -/
theorem gk_path {q : List Nat} (hl : q.length ≤ 20) (h : ∀ i ∈ q, i ≤ 1000) : Gk 40000 1 (pathD q) := by
  unfold pathD
  refine (Gks.ofL (m := 1930) (k := 0) (n := 20) (m' := 39000) (fun d hd => ?_) (by rw [List.length_map]; exact hl) (by decide)).tup (by decide)
  obtain ⟨i, hi, rfl⟩ := List.mem_map.mp hd
  have := h i hi
  exact gk_i (by omega) (by omega)
/-- good to be shown, up to a greater weight -/
def GdB (d : PyData) : Prop := Gk 8000000 40 d ∨ d = .dict []
theorem GdB.of {m k : Nat} {d : PyData} (h : Gk m k d) (h1 : m ≤ 8000000) (h2 : k ≤ 40) : GdB d := .inl (h.mono h1 h2)
theorem GdB.sh {d : PyData} (h : GdB d) : (d.hasDict = false ∨ d = .dict []) ∧ shOk d := by
  rcases h with h | rfl
  · refine ⟨.inl (gd_nd d h.1), gd_show d h.1, by have := h.2.2; omega, ?_⟩
    have := shown_le d h.1
    have h2 := h.2.1
    exact Nat.le_trans (Nat.le_trans this h2) (by decide)
  · exact ⟨.inr rfl, by decide +kernel, by decide +kernel, by decide +kernel⟩
/-! ### papers -/
structure ROk (d : PyData) : Prop where
  e : ∃ (q : List Nat) (m h : Nat), d = rowD q m h ∧ q.length ≤ 12 ∧ (∀ i ∈ q, i ≤ 60) ∧ m ≤ 60 ∧ h ≤ 12
theorem ROk.g {d : PyData} (r : ROk d) : Gk 30000 2 d := by
  obtain ⟨q, m, h, rfl, h1, h2, h3, h4⟩ := r.e
  unfold rowD
  have hp : Gk 25000 1 (pathD q) := by
    unfold pathD
    refine (Gks.ofL (m := 1930) (k := 0) (n := 12) (m' := 24000) (fun d hd => ?_) (by rw [List.length_map]; exact h1) (by decide)).tup (by decide)
    obtain ⟨i, hi, rfl⟩ := List.mem_map.mp hd
    have := h2 i hi
    exact gk_i (by omega) (by omega)
  exact (Gks.cons (m' := 3864) (m'' := 28866) hp (.cons (m' := 1932) (gk_i (by omega) (by omega)) (.cons (m' := 0) (gk_i (by omega) (by omega)) .nil (by decide)) (by decide)) (by decide)).tup (by decide)
structure POk (ds : List PyData) : Prop where
  n0 : 1 ≤ ds.length
  n1 : ds.length ≤ 60
  e : ∀ d ∈ ds, ROk d
theorem POk.g {ds : List PyData} (h : POk ds) : Gks 1900000 2 ds := Gks.ofL (m := 30000) (n := 60) (fun d hd => (h.e d hd).g) h.n1 (by decide)
end Tl
set_option Elab.async false
set_option linter.all false
set_option maxRecDepth 100000
set_option maxHeartbeats 4000000
/-! A law whose source of numbers is a list with the script itself. -/
namespace Tl
open PySem PySem.Spec PyProof.Rows L2
section
variable {P : Program} {w : World} {K : PySem.W.Frag} {mg : Str → Option Value} {base : Heap}
theorem src_new2 {H : Hp} {sa c : Addr} {cs : List Int} {z : Int} (hS : SqL K H c (cs.map V.int)) (h1 : H sa = none) (l1 : cs.length ≤ 63) (z0 : 0 ≤ z) (z1 : z < 2305843009213693951) : ∃ F M, Rl K F (upd H sa (.lst [.ref c, .int 0, .int 0, .int z])) M ∧ M sa = some (.src false) := by
  have hF : SqL K (fun b => if b = c then H b else none) c (cs.map V.int) := by
    rcases hS with (h | ⟨o, h⟩) | h
    · exact .inl (.inl (by show (if c = c then H c else none) = _; rw [if_pos rfl]; exact h))
    · exact .inl (.inr ⟨o, by show (if c = c then H c else none) = _; rw [if_pos rfl]; exact h⟩)
    · exact .inr h
  refine ⟨fun b => if b = c then H b else none, fun b => if b = sa then some (.src false) else none, ⟨fun b u q => ?_, fun b o q => ?_, fun b o q => ?_⟩, if_pos rfl⟩
  · have q' : (if b = c then H b else none) = some u := q
    split at q'
    · have n : b ≠ sa := fun z => by rw [z, h1] at q'; cases q'
      rw [upd_ne n]
      exact q'
    · cases q'
  · have q' : (if b = sa then some (MO.src false) else none) = some o := q
    split at q'
    · rename_i e
      show (if b = c then H b else none) = none
      rw [e, h1]
      split <;> rfl
    · cases q'
  · have q' : (if b = sa then some (MO.src false) else none) = some o := q
    split at q'
    · rename_i e
      cases q'
      exact ⟨_, by rw [e]; exact upd_same, _, rfl, c, cs, 0, 0, z, rfl, hF, l1, (fun h => by cases h), by decide, by decide, z0, by rw [if_neg (by decide)]; exact z1⟩
    · cases q'
end
end Tl
set_option Elab.async false
set_option linter.all false
set_option maxRecDepth 100000
set_option maxHeartbeats 4000000
/-! Places in the walk behind, and the least number within each part. -/
namespace Tl
open PySem L2
/-- the law's rows: a place, its tag, the number at which its part begins -/
abbrev Wk := List Nat × PyData × Nat
mutual
def wk : PyData → List Nat → Nat → List Wk
  | .tuple [s, .tuple ks], q, n => wkAll ks q 0 n ++ [(q, s, n)]
  | d, q, n => [(q, d, n)]
def wkAll : List PyData → List Nat → Nat → Nat → List Wk
  | [], _, _, _ => []
  | k :: ks, q, i, n => wk k (q ++ [i]) n ++ wkAll ks q (i + 1) (n + nn k)
end
/-- things that are drawn as they come -/
theorem lc_any {b : TDG} {keep : Mem → Prop} {te : TDE} {ρ : EnvD} {fin : List W → Mem → Prop} {M : Mem} (Pq : W → Prop) (hk : keep M) : ∀ (rows : List (List W)) (acc : List W), (∀ row ∈ rows, ∀ (Rk : W → Mem → Prop) (Rn : Mem → Prop), (∀ y, Pq y → Rk y M) → b row ρ M fun ρ1 M1 => IfB true (te ρ1 M1 Rk) (Rn M1)) → acc.length + rows.length ≤ sizeLine → (∀ ys, ys.length = rows.length → (∀ y ∈ ys, Pq y) → fin (acc ++ ys) M) → lcGo b keep yesT te ρ fin rows acc M
  | [], acc, hb, hl, h => by
    rw [lcGo]
    have := h [] rfl (fun y hy => by cases hy)
    rw [List.append_nil] at this
    exact ⟨hk, this⟩
  | row :: rows, acc, hb, hl, h => by
    rw [lcGo]
    rw [List.length_cons] at hl
    refine ⟨hk, hb row (.head _) _ _ fun y hy => ⟨by omega, lc_any Pq hk rows (acc ++ [y]) (fun x hx => hb x (.tail _ hx)) (by rw [List.length_append]; simp; omega) fun ys hy1 hy2 => ?_⟩⟩
    rw [List.append_assoc]
    exact h (y :: ys) (by rw [List.length_cons, List.length_cons, hy1]) (fun z hz => by
      rcases List.mem_cons.mp hz with rfl | hz
      · exact hy
      · exact hy2 z hz)
end Tl
set_option Elab.async false
set_option linter.all false
set_option maxRecDepth 100000
set_option maxHeartbeats 4000000
/-! Defs that are handed on by a name: a walk over some of them, a call of one of them. -/
set_option Elab.async false
set_option linter.all false
set_option maxRecDepth 100000
set_option maxHeartbeats 4000000
/-! list.pop() and min of a list. -/
set_option Elab.async false
set_option linter.all false
set_option maxRecDepth 100000
set_option maxHeartbeats 4000000
/-! A list beside the empty list. -/
namespace Tl
open PySem L2
section
variable {X : Cx}
def rEqN : R2 := fun x y H Q => ∃ a b xs, x = .ref a ∧ y = .ref b ∧ H a = some (.lst xs) ∧ H b = some (.lst []) ∧ Q (.bl xs.isEmpty) H
theorem op_eqN (hu : X.A.units + 64 < cLine) : OpR X (compareOp .Eq) rEqN := by
  intro pins s σ H x y v u Q I rx ry h
  obtain ⟨a, b, xs, rfl, rfl, ea, eb, q⟩ := h
  obtain rfl : v = Value.ref a := rx
  obtain rfl : u = Value.ref b := ry
  obtain ⟨za, ia, na, ra, la, ha⟩ := I.lstM ea
  obtain ⟨zb, ib, nb, rb, lb, hb⟩ := I.lstM eb
  have e0 : ib = [] := by cases rb; rfl
  subst e0
  have hl : s.heap.IsList a ia.toArray := ⟨_, ha, rfl, na, rfl⟩
  have hl2 : s.heap.IsList b #[] := ⟨_, hb, rfl, nb, rfl⟩
  cases xs with
  | nil =>
    have e1 : ia = [] := by cases ra; rfl
    subst e1
    exact SeqAt.eq_listAt (e := fun _ => true) hl hl2 rfl (by omega) (fun j h1 _ => absurd h1 (by simp)) ⟨.bl _, H, I, rfl, q⟩
  | cons x0 r0 =>
    refine SeqAt.eq_list_lengthsAt hl hl2 ?_ (by omega) ⟨.bl _, H, I, rfl, q⟩
    rw [List.size_toArray, ← la, List.length_cons]
    simp
end
section
variable {K : PySem.W.Frag}
/-- a list, whatever is in it, beside [] -/
@[reducible] def fEqN (neg : Bool) : F2 := fun x y M R => y = .d (.list []) ∧ gW M x fun ws => R (.d (.bool (ng neg ws.isEmpty))) M
theorem rws_empty {F : Hp} {vs : List V} {ws : List W} (h : RWs K F vs ws) : vs.isEmpty = ws.isEmpty := by cases h <;> rfl
theorem so_eqN : SO K rEqN (fEqN false) := fun F H M v u x y R Q hr rx ry hf k => by
  obtain ⟨rfl, h1⟩ := hf
  obtain ⟨a, vs, ws, rfl, h2, h3, h4⟩ := gW_of hr rx h1
  obtain ⟨b, us, rfl, h5, h6⟩ := ry.lst
  cases h6
  refine ⟨a, b, vs, rfl, rfl, h2, hr.fh _ _ h5, ?_⟩
  rw [rws_empty h3]
  exact k _ H F M _ hr .refl (.d (.bl _)) h4
end
end Tl
set_option Elab.async false
set_option linter.all false
set_option maxRecDepth 100000
set_option maxHeartbeats 4000000
/-! Objects of own classes: fields, methods, making one. -/
namespace Tl
open PySem PySem.Spec PyProof.Rows L2
/-! ### fields -/
def putW (f : Str) (v : W) : List (Str × W) → List (Str × W)
  | [] => [(f, v)]
  | (g, x) :: r => if g = f then (g, v) :: r else (g, x) :: putW f v r
inductive gPut (f : Str) (v : W) (fs : List (Str × W)) (k : List (Str × W) → Prop) : Prop where
  | mk (q : k (putW f v fs))
theorem gPut_n {f : Str} {v : W} {k : List (Str × W) → Prop} (q : k [(f, v)]) : gPut f v [] k := .mk q
theorem gPut_0 {f : Str} {v x : W} {r : List (Str × W)} {k : List (Str × W) → Prop} (q : k ((f, v) :: r)) : gPut f v ((f, x) :: r) k := .mk (by rw [putW, if_pos rfl]; exact q)
theorem gPut_s {f g : Str} {v x : W} {r : List (Str × W)} {k : List (Str × W) → Prop} (h : (g == f) = false) (q : gPut f v r fun r' => k ((g, x) :: r')) : gPut f v ((g, x) :: r) k := by
  obtain ⟨q⟩ := q
  exact .mk (by rw [putW, if_neg (fun z => by rw [z] at h; simp at h)]; exact q)
theorem exI {o : Option MO} {C dx : Addr} {fs : List (Str × W)} {k : Addr → Addr → List (Str × W) → Prop} (h : o = some (.ins C dx fs)) (q : k C dx fs) : ∃ C dx fs, o = some (.ins C dx fs) ∧ k C dx fs := ⟨C, dx, fs, h, q⟩
theorem exI2 {o : Option MO} {C dx : Addr} {fs : List (Str × W)} {k : Addr → List (Str × W) → Prop} (h : o = some (.ins C dx fs)) (q : k dx fs) : ∃ dx fs, o = some (.ins C dx fs) ∧ k dx fs := ⟨dx, fs, h, q⟩
section
variable {K : PySem.W.Frag} {F H : Hp} {M : Mem}
theorem prR_lookup {F : Hp} : ∀ {fv : List (Str × V)} {fw : List (Str × W)} {f : Str} {w : W}, PrR K F fv fw → fw.lookup f = some w → ∃ v, fv.lookup f = some v ∧ RW K F v w
  | [], [], _, _, _, h => by cases h
  | [], _ :: _, _, _, h, _ => by have := h.1; simp at this
  | _ :: _, [], _, _, h, _ => by have := h.1; simp at this
  | (a, x) :: fv, (b, y) :: fw, f, w, h, e => by
    obtain ⟨h1, h2⟩ := h
    simp only [List.map_cons, List.cons.injEq] at h1
    obtain ⟨e1, e2⟩ := h1
    subst e1
    cases h2 with
    | cons r1 r2 =>
      rw [List.lookup] at e ⊢
      cases c : f == a with
      | true => rw [c] at e; cases e; exact ⟨x, rfl, r1⟩
      | false => rw [c] at e; exact prR_lookup ⟨e2, r2⟩ e
theorem prR_none {F : Hp} : ∀ {fv : List (Str × V)} {fw : List (Str × W)} {f : Str}, PrR K F fv fw → fw.lookup f = none → fv.lookup f = none
  | [], _, _, _, _ => rfl
  | _ :: _, [], _, h, _ => by have := h.1; simp at this
  | (a, x) :: fv, (b, y) :: fw, f, h, e => by
    obtain ⟨h1, h2⟩ := h
    simp only [List.map_cons, List.cons.injEq] at h1
    obtain ⟨e1, e2⟩ := h1
    subst e1
    cases h2 with
    | cons r1 r2 =>
      rw [List.lookup] at e ⊢
      cases c : f == a with
      | true => rw [c] at e; cases e
      | false => rw [c] at e; exact prR_none ⟨e2, r2⟩ e
theorem prR_put {F : Hp} {f : Str} {v : V} {w : W} (r : RW K F v w) : ∀ {fv : List (Str × V)} {fw : List (Str × W)}, PrR K F fv fw → PrR K F (putF f v fv) (putW f w fw)
  | [], [], _ => ⟨rfl, .cons r .nil⟩
  | [], _ :: _, h => by have := h.1; simp at this
  | _ :: _, [], h => by have := h.1; simp at this
  | (a, x) :: fv, (b, y) :: fw, h => by
    obtain ⟨h1, h2⟩ := h
    simp only [List.map_cons, List.cons.injEq] at h1
    obtain ⟨e1, e2⟩ := h1
    subst e1
    cases h2 with
    | cons r1 r2 =>
      rw [putF, putW]
      by_cases c : a = f
      · rw [if_pos c, if_pos c]
        exact ⟨by simp [e2], .cons r r2⟩
      · rw [if_neg c, if_neg c]
        obtain ⟨q1, q2⟩ := prR_put r (fv := fv) (fw := fw) ⟨e2, r2⟩
        exact ⟨by simp [q1], .cons r1 q2⟩
theorem PrR.len {F : Hp} {fv : List (Str × V)} {fw : List (Str × W)} (h : PrR K F fv fw) : fv.length = fw.length := by
  have := congrArg List.length h.1
  simpa using this
theorem Rl.ins (h : Rl K F H M) {a C dx : Addr} {fw : List (Str × W)} (e : M a = some (.ins C dx fw)) : ∃ fv, H a = some (.ins C dx fv) ∧ PrR K F fv fw := by
  obtain ⟨u, h1, fv, rfl, h2⟩ := h.at_ a _ e
  exact ⟨fv, h1, h2⟩
end
section
variable {K : PySem.W.Frag} {Wx : WX} {RE : REx}
@[reducible] def fldT (K : PySem.W.Frag) (f : Str) (T : TDE) : TDE := fun ρ M R => T ρ M fun x M1 => gR x fun a => ∃ C dx fs, M1 a = some (.ins C dx fs) ∧ (L2.Cls K C ∧ NoAttr K C f) ∧ gO (List.lookup f fs) fun w => R w M1
theorem se_fld {f : Str} {t : TE} {T : TDE} (h : SE K Wx RE t T) : SE K Wx RE (tFld K t f) (fldT K f T) := fun F H M σ ρ R Q hr hx hs ht k =>
  h F H M σ ρ _ _ hr hx hs ht fun v H1 F1 M1 x r1 g1 rx h1 => by
    obtain ⟨a, rfl, C, dx, fs, hM, ⟨hc, hn⟩, h2⟩ := gR_of h1
    obtain ⟨w, hl, h3⟩ := gO_of h2
    obtain ⟨fv, e1, e2⟩ := r1.ins hM
    obtain ⟨u, e3, e4⟩ := prR_lookup e2 hl
    exact ⟨a, C, dx, fv, u, rx.ref, e1, hc, hn, e3, k u H1 F1 M1 w r1 g1 e4 h3⟩
@[reducible] def setF (K : PySem.W.Frag) (f : Str) (T O : TDE) : TDS := fun D ρ M => T ρ M fun y M1 => O ρ M1 fun x M2 => gR x fun a => ∃ C dx fs, M2 a = some (.ins C dx fs) ∧ (L2.Cls K C ∧ NoAttr K C f ∧ fs.length < 1000) ∧ gPut f y fs fun fs' => D.nx ρ (mset M2 a (.ins C dx fs'))
theorem ss_fld {f : Str} {tv to : TE} {T O : TDE} (h1 : SE K Wx RE tv T) (h2 : SE K Wx RE to O) : SSt K Wx RE (sFld K to tv f) (setF K f T O) := fun F H M σ ρ D E hr hx hs ht k =>
  h1 F H M σ ρ _ _ hr hx hs ht fun v H1 F1 M1 y r1 g1 ry q1 => h2 F1 H1 M1 σ ρ _ _ r1 (hx.mono g1) (hs.mono g1.ff) q1 fun o H2 F2 M2 x r2 g2 rx q2 => by
    obtain ⟨a, rfl, C, dx, fs, hM, ⟨hc, hn, hl⟩, ⟨q3⟩⟩ := gR_of q2
    obtain ⟨fv, e1, e2⟩ := r2.ins hM
    have e3 := prR_put (f := f) (ry.mono g2.ff) e2
    obtain ⟨r3, g3⟩ := r2.put (u := .ins C dx (putF f v fv)) (o := .ins C dx (putW f y fs)) hM ⟨_, rfl, e3⟩
    have g := (g1.trans g2).trans g3
    exact ⟨a, C, dx, fv, rx.ref, e1, hc, hn, by rw [e2.len]; exact hl, k.nx σ _ _ _ ρ r3 g (hs.mono g.ff) q3⟩
/-! ### methods -/
@[reducible] def methT (C : Addr) (m : Str) (f : TF) (T : TDE) (U : TDA) : TDE := fun ρ M R => T ρ M fun x M1 => gR x fun a => ∃ dx fs, M1 a = some (.ins C dx fs) ∧ List.lookup m fs = none ∧ U ρ M1 fun xs M2 => f (.r a :: xs) M2 R fun _ _ => False
theorem se_meth {C : Addr} {m : Str} {n : Nat} {f : TF} {E : XK} {to : TE} {t : TA} {T : TDE} {U : TDA} (h1 : SE K Wx RE to T) (h2 : SAn K Wx RE n t U) : SE K Wx RE (tMeth C m (spD K (n + 1) f) [] E to t) (methT C m f T U) := fun F H M σ ρ R Q hr hx hs ht k =>
  h1 F H M σ ρ _ _ hr hx hs ht fun v H1 F1 M1 x r1 g1 rx q1 => by
    obtain ⟨a, rfl, dx, fs, hM, hl, q2⟩ := gR_of q1
    obtain ⟨fv, e1, e2⟩ := r1.ins hM
    refine ⟨a, dx, fv, rx.ref, e1, prR_none e2 hl, h2 F1 H1 M1 σ ρ _ _ r1 (hx.mono g1) (hs.mono g1.ff) q2 fun vs H2 F2 M2 xs r2 g2 rxs hl2 q3 => ?_⟩
    show spD K (n + 1) f (v :: (vs ++ [])) H2 Q E
    rw [List.append_nil]
    exact ⟨F2, M2, _, R, _, r2, .cons (rx.mono g2.ff) rxs, by rw [List.length_cons, hl2], q3, fun w H3 F3 M3 z r3 g3 rz hz => k w H3 F3 M3 z r3 ((g1.trans g2).trans g3) rz hz, fun cls d H' F' M' x _ _ _ z => z.elim⟩
/-! ### making one -/
@[reducible] def makeX (RE : REx) (C : Addr) (f : TF) (U : TDA) : TDE := fun ρ M R => U ρ M fun xs M1 => ∀ a dx, M1 a = none → f (.r a :: xs) (mset M1 a (.ins C dx [])) (fun v M2 => v = .d .none ∧ R (.r a) M2) fun x M' => RE x ρ M'
theorem Rl.made {F H : Hp} {M : Mem} (h : Rl K F H M) {x dx C : Addr} (e1 : H x = none) (e2 : H dx = none) (hne : dx ≠ x) : Rl K F (upd (upd H dx (.own x)) x (.ins C dx [])) (mset M x (.ins C dx [])) ∧ Gr F H M F (upd (upd H dx (.own x)) x (.ins C dx [])) (mset M x (.ins C dx [])) := by
  obtain ⟨r1, g1⟩ := h.same (same_new (o := .own x) e2)
  have e3 : upd H dx (.own x) x = none := by rw [upd_ne (fun z => hne z.symm)]; exact e1
  obtain ⟨r2, g2⟩ := r1.born (u := .ins C dx []) (o := .ins C dx []) e3 ⟨[], rfl, rfl, .nil⟩
  exact ⟨r2, g1.trans g2⟩
def tMakeS (C : Addr) (sp : Sp) (E : L2.St → XK) (t : TA) : TE := fun σ H Q => t σ H fun vs H1 => ∀ x dx, H1 x = none → H1 dx = none → dx ≠ x →
  sp (.ref x :: vs) (upd (upd H1 dx (.own x)) x (.ins C dx [])) (fun v H2 => v = .non ∧ Q (.ref x) H2) (E σ)
theorem se_makeX {C : Addr} {n : Nat} {f : TF} {t : TA} {U : TDA} (h : SAn K Wx RE n t U) : SE K Wx RE (tMakeS C (spD K (n + 1) f) (WE Wx) t) (makeX RE C f U) := fun F H M σ ρ R Q hr hx hs ht k =>
  h F H M σ ρ _ _ hr hx hs ht fun vs H1 F1 M1 xs r1 g1 rxs hl q1 x dx e1 e2 hne => by
    obtain ⟨r2, g2⟩ := r1.made (C := C) e1 e2 hne
    refine ⟨F1, _, _, _, _, r2, .cons (.r x) (rxs.mono g2.ff), by rw [List.length_cons, hl], q1 x dx (r1.new e1), fun w H3 F3 M3 z r3 g3 rz hz => ?_, fun cls d H' F' M' y r3 g3 xr z => hx F' H' M' σ ρ cls d y ((g1.trans g2).trans g3) r3 (hs.mono ((g1.trans g2).trans g3).ff) xr z⟩
    obtain ⟨rfl, hz⟩ := hz
    exact ⟨rz.non, k _ H3 F3 M3 _ r3 ((g1.trans g2).trans g3) (.r x) hz⟩
end
end Tl
set_option Elab.async false
set_option linter.all false
set_option maxRecDepth 100000
set_option maxHeartbeats 4000000
/-! Errors with a field, raised. -/
namespace Tl
open PySem PySem.Spec PyProof.Rows L2
def inClsN (s : Stmt) (i : Nat) : Stmt := match s with
  | .ClassDef _ _ _ b _ _ _ _ _ _ _ => b.getD i (.Pass ⟨0, 0, 0, 0⟩)
  | _ => .Pass ⟨0, 0, 0, 0⟩
def spInitF (K : PySem.W.Frag) (C : Addr) (fld : Str) : Sp := fun vs H Q _ => ∃ (a : Addr) (v : V), vs = [.ref a, v] ∧ H a = some (exo a C none) ∧ ∀ dx, H dx = none → dx ≠ a → Q .non (upd (upd H dx (exd dx [(fld, v)])) a (exo a C (some dx)))
/-- an own error with one field, as the top has left it -/
structure ErF (K : PySem.W.Frag) (mg : Str → Option Value) (nm qual fld : Str) (st : Stmt) (C : Addr) : Prop where
  o : OexC K C
  g : mg nm = some (.ref C)
  n : PySem.W.findIn K (.ref C) fld = some none
  i : ∃ fI fdI, PySem.W.findIn K (.ref C) "__init__" = some (some (.ref fI)) ∧ PySem.W.typeIn K (.ref fI) = some (.type "function") ∧ Fun K "__init__" qual st fI fdI
section
variable {K : PySem.W.Frag} {Wx : WX} {RE : REx}
@[reducible] def raiseF (RE : REx) (C : Addr) (fld : Str) (T : TDA) : TDS := fun _ ρ M => T ρ M fun xs M1 => g1 xs fun x => gD x fun d => RE ⟨.ref C, [(fld, d)]⟩ ρ M1
theorem ss_raiseF {C : Addr} {fld : Str} {n : Nat} {t : TA} {T : TDA} (h : SAn K Wx RE n t T) : SSt K Wx RE (fun _ σ H => tMkO C (spInitF K C fld) [] t σ H fun cls d H' => Wx cls d σ H') (raiseF RE C fld T) := fun F H M σ ρ D E hr hx hs ht k =>
  h F H M σ ρ _ _ hr hx hs ht fun vs H1 F1 M1 xs r1 g1 rxs hl q1 => by
    obtain ⟨x, rfl, q2⟩ := g1_of q1
    obtain ⟨d, rfl, q3⟩ := gD_of q2
    obtain ⟨v, rfl, rv⟩ := rxs.one
    refine ⟨by show 1 ≤ 1000; decide, fun a ha => ⟨a, v, rfl, upd_same, fun dx hd1 hd2 => ⟨rfl, dx, [(fld, v)], upd_same, ?_, ?_, ?_⟩⟩⟩
    · rw [upd_ne hd2]
      exact upd_same
    · rw [upd_ne hd2] at hd1
      exact hd1
    · rw [upd_ne hd2] at hd1
      have e : upd (L2.del (upd (upd (upd H1 a (exo a C none)) dx (exd dx [(fld, v)])) a (exo a C (some dx))) a) dx (.xd [(fld, v)]) = upd H1 dx (.xd [(fld, v)]) := by
        funext b
        by_cases c : b = dx
        · rw [c, upd_same, upd_same]
        · rw [upd_ne c, upd_ne c]
          by_cases c2 : b = a
          · subst c2
            show (if b = b then none else _) = _
            rw [if_pos rfl, ha]
          · rw [L2.del_ne c2, upd_ne c2, upd_ne c, upd_ne c2]
      rw [e]
      obtain ⟨r2, g2⟩ := r1.fresh (u := .xd [(fld, v)]) hd1
      have g := g1.trans g2
      refine hx (upd F1 dx (.xd [(fld, v)])) _ M1 σ ρ (.ref C) (some dx) ⟨.ref C, [(fld, d)]⟩ g r2 (hs.mono g.ff) ⟨rfl, [(fld, v)], upd_same, rfl, .cons (Dx.mono g2.ff _ _ rv.dx) .nil⟩ q3
/-! ### isinstance of data, one of some built-in classes -/
def tyAny (d : PyData) : List String → Option Bool
  | [] => some false
  | n :: r => (tyIs d n).bind fun b => if b = true then some true else tyAny d r
inductive gNs (ys : List W) (k : List String → Prop) : Prop where
  | mk (ns : List String) (h : ys = ns.map fun n => W.o (.ty n)) (q : k ns)
theorem gNs_n {k : List String → Prop} (q : k []) : gNs [] k := .mk [] rfl q
theorem gNs_c {n : String} {r : List W} {k : List String → Prop} (h : gNs r fun ns => k (n :: ns)) : gNs (.o (.ty n) :: r) k := by
  obtain ⟨ns, rfl, q⟩ := h
  exact .mk (n :: ns) rfl q
theorem tyAny_lt {d : PyData} : tyAny d ["list", "tuple"] = some (isList d || isTup d) := by
  rw [tyAny, tyAny, tyAny, tyIs_list, tyIs_tuple]
  cases isList d <;> cases isTup d <;> rfl
end
end Tl
set_option Elab.async false
set_option linter.all false
set_option maxRecDepth 100000
set_option maxHeartbeats 4000000
/-! list and tuple of a range; a list taken apart; equal data. -/
namespace Tl
open PySem L2
mutual
theorem eqv_self : ∀ d : PyData, d.hasDict = false → PyData.eqv d d = true
  | .none, _ => rfl
  | .bool b, _ => by rw [PyData.eqv]; exact beq_self_eq_true b
  | .int i, _ => by rw [PyData.eqv]; exact beq_self_eq_true i
  | .str x, _ => by rw [PyData.eqv]; exact beq_self_eq_true x
  | .list ds, h => by rw [PyData.hasDict] at h; rw [PyData.eqv]; exact eqvAll_self ds h
  | .tuple ds, h => by rw [PyData.hasDict] at h; rw [PyData.eqv]; exact eqvAll_self ds h
  | .dict _, h => by rw [PyData.hasDict] at h; cases h
theorem eqvAll_self : ∀ ds : List PyData, PyData.hasDictAll ds = false → PyData.eqvAll ds ds = true
  | [], _ => rfl
  | d :: r, h => by
    rw [PyData.hasDictAll, Bool.or_eq_false_iff] at h
    rw [PyData.eqvAll, eqv_self d h.1, eqvAll_self r h.2]
    rfl
end
end Tl
set_option Elab.async false
set_option linter.all false
set_option maxRecDepth 100000
set_option maxHeartbeats 4000000
/-! Slices of lists stored; tables by words (dicts that the top has left for good). -/
namespace Tl
open PySem PySem.Spec PyProof.Rows L2
/-! ### x in a list, of any data -/
theorem room65 {k : Nat} {A : Around} (r : Room k A) : A.units + 65 < cLine := by have := r.un; omega
section
variable {K : PySem.W.Frag}
@[reducible] def fInD (neg : Bool) : F2 := fun x y M R => gD x fun d => gL y fun ds => (eqOk d = true ∧ eqOk (.list ds) = true) ∧ R (.d (.bool (ng neg (ds.any fun z => PyData.eqv z d)))) M
theorem so_notInD : SO K (rNotInD K) (fInD true) := fun F H M v u x y R Q hr rx ry hf k => by
  obtain ⟨d, rfl, h1⟩ := gD_of hf
  obtain ⟨ds, rfl, ⟨c1, c2⟩, h2⟩ := gL_of h1
  exact ⟨d, ds, Dx.dp _ _ (Dx.mono hr.fh _ _ rx.dx) (eqOk_of c1).1, Dx.dp _ _ (Dx.mono hr.fh _ _ ry.dx) (eqOk_of c2).1, (eqOk_of c1).2, (eqOk_of c2).2, k _ H F M _ hr .refl (.d (.bl _)) h2⟩
end
/-! ### slices, by places -/
/-! ### tables -/
/-- what stands in a table: a def, or data -/
inductive TV where
  | f (a : Addr)
  | d (x : PyData)
@[reducible] def TV.w : TV → W
  | .f a => .o (.ref a)
  | .d x => .d x
end Tl
set_option Elab.async false
set_option linter.all false
set_option maxRecDepth 100000
set_option maxHeartbeats 4000000
namespace Tl
open PySem L2 RZ
local macro_rules
  | `(tactic| decreasing_trivial) => `(tactic| ((with_reducible (conv => whnf)); (repeat ((first | (with_reducible refine gDs_c ?_) | (with_reducible refine gDs_n ?_) | (with_reducible refine gNs_c ?_) | (with_reducible refine gNs_n ?_) | (with_reducible refine gO_i tyAny_lt ?_) | (with_reducible refine gIs_c ?_) | (with_reducible refine gIs_n ?_) | (with_reducible refine gBs_c ?_) | (with_reducible refine gBs_n ?_) | (with_reducible refine gSs_c ?_) | (with_reducible refine gSs_n ?_) | (with_reducible refine gO_i tyIs_int ?_) | (with_reducible refine gO_i tyIs_bool ?_) | (with_reducible refine gO_i tyIs_str ?_) | (with_reducible refine gO_i tyIs_tuple ?_) | (with_reducible refine gO_i tyIs_list ?_) | (with_reducible refine gDs_i ?_) | (with_reducible refine gO_i (Eq.refl _) ?_) | (with_reducible refine gO_i (by assumption) ?_) | (with_reducible refine gO_i at_0 ?_) | (with_reducible refine gO_i at_m0 ?_) | (with_reducible refine gO_i at_1 ?_) | (with_reducible refine gO_i at_m1 ?_) | (with_reducible refine gO_i at_2 ?_) | (with_reducible refine gO_i at_m2 ?_) | (with_reducible refine gO_i at_3 ?_) | (with_reducible refine gO_i at_m3 ?_) | (with_reducible refine gO_i at_4 ?_) | (with_reducible refine gO_i at_m4 ?_) | (with_reducible refine gO_i at_5 ?_) | (with_reducible refine gO_i at_m5 ?_) | (with_reducible refine gO_i at_6 ?_) | (with_reducible refine gO_i at_m6 ?_) | (with_reducible refine gO_i at_7 ?_) | (with_reducible refine gO_i at_m7 ?_) | (with_reducible refine IfB.ngf ?_) | (with_reducible refine IfB.ngt ?_) | (with_reducible refine IfB.not ?_) | (with_reducible refine IfB.nil ?_) | (with_reducible refine IfB.nilT ?_) | (with_reducible refine IfB.f isE_c ?_) | (with_reducible refine IfB.t isE_n ?_) | (with_reducible refine IfB.t ?gha ?_; (case gha => rfl)) | (with_reducible refine IfB.f ?gha ?_; (case gha => rfl)) | (with_reducible refine IfB.t ?gha ?_; (case gha => assumption)) | (with_reducible refine IfB.f ?gha ?_; (case gha => assumption)) | (with_reducible refine IfB.yes (Eq.refl _) ?_) | (with_reducible refine IfB.yes ?gha ?_; (case gha => (first | omega | (simp only [len_c, len_n, List.length_map]; omega)))) | (with_reducible refine IfB.no ?gha ?_; (case gha => (first | omega | (simp only [len_c, len_n, List.length_map]; omega)))) | (with_reducible refine IfB.t ?gha ?_; (case gha => decide +kernel)) | (with_reducible refine IfB.f ?gha ?_; (case gha => decide +kernel))); (with_reducible (conv => whnf))))))
local macro_rules
  | `(tactic| decreasing_trivial_pre_omega) => `(tactic| (decreasing_trivial; (repeat ((first | ((with_reducible refine And.intro ?gha ?_); (case gha => (first | assumption | omega | exact rfl | (exact mset_same) | (exact ⟨_, mset_same⟩) | (exact Exists.intro _ (by first | exact mset_same | assumption | (rw [mset_ne (by assumption)]; first | exact mset_same | assumption))) | (exact sm_of (by omega) (by omega)) | (exact sz1000 (by first | omega | (simp; done) | (simp; omega))) | (exact Or.inl ⟨by decide, by decide⟩) | decide | (simp; done) | (refine ⟨?_, ?_⟩ <;> (first | assumption | omega | exact rfl | (exact mset_same) | (exact ⟨_, mset_same⟩) | (exact Exists.intro _ (by first | exact mset_same | assumption | (rw [mset_ne (by assumption)]; first | exact mset_same | assumption))) | (exact sm_of (by omega) (by omega)) | (exact sz1000 (by first | omega | (simp; done) | (simp; omega))) | (exact Or.inl ⟨by decide, by decide⟩) | decide | (simp; done))) | (refine ⟨?_, ?_, ?_⟩ <;> (first | assumption | omega | exact rfl | (exact mset_same) | (exact ⟨_, mset_same⟩) | (exact Exists.intro _ (by first | exact mset_same | assumption | (rw [mset_ne (by assumption)]; first | exact mset_same | assumption))) | (exact sm_of (by omega) (by omega)) | (exact sz1000 (by first | omega | (simp; done) | (simp; omega))) | (exact Or.inl ⟨by decide, by decide⟩) | decide | (simp; done))) | (refine ⟨?_, ?_, ?_, ?_⟩ <;> (first | assumption | omega | exact rfl | (exact mset_same) | (exact ⟨_, mset_same⟩) | (exact Exists.intro _ (by first | exact mset_same | assumption | (rw [mset_ne (by assumption)]; first | exact mset_same | assumption))) | (exact sm_of (by omega) (by omega)) | (exact sz1000 (by first | omega | (simp; done) | (simp; omega))) | (exact Or.inl ⟨by decide, by decide⟩) | decide | (simp; done)))))) | (with_reducible refine exW (by first | exact mset_same | assumption | (rw [mset_ne (by assumption)]; first | exact mset_same | assumption)) ?_)); decreasing_trivial))))
def top (i : Nat) : Stmt := PySem.Challenge.pw_treelore_k50_sides_done.main.body.getD i (.Pass ⟨0, 0, 0, 0⟩)
section
variable {P : Program} {w : World} {K : PySem.W.Frag} {mg : Str → Option Value} {base : Heap}
abbrev sIsCount : Stmt := top 12
theorem scCount : FnScope ["thing"] ["thing"] (defScope sIsCount) := ⟨rfl, rfl, rfl, by decide +kernel, rfl, by decide +kernel, by decide +kernel⟩
theorem ok_count {f : Addr} {fd : FuncData} {k : Nat} (F : Fun K "is_count" "is_count" sIsCount f fd) (T : Bl mg) : FnOk P w K mg base CX0 (k + 1) f fd ["thing"] (spD K 1 (tfB isCount)) := by
  refine okD F scCount rfl fun cdv A outer s H E hr => ?_
  refine ⟨_, _, (pss_one (ps_ret (pe_and (pe_callB (r := rIsi K) call_isi (by rfl) T.isi PyProof.Rows.boot_isinstance (pa_cons (pv 0) (pa_cons (b_int T) pa_nil))) (pe_and (pe_not (pe_callB (r := rIsi K) call_isi (by rfl) T.isi PyProof.Rows.boot_isinstance (pa_cons (pv 0) (pa_cons (b_bool T) pa_nil)))) (pe_one (pe_cmpR op_ge (pv 0) pe_int (nomark _))))))),
    (ss_ret (se_and (se_cb sc_isi (sa_cons se_nm (sa_cons se_o sa_nil))) (se_and (se_not (se_cb sc_isi (sa_cons se_nm (sa_cons se_o sa_nil)))) (se_op so_ge se_nm se_int)))), fun ws M R RX hl h => ?_⟩
  obtain ⟨x, rfl, h1⟩ := g1_of h
  obtain ⟨d, rfl, ht, h2⟩ := gD_of h1
  cases d <;> (simp only [start0, len_c, len_n, map_c, map_n, app_c, app_n, rep_0, rep_s, Nat.reduceAdd, Nat.reduceSub]; decreasing_trivial; exact h2)
abbrev sIsNumber : Stmt := top 13
theorem scNumber : FnScope ["thing", "most"] ["thing", "most"] (defScope sIsNumber) := ⟨rfl, rfl, rfl, by decide +kernel, rfl, by decide +kernel, by decide +kernel⟩
theorem ok_number {f : Addr} {fd : FuncData} {k j : Nat} (F : Fun K "is_number" "is_number" sIsNumber f fd) (Uis_count : Use P w K mg base "is_count" ["thing"] j (spD K 1 (tfB isCount))) (hj : j ≤ k) (T : Bl mg) : FnOk P w K mg base CX0 (k + 1) f fd ["thing", "most"] (spD K 2 (tfB2 isNum)) := by
  refine okD F scNumber rfl fun cdv A outer s H E hr => ?_
  refine ⟨_, _, (pss_one (ps_ret (pe_and (pe_call Uis_count.ok (hr.mono (by omega)) rfl Uis_count.m Uis_count.kp Uis_count.b .nil pass0 (pa_cons (pv 0) pa_nil)) (pe_one (pe_cmpR op_le (pv 0) (pv 1) (nomark _)))))),
    (ss_ret (se_and (se_call (sa_cons se_nm sa_nil)) (se_op so_le se_nm se_nm))), fun ws M R RX hl h => ?_⟩
  obtain ⟨x, y, rfl, h1⟩ := g2_of h
  obtain ⟨d, rfl, h2⟩ := gD_of h1
  obtain ⟨m, rfl, ht, h3⟩ := gI_of h2
  simp only [start0, len_c, len_n, map_c, map_n, app_c, app_n, rep_0, rep_s, Nat.reduceAdd, Nat.reduceSub]
  decreasing_trivial_pre_omega
  cases d with
  | int i =>
    rw [isCount]
    rw [isNum] at h3
    refine IfB.d (fun c => ?_) (fun c => ?_)
    · decreasing_trivial_pre_omega
      rw [decide_eq_true c, Bool.true_and] at h3
      exact h3
    · decreasing_trivial_pre_omega
      rw [decide_eq_false c, Bool.false_and] at h3
      exact h3
  | _ => refine IfB.f rfl ?_; decreasing_trivial_pre_omega; exact h3
abbrev sIsTag : Stmt := top 14
theorem scTag : FnScope ["thing", "sign"] ["thing"] (defScope sIsTag) := ⟨rfl, rfl, rfl, by decide +kernel, rfl, by decide +kernel, by decide +kernel⟩
theorem ok_tag {f : Addr} {fd : FuncData} {k : Nat} (F : Fun K "is_tag" "is_tag" sIsTag f fd) (T : Bl mg) (C : Cs mg) : FnOk P w K mg base CX0 (k + 1) f fd ["thing"] (spD K 1 (tfB isTag)) := by
  refine okD F scTag rfl fun cdv A outer s H E hr => ?_
  refine ⟨_, _, (pss_cons (ps_if (PW.pt (pw_or (pt_not (pt_val (pe_callB (r := rIsi K) call_isi (by rfl) T.isi PyProof.Rows.boot_isinstance (pa_cons (pv 0) (pa_cons (b_str T) pa_nil))))) (pw_or1 (pt_not (pt_chain op_le op_le pe_int (pe_callB call_len_str (by rfl) T.len PySem.boot_len (pa_cons (pv 0) pa_nil)) (c_SIGNS C)))))) (pss_one (ps_ret pe_bl)) pss_nil)
    (pss_one (ps_ret (pe_callB (cr_all rfl) (by rfl) T.all PyProof.Rows.boot_all (pa_cons (pe_lc (own := [("sign", 1)]) (g := gName 1) (tt := tYes) (by rfl) scTag.nd (pi_str (pv 0)) (blkOk_by (N := ["thing", "sign"]) (sc := defScope sIsTag) (own := [("sign", 1)]) (by decide +kernel)) (fun _ _ _ _ _ => pg_name (i := 1) scTag.nd rfl (Or.inl rfl)) (fun _ _ _ _ _ => pts_nil) (fun _ _ _ _ _ => (pe_chain op_le_str op_le_str pe_str (pv 1) pe_str))) pa_nil))))),
    (ss_cons (ss_if (st_or (st_not (st_val (se_cb sc_isi (sa_cons se_nm (sa_cons se_o sa_nil))))) (st_not (st_test (se_chain so_le so_le se_int (se_cb sc_lenS (sa_cons se_nm sa_nil)) se_int)))) (ss_ret se_bl) ss_nil)
    (ss_ret (se_cb sc_all (sa_cons (se_lcF (si_str se_nm) sg_name st_yes (se_chain so_leS so_leS se_str se_nm se_str)) sa_nil)))), fun ws M R RX hl h => ?_⟩
  obtain ⟨x, rfl, h1⟩ := g1_of h
  obtain ⟨d, rfl, ht, h2⟩ := gD_of h1
  cases d with
  | str z =>
    have hz : z.length ≤ 1000 := (txt_str ht).1
    simp only [start0, len_c, len_n, map_c, map_n, app_c, app_n, rep_0, rep_s, Nat.reduceAdd, Nat.reduceSub]
    decreasing_trivial_pre_omega
    rw [isTag] at h2
    refine IfB.d (fun c1 => ?_) (fun c1 => ?_)
    · rw [decide_eq_true (p := 1 ≤ z.length) (by omega)] at h2
      decreasing_trivial_pre_omega
      refine IfB.d (fun c2 => ?_) (fun c2 => ?_)
      · rw [decide_eq_true (p := z.length ≤ 8) (by omega)] at h2
        decreasing_trivial_pre_omega
        unfold signs
        refine lc1 (fun c => .d (.bool (small c))) trivial (fun c _ Rk q => ?_) (sz1000 (by show z.length ≤ 1000; omega)) ?_
        · decreasing_trivial_pre_omega
          rw [show decide ((⟨#[c]⟩ : Str).cps.toList < ("a" : Str).cps.toList) = !decide (97 ≤ c) by rw [← le_a, Bool.not_not]]
          unfold small at q
          decreasing_trivial_pre_omega
          refine IfB.d (fun c3 => ?_) (fun c3 => ?_)
          · decreasing_trivial_pre_omega
            rw [decide_eq_true c3, Bool.true_and] at q
            show Rk (W.d (.bool (!decide (("z" : Str).cps.toList < (⟨#[c]⟩ : Str).cps.toList)))) M
            rw [le_z c]
            exact q
          · decreasing_trivial_pre_omega
            rw [decide_eq_false c3] at q
            exact q
        · rw [show (z.cps.toList.map fun c => W.d (.bool (small c))) = (z.cps.toList.map fun c => PyData.bool (small c)).map W.d by rw [List.map_map]; rfl, gDs_map]
          decreasing_trivial_pre_omega
          rw [List.map_map]
          show gBs (z.cps.toList.map fun c => W.d (.bool (small c))) _
          rw [gBs_map]
          simpa using h2
      · rw [decide_eq_false (p := z.length ≤ 8) (by omega)] at h2
        decreasing_trivial_pre_omega
        exact h2
    · rw [decide_eq_false (p := 1 ≤ z.length) (by omega)] at h2
      decreasing_trivial_pre_omega
      exact h2
  | _ => simp only [start0, len_c, len_n, map_c, map_n, app_c, app_n, rep_0, rep_s, Nat.reduceAdd, Nat.reduceSub]; decreasing_trivial_pre_omega; exact h2
abbrev sTagKids : Stmt := top 18
theorem scTagKids : FnScope ["thing"] ["thing"] (defScope sTagKids) := ⟨rfl, rfl, rfl, by decide +kernel, rfl, by decide +kernel, by decide +kernel⟩
theorem ok_tagKids {f : Addr} {fd : FuncData} {k j : Nat} (F : Fun K "is_tag_and_kids" "is_tag_and_kids" sTagKids f fd) (Uis_tag : Use P w K mg base "is_tag" ["thing"] j (spD K 1 (tfB isTag))) (hj : j ≤ k) (T : Bl mg) : FnOk P w K mg base CX0 (k + 1) f fd ["thing"] (spD K 1 (tfB tagKids)) := by
  refine okD F scTagKids rfl fun cdv A outer s H E hr => ?_
  refine ⟨_, _, (pss_one (ps_ret (pe_and (pe_callB (r := rIsi K) call_isi (by rfl) T.isi PyProof.Rows.boot_isinstance (pa_cons (pv 0) (pa_cons (b_tuple T) pa_nil))) (pe_and (pe_cmpR op_eq (pe_callB call_len_seq (by rfl) T.len PySem.boot_len (pa_cons (pv 0) pa_nil)) pe_int (nomark _)) (pe_and (pe_call Uis_tag.ok (hr.mono (by omega)) rfl Uis_tag.m Uis_tag.kp Uis_tag.b .nil pass0 (pa_cons (pe_ix ix_tup (pv 0) pe_int (fun _ _ => rfl)) pa_nil)) (pe_one (pe_callB (r := rIsi K) call_isi (by rfl) T.isi PyProof.Rows.boot_isinstance (pa_cons (pe_ix ix_tup (pv 0) pe_int (fun _ _ => rfl)) (pa_cons (b_tuple T) pa_nil))))))))),
    (ss_ret (se_and (se_cb sc_isi (sa_cons se_nm (sa_cons se_o sa_nil))) (se_and (se_op so_eqS (se_cb sc_len (sa_cons se_nm sa_nil)) se_int) (se_and (se_call (sa_cons (se_op so_ixT se_nm se_int) sa_nil)) (se_cb sc_isi (sa_cons (se_op so_ixT se_nm se_int) (sa_cons se_o sa_nil))))))), fun ws M R RX hl h => ?_⟩
  obtain ⟨x, rfl, h1⟩ := g1_of h
  obtain ⟨d, rfl, ht, h2⟩ := gD_of h1
  cases d with
  | tuple ds =>
    match ds with
    | [] => simp only [start0, len_c, len_n, map_c, map_n, app_c, app_n, rep_0, rep_s, Nat.reduceAdd, Nat.reduceSub]; decreasing_trivial_pre_omega; exact h2
    | [_] => simp only [start0, len_c, len_n, map_c, map_n, app_c, app_n, rep_0, rep_s, Nat.reduceAdd, Nat.reduceSub]; decreasing_trivial_pre_omega; exact h2
    | _ :: _ :: _ :: _ => simp only [start0, len_c, len_n, map_c, map_n, app_c, app_n, rep_0, rep_s, Nat.reduceAdd, Nat.reduceSub]; decreasing_trivial_pre_omega; exact h2
    | [a, b] =>
      have hta : txt a = true := by rw [txt] at ht; exact txtAll_get (i := 0) ht rfl
      rw [tagKids] at h2
      simp only [start0, len_c, len_n, map_c, map_n, app_c, app_n, rep_0, rep_s, Nat.reduceAdd, Nat.reduceSub]
      decreasing_trivial_pre_omega
      cases c : isTag a
      · rw [c] at h2; decreasing_trivial_pre_omega; exact h2
      · rw [c] at h2; decreasing_trivial_pre_omega; exact h2
  | _ => simp only [start0, len_c, len_n, map_c, map_n, app_c, app_n, rep_0, rep_s, Nat.reduceAdd, Nat.reduceSub]; decreasing_trivial_pre_omega; exact h2
abbrev sRoom : Stmt := top 17
theorem scRoom : FnScope ["thing", "levels", "room", "left", "kid"] ["thing", "levels", "room"] (defScope sRoom) := ⟨rfl, rfl, rfl, by decide +kernel, rfl, by decide +kernel, by decide +kernel⟩
theorem ok_room1 {f : Addr} {fd : FuncData} {n j : Nat} (F : Fun K "room_behind" "room_behind" sRoom f fd) (Uroom_behind : Use P w K mg base "room_behind" ["thing", "levels", "room"] (2 + n) (spD K 3 (tfRoom n))) (Uis_tag_and_kids : Use P w K mg base "is_tag_and_kids" ["thing"] j (spD K 1 (tfB tagKids))) (hj : j ≤ 2) (T : Bl mg) :
    FnOk P w K mg base CX0 (2 + n + 1) f fd ["thing", "levels", "room"] (spD K 3 (tfRoom (n + 1))) := by
  refine okD F scRoom rfl fun cdv A outer s H E hr => ?_
  refine ⟨_, _, (pss_cons (ps_if (PW.pt (pw_or (pt_cmpR op_eq (pv 1) pe_int (nomark _)) (pw_or (pt_cmpR op_eq (pv 2) pe_int (nomark _)) (pw_or1 (pt_not (pt_val (pe_call Uis_tag_and_kids.ok (hr.mono (by omega)) rfl Uis_tag_and_kids.m Uis_tag_and_kids.kp Uis_tag_and_kids.b .nil pass0 (pa_cons (pv 0) pa_nil)))))))) (pss_one (ps_ret pe_non)) pss_nil)
    (pss_cons (ps_set (i := 3) scRoom.nd rfl (.inl rfl) (pe_op op_sub (pv 2) pe_int))
    (pss_cons (ps_for PassesOwn.never rfl (pi_tup (pe_ix ix_tup (pv 0) pe_int (fun _ _ => rfl))) (pg_name (i := 4) scRoom.nd rfl (.inl rfl)) (pss_cons (ps_set (i := 3) scRoom.nd rfl (.inl rfl) (pe_call Uroom_behind.ok (hr.mono (by omega)) rfl Uroom_behind.m Uroom_behind.kp Uroom_behind.b .nil pass0 (pa_cons (pv 4) (pa_cons (pe_op op_sub (pv 1) pe_int) (pa_cons (pv 3) pa_nil)))))
      (pss_one (ps_if (pt_cmpR op_isN (pv 3) pe_non (nomark _)) (pss_one (ps_ret pe_non)) pss_nil))))
    (pss_one (ps_ret (pv 3)))))),
    (ss_cons (ss_if (st_or (st_test (se_op so_eqS se_nm se_int)) (st_or (st_test (se_op so_eqS se_nm se_int)) (st_not (st_val (se_call (sa_cons se_nm sa_nil)))))) (ss_ret se_non) ss_nil)
    (ss_cons (ss_set (se_op so_sub se_nm se_int))
    (ss_cons (ss_for (si_tup (se_op so_ixT se_nm se_int)) sg_name (ss_cons (ss_set (se_call (sa_cons se_nm (sa_cons (se_op so_sub se_nm se_int) (sa_cons se_nm sa_nil)))))
      (ss_if (st_test (se_op so_isN se_nm se_non)) (ss_ret se_non) ss_nil)))
    (ss_ret se_nm)))), fun ws M R RX hl h => ?_⟩
  obtain ⟨d, l, r, rfl, ht, hln, h2⟩ := h
  simp only [start0, len_c, len_n, map_c, map_n, app_c, app_n, rep_0, rep_s, Nat.reduceAdd, Nat.reduceSub]
  decreasing_trivial_pre_omega
  refine IfB.d (fun c => ?_) (fun c => ?_)
  · decreasing_trivial_pre_omega
    have e : l = 0 := by omega
    subst e
    exact h2
  obtain ⟨l, rfl⟩ : ∃ l', l = l' + 1 := ⟨l - 1, by omega⟩
  decreasing_trivial_pre_omega
  refine IfB.d (fun c2 => ?_) (fun c2 => ?_)
  · decreasing_trivial_pre_omega
    have e : r = 0 := by omega
    subst e
    exact h2
  obtain ⟨r, rfl⟩ : ∃ r', r = r' + 1 := ⟨r - 1, by omega⟩
  decreasing_trivial_pre_omega
  rw [roomB] at h2
  cases c3 : tagKids d with
  | false =>
    rw [c3] at h2
    decreasing_trivial_pre_omega
    exact h2
  | true =>
    rw [c3, if_pos rfl] at h2
    decreasing_trivial_pre_omega
    obtain ⟨a0, ks, rfl⟩ : ∃ a0 ks, d = .tuple [a0, .tuple ks] := by
      unfold tagKids at c3
      split at c3
      · rename_i a b
        cases b with
        | tuple ks => exact ⟨a, ks, rfl⟩
        | _ => simp [isTup] at c3
      · cases c3
    have ht2 : txtAll ks = true := by
      rw [txt, txtAll, txtAll, txt] at ht
      simp only [Bool.and_eq_true] at ht
      exact ht.2.1
    rw [kidsD] at h2
    decreasing_trivial_pre_omega
    refine for1 (fun i ρ M' => ∃ (m : Nat) (y : Option W), ρ = [some (.d (.tuple [a0, .tuple ks])), some (.d (.int ((l + 1 : Nat) : Int))), some (.d (.int ((r + 1 : Nat) : Int))), some (.d (.int (m : Int))), y] ∧ M' = M ∧ (ks.take i).foldl (fun o kd => o.bind (roomB l kd)) (some r) = some m)
      ⟨r, none, by show [some _, some _, some _, some (W.d (.int (((r + 1 : Nat) : Int) - 1))), none] = _; rw [show (((r + 1 : Nat) : Int) - 1) = (r : Int) by omega], rfl, rfl⟩ (fun _ _ _ _ _ => trivial) (fun i kd ρ M' N hk p hN => ?_) (fun ρ M' p => ?_)
    · obtain ⟨m, y, rfl, rfl, hm⟩ := p
      have hf : (ks.take (i + 1)).foldl (fun o kd => o.bind (roomB l kd)) (some r) = roomB l kd m := by
        rw [List.take_add_one, hk, List.foldl_append, hm]
        rfl
      decreasing_trivial_pre_omega
      refine ⟨kd, l, m, by show [W.d kd, W.d (.int (((l + 1 : Nat) : Int) - 1)), W.d (.int (m : Int))] = _; rw [show (((l + 1 : Nat) : Int) - 1) = (l : Int) by omega], txtAll_get ht2 hk, by omega, ?_⟩
      cases hr2 : roomB l kd m with
      | none =>
        rw [hr2] at hf
        decreasing_trivial_pre_omega
        have e : ks.foldl (fun o kd => o.bind (roomB l kd)) (some r) = none := by
          rw [← List.take_append_drop (i + 1) ks, List.foldl_append, hf]
          exact fold_none _ _
        rw [e] at h2
        exact h2
      | some m' =>
        decreasing_trivial_pre_omega
        exact hN _ _ ⟨m', _, rfl, rfl, by rw [hf]; exact hr2⟩
    · obtain ⟨m, y, rfl, rfl, hm⟩ := p
      rw [List.take_length] at hm
      rw [hm] at h2
      exact h2
theorem ok_room {f : Addr} {fd : FuncData} {j : Nat} (F : Fun K "room_behind" "room_behind" sRoom f fd) (mF : mg "room_behind" = some (.ref f)) (Uis_tag_and_kids : Use P w K mg base "is_tag_and_kids" ["thing"] j (spD K 1 (tfB tagKids))) (hj : j ≤ 2) (T : Bl mg) :
    ∀ n, FnOk P w K mg base CX0 (2 + n) f fd ["thing", "levels", "room"] (spD K 3 (tfRoom n))
  | 0 => no0 fun ws M R RX ⟨_, _, _, _, _, h, _⟩ => by omega
  | n + 1 => ok_room1 F ⟨f, fd, ok_room F mF Uis_tag_and_kids hj T n, mF, F.kp, F.binds (ps := ["thing", "levels", "room"]) fun _ _ _ _ _ _ us hl => match us, hl with | [_, _, _], _ => rfl⟩ Uis_tag_and_kids hj T
abbrev sIsTree : Stmt := top 16
theorem scTree : FnScope ["thing"] ["thing"] (defScope sIsTree) := ⟨rfl, rfl, rfl, by decide +kernel, rfl, by decide +kernel, by decide +kernel⟩
theorem ok_tree {f : Addr} {fd : FuncData} {k j : Nat} (F : Fun K "is_tree" "is_tree" sIsTree f fd) (Uroom_behind : Use P w K mg base "room_behind" ["thing", "levels", "room"] j (spD K 3 (tfRoom 13))) (hj : j ≤ k) (C : Cs mg) : FnOk P w K mg base CX0 (k + 1) f fd ["thing"] (spD K 1 (tfB isTreeD)) := by
  refine okD F scTree rfl fun cdv A outer s H E hr => ?_
  refine ⟨_, _, (pss_one (ps_ret (pe_cmpR op_notN (pe_call Uroom_behind.ok (hr.mono (by omega)) rfl Uroom_behind.m Uroom_behind.kp Uroom_behind.b .nil pass0 (pa_cons (pv 0) (pa_cons (c_DEPTH C) (pa_cons (c_SIZE C) pa_nil)))) pe_non (nomark _)))),
    (ss_ret (se_op so_notN (se_call (sa_cons se_nm (sa_cons se_int (sa_cons se_int sa_nil)))) se_non)), fun ws M R RX hl h => ?_⟩
  obtain ⟨x, rfl, h1⟩ := g1_of h
  obtain ⟨d, rfl, ht, h2⟩ := gD_of h1
  simp only [start0, len_c, len_n, map_c, map_n, app_c, app_n, rep_0, rep_s, Nat.reduceAdd, Nat.reduceSub]
  decreasing_trivial_pre_omega
  refine ⟨d, 12, 60, rfl, ht, by omega, ?_⟩
  unfold isTreeD at h2
  cases hr : roomB 12 d 60 <;> (rw [hr] at h2; decreasing_trivial_pre_omega; exact h2)
abbrev sChkTree : Stmt := top 19
theorem scChkTree : FnScope ["thing"] ["thing"] (defScope sChkTree) := ⟨rfl, rfl, rfl, by decide +kernel, rfl, by decide +kernel, by decide +kernel⟩
theorem ok_chkTree {f C : Addr} {fd : FuncData} {k j : Nat} (F : Fun K "check_tree" "check_tree" sChkTree f fd) (XNoTree : Er K mg "NoTree" C) (Uis_tree : Use P w K mg base "is_tree" ["thing"] j (spD K 1 (tfB isTreeD))) (hj : j ≤ k) :
    FnOk P w K mg base (L2.CX P w) (k + 1) f fd ["thing"] (spD K 1 (tfChk isTreeD C)) := by
  refine okDX F scChkTree rfl fun cdv A outer s H E hr => ?_
  refine ⟨_, fun RE => _, (pss_one (ps_if (pt_not (pt_val (PE.nox (pe_call Uis_tree.ok (hr.mono (by omega)) rfl Uis_tree.m Uis_tree.kp Uis_tree.b .nil pass0 (pa_cons (pv 0) pa_nil))))) (pss_one (ps_raise rfl (takes_of (E := E) rfl rfl rfl rfl) (pmk_own0 PySem.F.excBase_ValueError XNoTree.x XNoTree.g XNoTree.k (raises_own XNoTree.b XNoTree.t) (by exact rfl)))) pss_nil)), fun RE => (ss_if (st_not (st_val (se_call (sa_cons se_nm sa_nil)))) ss_raise0 ss_nil), fun ws M R RX hl h => ?_⟩
  obtain ⟨x, rfl, h1⟩ := g1_of h
  obtain ⟨d, rfl, ht, h2, h3⟩ := gD_of h1
  simp only [start0, len_c, len_n, map_c, map_n, app_c, app_n, rep_0, rep_s, Nat.reduceAdd, Nat.reduceSub]
  decreasing_trivial_pre_omega
  cases c : isTreeD d
  · decreasing_trivial_pre_omega
    exact h3 c
  · decreasing_trivial_pre_omega
    exact h2 c
end
end Tl
set_option Elab.async false
set_option linter.all false
set_option maxRecDepth 100000
set_option maxHeartbeats 4000000
/-! sorted: of data that are alike (tuples may be empty), of any length. -/
set_option Elab.async false
set_option linter.all false
set_option maxRecDepth 100000
set_option maxHeartbeats 4000000
/-! Tables by seven words, as the top leaves them. -/
set_option Elab.async false
set_option linter.all false
set_option maxRecDepth 100000
set_option maxHeartbeats 4000000
/-! Dicts that may change: made, stored into, looked up, walked. -/
namespace Tl
open PySem PySem.Spec PyProof.Rows L2
section
variable {K : PySem.W.Frag} {F H : Hp} {M : Mem}
section
variable {κ : Type} [DecidableEq κ]
theorem PrR.nil : PrR K F ([] : List (κ × V)) [] := ⟨rfl, .nil⟩
theorem PrR.cons {p : κ × V} {q : κ × W} {kv : List (κ × V)} {kw : List (κ × W)} (h1 : p.1 = q.1) (h2 : RW K F p.2 q.2) (h3 : PrR K F kv kw) : PrR K F (p :: kv) (q :: kw) :=
  ⟨by rw [List.map_cons, List.map_cons, h1, h3.1], .cons h2 h3.2⟩
theorem PrR.app {a c : List (κ × V)} {b d : List (κ × W)} (h : PrR K F a b) (g : PrR K F c d) : PrR K F (a ++ c) (b ++ d) :=
  ⟨by rw [List.map_append, List.map_append, h.1, g.1], by rw [List.map_append, List.map_append]; exact h.2.app g.2⟩
theorem PrR.got {kv : List (κ × V)} {kw : List (κ × W)} (h : PrR K F kv kw) {i : Nat} {q : κ × W} (e : kw[i]? = some q) : ∃ v, kv[i]? = some (q.1, v) ∧ RW K F v q.2 := by
  have hi : i < kw.length := (List.getElem?_eq_some_iff.mp e).1
  have h1 : (kv.map (·.1))[i]? = (kw.map (·.1))[i]? := by rw [h.1]
  rw [List.getElem?_map, List.getElem?_map, e] at h1
  obtain ⟨p, hp, e2⟩ := Option.map_eq_some_iff.mp h1
  obtain ⟨v, hv, r⟩ := h.2.got (i := i) (x := q.2) (by rw [List.getElem?_map, e]; rfl)
  rw [List.getElem?_map, hp] at hv
  cases hv
  exact ⟨p.2, by rw [hp]; exact congrArg some (Prod.ext e2 rfl), r⟩
end
theorem Rl.dK (h : Rl K F H M) {a : Addr} {kw : List (L2.Key × W)} (e : M a = some (.dK kw)) : ∃ kv, H a = some (.dK kv) ∧ PrR K F kv kw := by
  obtain ⟨_, h1, kv, rfl, h2⟩ := h.at_ a _ e
  exact ⟨kv, h1, h2⟩
theorem Rl.lkK (h : Rl K F H M) {a : Addr} {ob : Obj} {kv : List (L2.Key × V)} {kw : List (L2.Key × W)} (e : M a = some (.lkK ob kv kw)) : H a = some (.frz ob (.dK kv)) ∧ PrR K F kv kw := by
  obtain ⟨_, h1, rfl, h2⟩ := h.at_ a _ e
  exact ⟨h1, h2⟩
end
end Tl
set_option Elab.async false
set_option linter.all false
set_option maxRecDepth 100000
set_option maxHeartbeats 4000000
/-! x is True, x is not True, of truths. -/
set_option Elab.async false
set_option linter.all false
set_option maxRecDepth 100000
set_option maxHeartbeats 4000000
/-! Errors that leave a def and are caught by a suite that raises itself: the def's promise under L2N.CX. -/
namespace Tl
open PySem PySem.Spec PyProof.Rows L2
section
variable {P : Program} {w : World} {K : PySem.W.Frag} {mg : Str → Option Value} {base : Heap}
theorem ok_ofN {k : Nat} {f : Addr} {fd : FuncData} {ps : List Str} {sp : Sp} (F : FnOk P w K mg base (L2N.CX P w) k f fd ps sp) : FnOk P w K mg base (L2.CX P w) k f fd ps sp :=
  ⟨F.len, fun A outer s H args us vs Q E hr he hb hv hs => codeAny_mono (F.run A outer s H args us vs Q E hr he hb hv hs) fun r s' h => by
    cases r with
    | ok fl => cases fl <;> exact h
    | error e =>
      obtain ⟨a, B, H', cls, d, e1, fl, z⟩ := h
      exact ⟨a, B, H', cls, d, e1, L2H.flyingZ_imp (fun _ => L2N.Zn.zc) fl, z⟩⟩
structure UseN (P : Program) (w : World) (K : PySem.W.Frag) (mg : Str → Option Value) (base : Heap) (x : Str) (ps : List Str) (k : Nat) (sp : Sp) where
  f : Addr
  fd : FuncData
  ok : FnOk P w K mg base (L2N.CX P w) k f fd ps sp
  m : mg x = some (.ref f)
  kp : PySem.W.keepIn K (.ref f) = true
  b : Binds K fd ps []
def UseN.up {x : Str} {ps : List Str} {j k : Nat} {sp : Sp} (U : UseN P w K mg base x ps j sp) (h : j ≤ k) : UseN P w K mg base x ps k sp := ⟨U.f, U.fd, U.ok.mono h, U.m, U.kp, U.b⟩
def UseN.x {x : Str} {ps : List Str} {k : Nat} {sp : Sp} (U : UseN P w K mg base x ps k sp) : UseX P w K mg base x ps k sp := ⟨U.f, U.fd, ok_ofN U.ok, U.m, U.kp, U.b⟩
end
end Tl
set_option Elab.async false
set_option linter.all false
set_option maxRecDepth 100000
set_option maxHeartbeats 4000000
/-! count and index of True in a list of truths; a held error's field, whatever its class. -/
set_option Elab.async false
set_option linter.all false
set_option maxRecDepth 100000
set_option maxHeartbeats 4000000
/-! sorted(xs) of data: the rule and its reading; the law's source made by a def that hands back [script, 0, 0, 0]. -/
namespace Tl
open PySem L2 PyProof.Rows
open PySem.W (alike alikeAll AllAlike dataLe dataLt SortsAt EachIs keyToks)
theorem each_vals : ∀ {zs : List (V × PyData)} {us : List Value}, Vals (zs.map (·.1)) us → EachIs (fun v (z : V × PyData) => RelV z.1 v) us zs
  | [], _, h => by cases h; exact .nil
  | z :: zs, _, h => by cases h with | cons a b => exact .cons a (each_vals b)
theorem vals_each : ∀ {zs : List (V × PyData)} {us : List Value}, EachIs (fun v (z : V × PyData) => RelV z.1 v) us zs → Vals (zs.map (·.1)) us
  | [], _, h => by cases h; exact .nil
  | z :: zs, _, h => by cases h with | cons a b => exact .cons a (vals_each b)
section
variable {K : PySem.W.Frag} {Wx : WX} {RE : REx}
theorem DxL.zip {F : Hp} : ∀ {vs : List V} {ds : List PyData}, DxL K F vs ds → ∃ zs : List (V × PyData), zs.map (·.1) = vs ∧ zs.map (·.2) = ds ∧ ∀ z ∈ zs, Dx K F z.1 z.2
  | _, _, .nil => ⟨[], rfl, rfl, fun _ h => by cases h⟩
  | _, _, .cons (v := v) (d := d) a b => by
    obtain ⟨zs, h1, h2, h3⟩ := DxL.zip b
    refine ⟨(v, d) :: zs, by rw [List.map_cons, h1], by rw [List.map_cons, h2], fun z hz => ?_⟩
    rcases List.mem_cons.mp hz with e | e
    · rw [e]; exact a
    · exact h3 z e
theorem DxL.unzip {F : Hp} : ∀ {zs : List (V × PyData)}, (∀ z ∈ zs, Dx K F z.1 z.2) → DxL K F (zs.map (·.1)) (zs.map (·.2))
  | [], _ => .nil
  | z :: zs, h => .cons (h z (List.mem_cons_self ..)) (DxL.unzip fun y hy => h y (List.mem_cons_of_mem _ hy))
end
/-- a def that hands back the source [script, 0, 0, 0] -/
def spState3 : Sp := fun vs H Q _ => ∃ a : Addr, vs = [.ref a] ∧ ∀ st : Addr, H st = none → Q (.ref st) (upd H st (.lst [.ref a, .int 0, .int 0, .int 0]))
section
open PySem.Spec
variable {P : Program} {w : World} {K : PySem.W.Frag} {mg : Str → Option Value} {base : Heap}
theorem law_at3 {f : Addr} {fd : FuncData} {k : Nat} {st : Stmt} {N : List Str} {s : Shared} {H : Hp} {a : Addr} {ns : List Int} (F : Fun K "law" "law" st f fd) (S : FnScope N ["_law_script"] (defScope st)) (hlen : ns.length ≤ 63) (hS : SqL K H a (ns.map V.int)) (e0 : Env0 P w K mg base callerA [] s H) (hk : Room (k + 1) callerA) (hbi : Binds K fd ["_law_script"] [])
    (hb : ∀ cdv : Value, (callerA.deeper (envOfC "law" (defScope st) s.heap.objs.size f cdv)).guards = some [] → Room k (callerA.deeper (envOfC "law" (defScope st) s.heap.objs.size f cdv)) →
      ∃ (E : XK) (t : TS) (T : TDS), PSs (cxOf CX0 P w K mg base N "law" (defScope st) f cdv callerA [] s H (fun _ _ _ => False)).nox (defBody st) (tSeq (tAsg (tCall spState3 [] E (tCons (tVar 0) tNil)) (gName 1)) t) ∧ SSt K (fun _ _ _ _ => False) (fun _ _ _ => False) t T ∧
        ∀ (sa : Addr) (M : Mem), M sa = some (.src false) → T (endD fun x _ => x = .d (.bool true)) (put (start0 N.length [.o (.ref a)]) 1 (some (.r sa))) M) :
    codeAny (model P w) callerA (.call (.ref f) ⟨[.ref a], []⟩) (CR CX0 [] P w H s (fun v _ => v = V.bl true) fun _ _ _ => False) s := by
  have KX : K.In s.heap := e0.mod.kin.keeps fun b o q => (e0.bs b o q).1
  refine run_at (k := k) (vs := [V.ref a]) (us := [Value.ref a]) F S hk e0 (hbi s [.ref a] KX rfl) (.cons rfl .nil) rfl (fun cdv hr => ?_)
  obtain ⟨E, t, T, h1, h2, h3⟩ := hb cdv rfl hr
  refine ⟨_, h1, ?_⟩
  have hst : L2.start N [V.ref a] = some (V.ref a) :: List.replicate (N.length - 1) none := rfl
  refine ⟨V.ref a, by rw [hst]; rfl, a, rfl, fun sa hsa => ?_⟩
  obtain ⟨F1, M1, r1, hM⟩ := src_new2 (K := K) hS hsa hlen (Int.le_refl 0) (by decide)
  refine h2 F1 _ M1 _ _ _ _ r1 (fun F' H' M' σ ρ cls d x _ _ _ _ z => z) ?_ (h3 sa M1 hM) ?_
  · exact (rel_start (N := N) (K := K) (F := F1) (.cons (.o (V.ref a)) .nil)).set (.r sa) 1
  · exact ek_def (Q := fun v _ => v = V.bl true) fun v H2 F2 M2 x r g rx q => by
      subst q
      exact rx.bl
end
end Tl
set_option Elab.async false
set_option linter.all false
set_option maxRecDepth 100000
set_option maxHeartbeats 8000000
namespace Tl
open PySem L2 RZ
/-- a number below m from the source at st -/
@[reducible] def tfNext (b : Bool) : TF := fun ws M R _ => g2 ws fun x y => gR x fun st => gI y fun m => (M st = some (.src b) ∧ 1 ≤ m ∧ m ≤ 100000) ∧ ∀ r : Int, 0 ≤ r → r < m → R (.d (.int r)) M
theorem fm_pos (x : Int) {m : Int} (h : 0 < m) : 0 ≤ x.fmod m ∧ x.fmod m < m := ⟨Int.fmod_nonneg_of_pos x h, Int.fmod_lt_of_pos x h⟩
theorem fd_pos {x m : Int} (hx : 0 ≤ x) (h : 0 < m) : 0 ≤ x.fdiv m := by
  rw [Int.fdiv_eq_ediv_of_nonneg _ (Int.le_of_lt h)]
  exact Int.ediv_nonneg hx (Int.le_of_lt h)
theorem at4 {c : Addr} {i p z : Int} : atI [V.ref c, .int i, .int p, .int z] 0 = some (.ref c) ∧ atI [V.ref c, .int i, .int p, .int z] 1 = some (.int i) ∧ atI [V.ref c, .int i, .int p, .int z] 2 = some (.int p) ∧ atI [V.ref c, .int i, .int p, .int z] 3 = some (.int z) :=
  ⟨atI_nat (j := 0) rfl, atI_nat (j := 1) rfl, atI_nat (j := 2) rfl, atI_nat (j := 3) rfl⟩
theorem nz51 : (2305843009213693951 : Int) ≠ 0 := by decide
theorem nz29 : (2147483629 : Int) ≠ 0 := by decide
section
variable {P : Program} {w : World} {K : PySem.W.Frag} {mg : Str → Option Value} {base : Heap}
/-- the source as it stands, and how it goes on -/
theorem src_at {b : Bool} {F H : Hp} {M : Mem} {st : Addr} {R : W → Mem → Prop} {Q : VK} {m : Int} (hr : Rl K F H M) (hM : M st = some (.src b)) (hk : Kt K F H M R Q) (q : ∀ r : Int, 0 ≤ r → r < m → R (.d (.int r)) M) :
    ∃ (c : Addr) (cs : List Int) (i p z : Int), H st = some (.lst [.ref c, .int i, .int p, .int z]) ∧ SqL K H c (cs.map V.int) ∧ (∀ H0 o, Same H H0 → SqL K (upd H0 st o) c (cs.map V.int)) ∧ cs.length ≤ 63 ∧ (b = true → 0 < cs.length) ∧ 0 ≤ i ∧ 0 ≤ p ∧ 0 ≤ z ∧ z < (if b = true then 2147483647 else 2305843009213693951) ∧
      ∀ (H0 : Hp), Same H H0 → ∀ r i' p' z' : Int, 0 ≤ r → r < m → 0 ≤ i' → 0 ≤ p' → 0 ≤ z' → z' < (if b = true then 2147483647 else 2305843009213693951) → Q (.int r) (upd H0 st (.lst [.ref c, .int i', .int p', .int z'])) := by
  obtain ⟨_, h1, _, rfl, c, cs, i, p, z, rfl, hc, hl, hl0, hi, hp, hz0, hz1⟩ := hr.at_ st _ hM
  refine ⟨c, cs, i, p, z, h1, same_l hr.fh hc, fun H0 o e0 => same_l (same_mut (hr.same e0).1.fh ((hr.same e0).1.mf _ _ hM)) hc, hl, hl0, hi, hp, hz0, hz1, fun H0 e0 r i' p' z' g1 g2 g3 g4 g5 g6 => ?_⟩
  obtain ⟨r1, gg⟩ := hr.same e0
  obtain ⟨r2, g⟩ := r1.put (u := .lst [.ref c, .int i', .int p', .int z']) (o := .src b) hM ⟨_, rfl, c, cs, i', p', z', rfl, hc, hl, hl0, g3, g4, g5, g6⟩
  rw [mset_id hM] at r2 g
  exact hk _ _ _ _ _ r2 (gg.trans g) (.d (.int _)) (q r g1 g2)
theorem dp_ints {H : Hp} : ∀ cs : List Int, DpAll K H (cs.map V.int) (cs.map PyData.int)
  | [] => .nil
  | c :: r => .cons (.int c) (dp_ints r)
theorem ints_shaped (cs : List Int) : SeqAt.shaped (.list (cs.map PyData.int)) = true := flat_shaped (by
  rw [List.all_map, List.all_eq_true]
  intro x _
  rfl)
theorem iteN' {c : Bool} {A B : Prop} (h1 : c = false → A) (h2 : c = true → B) : if (!c) = true then A else B := by
  cases c
  · exact h1 rfl
  · exact h2 rfl
abbrev sNext : Stmt := top 44
theorem scNext : FnScope ["_law_state_here", "_law_below", "_law_cell", "_law_found"] ["_law_state_here", "_law_below"] (defScope sNext) := ⟨rfl, rfl, rfl, by decide +kernel, rfl, by decide +kernel, by decide +kernel⟩
theorem ok_next {f : Addr} {fd : FuncData} {k : Nat} (F : Fun K "_law_next" "_law_next" sNext f fd) (T : Bl mg) : FnOk P w K mg base CX0 (k + 1) f fd ["_law_state_here", "_law_below"] (spD K 2 (tfNext false)) := by
  refine F.ok scNext (fun vs H Q E h => ?_) (fun cdv A outer s H vs Q E hr h => ?_)
  · obtain ⟨F0, M, ws, R, RX, r, rs, hl, _⟩ := h
    rw [rs.len, hl]
    rfl
  obtain ⟨F0, M, ws, R, RX, hr0, rs, _, hf, hk, _⟩ := h
  obtain ⟨x0, y0, rfl, hf1⟩ := g2_of hf
  obtain ⟨st, rfl, hf2⟩ := gR_of hf1
  obtain ⟨m, rfl, ⟨hM, hm0, hm1⟩, q0⟩ := gI_of hf2
  obtain ⟨v1, v2, rfl, e1, e2⟩ := rs.two
  obtain rfl := e1.ref
  obtain rfl := e2.int
  obtain ⟨c, cs, i, p, z, h1, h2, h3, hl, hl0, hi, hp, hz0, hz1, q⟩ := src_at hr0 hM hk q0
  rw [if_neg (by decide)] at hz1
  simp only [Bool.false_eq_true, if_false] at q
  refine ⟨_, (pss_cons (ps_if (pt_cmpR op_gt (pe_ix ix_list (pv 0) pe_int (fun _ _ => rfl)) pe_int (nomark _)) (pss_cons (ps_set (i := 3) scNext.nd rfl (.inl rfl) (pe_op op_modN (pe_ix ix_list (pv 0) pe_int (fun _ _ => rfl)) (pv 1)))
      (pss_cons (ps_asg (pe_op op_fdivN (pe_ix ix_list (pv 0) pe_int (fun _ _ => rfl)) (pv 1)) (pg_sub (pv 0) pe_int set_list))
      (pss_one (ps_ret (pv 3))))) pss_nil)
    (pss_cons (ps_set (i := 2) scNext.nd rfl (.inl rfl) (pe_ix ix_list (pv 0) pe_int (fun _ _ => rfl)))
    (pss_cons (ps_if (pt_cmpR (op_neD hr.units) (pe_ix ix_list (pv 0) pe_int (fun _ _ => rfl)) (pe_lst pa_nil) (nomark _)) (pss_one (ps_set (i := 2) scNext.nd rfl (.inl rfl) (pe_ix ix_list (pe_ix ix_list (pv 0) pe_int (fun _ _ => rfl)) (pe_op op_modN (pe_ix ix_list (pv 0) pe_int (fun _ _ => rfl)) (pe_callB call_len_seq (by rfl) T.len PySem.boot_len (pa_cons (pe_ix ix_list (pv 0) pe_int (fun _ _ => rfl)) pa_nil))) (fun _ _ => rfl)))) pss_nil)
    (pss_cons (ps_asg (pe_op op_add (pe_ix ix_list (pv 0) pe_int (fun _ _ => rfl)) pe_int) (pg_sub (pv 0) pe_int set_list))
    (pss_cons (ps_if (PW.pt (pw_and (pt_cmpR op_ge (pv 2) (pe_op op_pow pe_int pe_int) (nomark _)) (pw_and1 (pt_cmpR op_le (pe_ix ix_list (pv 0) pe_int (fun _ _ => rfl)) (pe_callB call_len_seq (by rfl) T.len PySem.boot_len (pa_cons (pe_ix ix_list (pv 0) pe_int (fun _ _ => rfl)) pa_nil)) (nomark _))))) (pss_cons (ps_asg (pe_op op_fdivN (pv 2) (pv 1)) (pg_sub (pv 0) pe_int set_list))
      (pss_one (ps_ret (pe_op op_modN (pv 2) (pv 1))))) pss_nil)
    (pss_cons (ps_set (i := 2) scNext.nd rfl (.inl rfl) (pe_op op_modN (pv 2) pe_int))
    (pss_cons (ps_asg (pe_op op_modN (pe_op op_add (pe_op op_add (pe_op op_mul (pe_ix ix_list (pv 0) pe_int (fun _ _ => rfl)) pe_int) (pe_op op_mul (pv 2) pe_int)) (pe_ix ix_list (pv 0) pe_int (fun _ _ => rfl))) pe_int) (pg_sub (pv 0) pe_int set_list))
    (pss_one (ps_ret (pe_op op_modN (pe_op op_fdivN (pe_op op_modN (pe_op op_mul (pe_ix ix_list (pv 0) pe_int (fun _ _ => rfl)) (pe_ix ix_list (pv 0) pe_int (fun _ _ => rfl))) pe_int) pe_int) (pv 1))))))))))), ?_⟩
  have hm30 : m ≠ 0 ∧ m.natAbs < 1073741824 := ⟨by omega, by omega⟩
  refine ⟨_, rfl, st, _, 2, _, rfl, rfl, SqL.of h1, at4.2.2.1, p, 0, rfl, rfl, _, rfl, ?_⟩
  refine iteD (fun cc => ?_) (fun cc => ?_)
  · refine ⟨_, rfl, st, _, 2, _, rfl, rfl, SqL.of h1, at4.2.2.1, _, rfl, p, m, rfl, rfl, hm30.1, ?_⟩
    refine ⟨_, rfl, st, _, 2, _, rfl, rfl, SqL.of h1, at4.2.2.1, _, rfl, p, m, rfl, rfl, hm30, ?_⟩
    refine ⟨_, rfl, st, _, 2, 2, rfl, rfl, h1, rfl, ?_⟩
    refine ⟨_, rfl, ?_⟩
    exact q H (Same.refl _) _ _ _ _ (fm_pos p (by omega)).1 (fm_pos p (by omega)).2 hi (fd_pos hp (by omega)) hz0 hz1
  · refine ⟨_, rfl, st, _, 1, _, rfl, rfl, SqL.of h1, at4.2.1, ?_⟩
    refine ⟨_, rfl, st, _, 0, _, rfl, rfl, SqL.of h1, at4.1, by show 0 ≤ sizeLine; decide, fun p0 hp0 => ?_⟩
    have e01 : Same H (upd H p0 (.lst [])) := same_new hp0
    have nst : st ≠ p0 := ne_of_none h1 hp0
    have g1 : (upd H p0 (.lst [])) st = some (.lst [V.ref c, .int i, .int p, .int z]) := by rw [upd_ne nst]; exact h1
    have g2 : SqL K (upd H p0 (.lst [])) c (cs.map V.int) := same_l e01 h2
    have g0 : Dp K (upd H p0 (.lst [])) (.ref p0) (.list []) := .lst (SqL.of upd_same) .nil
    generalize upd H p0 (.lst []) = H1 at e01 g1 g2 g0 ⊢
    have gd1 : Dp K H1 (.ref c) (.list (cs.map PyData.int)) := .lst g2 (dp_ints cs)
    refine ⟨_, _, gd1, g0, ints_shaped cs, by decide +kernel, _, rfl, ?_⟩
    rw [eqv_nil]
    refine iteN' (fun cc2 => ?_) (fun cc2 => ?_)
    · have hne : 0 < cs.length := by
        rcases Nat.eq_zero_or_pos cs.length with e | e
        · rw [List.eq_nil_of_length_eq_zero e] at cc2
          cases cc2
        · exact e
      have hlen : (cs.map V.int).length = cs.length := List.length_map _
      have hf := fm_pos i (m := ((cs.map V.int).length : Nat)) (by rw [hlen]; omega)
      obtain ⟨j, ej⟩ : ∃ j : Nat, i.fmod ((cs.map V.int).length : Nat) = (j : Int) := ⟨(i.fmod ((cs.map V.int).length : Nat)).toNat, by omega⟩
      have hj : j < cs.length := by rw [hlen] at hf; rw [hlen] at ej; omega
      have hat : atI (cs.map V.int) (i.fmod ((cs.map V.int).length : Nat)) = some (.int cs[j]) := by
        rw [ej]
        exact atI_nat (by rw [List.getElem?_map, List.getElem?_eq_getElem hj]; rfl)
      generalize cs[j] = x at hat
      refine ⟨_, rfl, st, _, 0, _, rfl, rfl, SqL.of g1, at4.1, _, rfl, st, _, 1, _, rfl, rfl, SqL.of g1, at4.2.1, _, rfl, st, _, 0, _, rfl, rfl, SqL.of g1, at4.1, c, _, rfl, .inl g2, i, _, rfl, rfl, by rw [hlen]; omega, c, _, _, _, rfl, rfl, g2, hat, ?_⟩
      refine ⟨_, rfl, st, _, 1, _, rfl, rfl, SqL.of g1, at4.2.1, i, 1, rfl, rfl, _, rfl, st, _, 1, 1, rfl, rfl, g1, rfl, ?_⟩
      have g1' : (upd H1 st (.lst [V.ref c, .int (i + 1), .int p, .int z])) st = some (.lst [V.ref c, .int (i + 1), .int p, .int z]) := upd_same
      have g2' := h3 H1 (.lst [V.ref c, .int (i + 1), .int p, .int z]) e01
      have fin2 : ∀ (r p' z' : Int), 0 ≤ r → r < m → 0 ≤ p' → 0 ≤ z' → z' < 2305843009213693951 → Q (.int r) (upd (upd H1 st (.lst [V.ref c, .int (i + 1), .int p, .int z])) st (.lst [V.ref c, .int (i + 1), .int p', .int z'])) := fun r p' z' g1 g2 g3 g4 g5 => by
        rw [upd_upd]
        exact q H1 e01 _ _ _ _ g1 g2 (by omega) g3 g4 g5
      refine ⟨_, rfl, 10, 18, rfl, rfl, ⟨by decide, by decide, by decide⟩, x, _, rfl, rfl, _, rfl, ?_⟩
      refine iteD (fun c1 => ?_) (fun c1 => ?_)
      · refine ⟨_, rfl, st, _, 1, _, rfl, rfl, SqL.of g1', at4.2.1, _, rfl, st, _, 0, _, rfl, rfl, SqL.of g1', at4.1, c, _, rfl, .inl g2', _, _, rfl, rfl, _, rfl, ?_⟩
        refine iteD (fun c2 => ?_) (fun c2 => ?_)
        · refine ⟨_, rfl, _, rfl, x, m, rfl, rfl, hm30, _, rfl, st, _, 2, 2, rfl, rfl, g1', rfl, ?_⟩
          refine ⟨_, rfl, _, rfl, x, m, rfl, rfl, hm30.1, ?_⟩
          exact fin2 _ _ _ (fm_pos x (by omega)).1 (fm_pos x (by omega)).2 (fd_pos (Int.le_trans (by decide) c1) (by omega)) hz0 hz1
        · skip
          refine ⟨_, rfl, _, 2305843009213693951, rfl, rfl, nz51, ?_⟩
          have hx1 := fm_pos x (m := 2305843009213693951) (by decide)
          refine ⟨_, rfl, st, _, 3, _, rfl, rfl, SqL.of g1', at4.2.2.2, z, 48271, rfl, rfl, .inl ⟨by omega, by omega⟩, _, rfl, x.fmod 2305843009213693951, 69621, rfl, rfl, .inl ⟨by omega, by omega⟩, _, _, rfl, rfl, _, rfl, st, _, 1, _, rfl, rfl, SqL.of g1', at4.2.1, _, _, rfl, rfl, _, 2305843009213693951, rfl, rfl, nz51, _, rfl, st, _, 3, 3, rfl, rfl, g1', rfl, ?_⟩
          have hb := fm_pos (z * 48271 + x.fmod 2305843009213693951 * 69621 + (i + 1)) (m := 2305843009213693951) (by decide)
          refine ⟨_, rfl, st, _, 3, _, rfl, rfl, SqL.of upd_same, at4.2.2.2, _, rfl, st, _, 3, _, rfl, rfl, SqL.of upd_same, at4.2.2.2, _, _, rfl, rfl, .inl ⟨by omega, by omega⟩, _, 2147483629, rfl, rfl, nz29, _, 8, rfl, rfl, ⟨by decide, by decide⟩, _, rfl, _, m, rfl, rfl, hm30.1, ?_⟩
          exact fin2 _ _ _ (fm_pos _ (by omega)).1 (fm_pos _ (by omega)).2 hp hb.1 hb.2
      · skip
        refine ⟨_, rfl, _, 2305843009213693951, rfl, rfl, nz51, ?_⟩
        have hx1 := fm_pos x (m := 2305843009213693951) (by decide)
        refine ⟨_, rfl, st, _, 3, _, rfl, rfl, SqL.of g1', at4.2.2.2, z, 48271, rfl, rfl, .inl ⟨by omega, by omega⟩, _, rfl, x.fmod 2305843009213693951, 69621, rfl, rfl, .inl ⟨by omega, by omega⟩, _, _, rfl, rfl, _, rfl, st, _, 1, _, rfl, rfl, SqL.of g1', at4.2.1, _, _, rfl, rfl, _, 2305843009213693951, rfl, rfl, nz51, _, rfl, st, _, 3, 3, rfl, rfl, g1', rfl, ?_⟩
        have hb := fm_pos (z * 48271 + x.fmod 2305843009213693951 * 69621 + (i + 1)) (m := 2305843009213693951) (by decide)
        refine ⟨_, rfl, st, _, 3, _, rfl, rfl, SqL.of upd_same, at4.2.2.2, _, rfl, st, _, 3, _, rfl, rfl, SqL.of upd_same, at4.2.2.2, _, _, rfl, rfl, .inl ⟨by omega, by omega⟩, _, 2147483629, rfl, rfl, nz29, _, 8, rfl, rfl, ⟨by decide, by decide⟩, _, rfl, _, m, rfl, rfl, hm30.1, ?_⟩
        exact fin2 _ _ _ (fm_pos _ (by omega)).1 (fm_pos _ (by omega)).2 hp hb.1 hb.2
    · obtain ⟨x, hx⟩ : ∃ x : Int, x = i := ⟨i, rfl⟩
      rw [← hx]
      clear hx
      refine ⟨_, rfl, st, _, 1, _, rfl, rfl, SqL.of g1, at4.2.1, i, 1, rfl, rfl, _, rfl, st, _, 1, 1, rfl, rfl, g1, rfl, ?_⟩
      have g1' : (upd H1 st (.lst [V.ref c, .int (i + 1), .int p, .int z])) st = some (.lst [V.ref c, .int (i + 1), .int p, .int z]) := upd_same
      have g2' := h3 H1 (.lst [V.ref c, .int (i + 1), .int p, .int z]) e01
      have fin2 : ∀ (r p' z' : Int), 0 ≤ r → r < m → 0 ≤ p' → 0 ≤ z' → z' < 2305843009213693951 → Q (.int r) (upd (upd H1 st (.lst [V.ref c, .int (i + 1), .int p, .int z])) st (.lst [V.ref c, .int (i + 1), .int p', .int z'])) := fun r p' z' g1 g2 g3 g4 g5 => by
        rw [upd_upd]
        exact q H1 e01 _ _ _ _ g1 g2 (by omega) g3 g4 g5
      refine ⟨_, rfl, 10, 18, rfl, rfl, ⟨by decide, by decide, by decide⟩, x, _, rfl, rfl, _, rfl, ?_⟩
      refine iteD (fun c1 => ?_) (fun c1 => ?_)
      · refine ⟨_, rfl, st, _, 1, _, rfl, rfl, SqL.of g1', at4.2.1, _, rfl, st, _, 0, _, rfl, rfl, SqL.of g1', at4.1, c, _, rfl, .inl g2', _, _, rfl, rfl, _, rfl, ?_⟩
        refine iteD (fun c2 => ?_) (fun c2 => ?_)
        · refine ⟨_, rfl, _, rfl, x, m, rfl, rfl, hm30, _, rfl, st, _, 2, 2, rfl, rfl, g1', rfl, ?_⟩
          refine ⟨_, rfl, _, rfl, x, m, rfl, rfl, hm30.1, ?_⟩
          exact fin2 _ _ _ (fm_pos x (by omega)).1 (fm_pos x (by omega)).2 (fd_pos (Int.le_trans (by decide) c1) (by omega)) hz0 hz1
        · skip
          refine ⟨_, rfl, _, 2305843009213693951, rfl, rfl, nz51, ?_⟩
          have hx1 := fm_pos x (m := 2305843009213693951) (by decide)
          refine ⟨_, rfl, st, _, 3, _, rfl, rfl, SqL.of g1', at4.2.2.2, z, 48271, rfl, rfl, .inl ⟨by omega, by omega⟩, _, rfl, x.fmod 2305843009213693951, 69621, rfl, rfl, .inl ⟨by omega, by omega⟩, _, _, rfl, rfl, _, rfl, st, _, 1, _, rfl, rfl, SqL.of g1', at4.2.1, _, _, rfl, rfl, _, 2305843009213693951, rfl, rfl, nz51, _, rfl, st, _, 3, 3, rfl, rfl, g1', rfl, ?_⟩
          have hb := fm_pos (z * 48271 + x.fmod 2305843009213693951 * 69621 + (i + 1)) (m := 2305843009213693951) (by decide)
          refine ⟨_, rfl, st, _, 3, _, rfl, rfl, SqL.of upd_same, at4.2.2.2, _, rfl, st, _, 3, _, rfl, rfl, SqL.of upd_same, at4.2.2.2, _, _, rfl, rfl, .inl ⟨by omega, by omega⟩, _, 2147483629, rfl, rfl, nz29, _, 8, rfl, rfl, ⟨by decide, by decide⟩, _, rfl, _, m, rfl, rfl, hm30.1, ?_⟩
          exact fin2 _ _ _ (fm_pos _ (by omega)).1 (fm_pos _ (by omega)).2 hp hb.1 hb.2
      · skip
        refine ⟨_, rfl, _, 2305843009213693951, rfl, rfl, nz51, ?_⟩
        have hx1 := fm_pos x (m := 2305843009213693951) (by decide)
        refine ⟨_, rfl, st, _, 3, _, rfl, rfl, SqL.of g1', at4.2.2.2, z, 48271, rfl, rfl, .inl ⟨by omega, by omega⟩, _, rfl, x.fmod 2305843009213693951, 69621, rfl, rfl, .inl ⟨by omega, by omega⟩, _, _, rfl, rfl, _, rfl, st, _, 1, _, rfl, rfl, SqL.of g1', at4.2.1, _, _, rfl, rfl, _, 2305843009213693951, rfl, rfl, nz51, _, rfl, st, _, 3, 3, rfl, rfl, g1', rfl, ?_⟩
        have hb := fm_pos (z * 48271 + x.fmod 2305843009213693951 * 69621 + (i + 1)) (m := 2305843009213693951) (by decide)
        refine ⟨_, rfl, st, _, 3, _, rfl, rfl, SqL.of upd_same, at4.2.2.2, _, rfl, st, _, 3, _, rfl, rfl, SqL.of upd_same, at4.2.2.2, _, _, rfl, rfl, .inl ⟨by omega, by omega⟩, _, 2147483629, rfl, rfl, nz29, _, 8, rfl, rfl, ⟨by decide, by decide⟩, _, rfl, _, m, rfl, rfl, hm30.1, ?_⟩
        exact fin2 _ _ _ (fm_pos _ (by omega)).1 (fm_pos _ (by omega)).2 hp hb.1 hb.2
abbrev sState : Stmt := top 43
theorem scState : FnScope ["_law_script"] ["_law_script"] (defScope sState) := ⟨rfl, rfl, rfl, by decide +kernel, rfl, by decide +kernel, by decide +kernel⟩
theorem ok_state {f : Addr} {fd : FuncData} {k : Nat} (F : Fun K "_law_state" "_law_state" sState f fd) (T : Bl mg) : FnOk P w K mg base CX0 (k + 1) f fd ["_law_script"] spState3 := by
  refine F.ok scState (fun vs H Q E h => ?_) (fun cdv A outer s H vs Q E hr h => ?_)
  · obtain ⟨a, rfl, _⟩ := h
    rfl
  obtain ⟨a, rfl, q⟩ := h
  refine ⟨_, (pss_one (ps_ret (pe_lst (pa_cons (pv 0) (pa_cons pe_int (pa_cons pe_int (pa_cons pe_int pa_nil))))))), ?_⟩
  refine ⟨_, rfl, by show 4 ≤ sizeLine; decide, fun p hp => ?_⟩
  exact q p hp
end
end Tl
set_option Elab.async false
set_option linter.all false
set_option maxRecDepth 100000
set_option maxHeartbeats 8000000
namespace Tl
open PySem L2 RZ
local macro_rules
  | `(tactic| decreasing_trivial) => `(tactic| ((with_reducible (conv => whnf)); (repeat ((first | (with_reducible refine gDs_c ?_) | (with_reducible refine gDs_n ?_) | (with_reducible refine gNs_c ?_) | (with_reducible refine gNs_n ?_) | (with_reducible refine gO_i tyAny_lt ?_) | (with_reducible refine gIs_c ?_) | (with_reducible refine gIs_n ?_) | (with_reducible refine gBs_c ?_) | (with_reducible refine gBs_n ?_) | (with_reducible refine gSs_c ?_) | (with_reducible refine gSs_n ?_) | (with_reducible refine gO_i tyIs_int ?_) | (with_reducible refine gO_i tyIs_bool ?_) | (with_reducible refine gO_i tyIs_str ?_) | (with_reducible refine gO_i tyIs_tuple ?_) | (with_reducible refine gO_i tyIs_list ?_) | (with_reducible refine gDs_i ?_) | (with_reducible refine gO_i (Eq.refl _) ?_) | (with_reducible refine gO_i (by assumption) ?_) | (with_reducible refine gO_i at_0 ?_) | (with_reducible refine gO_i at_m0 ?_) | (with_reducible refine gO_i at_1 ?_) | (with_reducible refine gO_i at_m1 ?_) | (with_reducible refine gO_i at_2 ?_) | (with_reducible refine gO_i at_m2 ?_) | (with_reducible refine gO_i at_3 ?_) | (with_reducible refine gO_i at_m3 ?_) | (with_reducible refine gO_i at_4 ?_) | (with_reducible refine gO_i at_m4 ?_) | (with_reducible refine gO_i at_5 ?_) | (with_reducible refine gO_i at_m5 ?_) | (with_reducible refine gO_i at_6 ?_) | (with_reducible refine gO_i at_m6 ?_) | (with_reducible refine gO_i at_7 ?_) | (with_reducible refine gO_i at_m7 ?_) | (with_reducible refine IfB.ngf ?_) | (with_reducible refine IfB.ngt ?_) | (with_reducible refine IfB.not ?_) | (with_reducible refine IfB.nil ?_) | (with_reducible refine IfB.nilT ?_) | (with_reducible refine IfB.f isE_c ?_) | (with_reducible refine IfB.t isE_n ?_) | (with_reducible refine IfB.t ?gha ?_; (case gha => rfl)) | (with_reducible refine IfB.f ?gha ?_; (case gha => rfl)) | (with_reducible refine IfB.t ?gha ?_; (case gha => assumption)) | (with_reducible refine IfB.f ?gha ?_; (case gha => assumption)) | (with_reducible refine IfB.yes (Eq.refl _) ?_) | (with_reducible refine IfB.yes ?gha ?_; (case gha => (first | omega | (simp only [len_c, len_n, List.length_map]; omega)))) | (with_reducible refine IfB.no ?gha ?_; (case gha => (first | omega | (simp only [len_c, len_n, List.length_map]; omega)))) | (with_reducible refine IfB.t ?gha ?_; (case gha => decide +kernel)) | (with_reducible refine IfB.f ?gha ?_; (case gha => decide +kernel))); (with_reducible (conv => whnf))))))
local macro_rules
  | `(tactic| decreasing_trivial_pre_omega) => `(tactic| (decreasing_trivial; (repeat ((first | ((with_reducible refine And.intro ?gha ?_); (case gha => (first | assumption | omega | exact rfl | (exact mset_same) | (exact ⟨_, mset_same⟩) | (exact Exists.intro _ (by first | exact mset_same | assumption | (rw [mset_ne (by assumption)]; first | exact mset_same | assumption))) | (exact sm_of (by omega) (by omega)) | (exact sz1000 (by first | omega | (simp; done) | (simp; omega))) | (exact Or.inl ⟨by decide, by decide⟩) | decide | (simp; done) | (refine ⟨?_, ?_⟩ <;> (first | assumption | omega | exact rfl | (exact mset_same) | (exact ⟨_, mset_same⟩) | (exact Exists.intro _ (by first | exact mset_same | assumption | (rw [mset_ne (by assumption)]; first | exact mset_same | assumption))) | (exact sm_of (by omega) (by omega)) | (exact sz1000 (by first | omega | (simp; done) | (simp; omega))) | (exact Or.inl ⟨by decide, by decide⟩) | decide | (simp; done))) | (refine ⟨?_, ?_, ?_⟩ <;> (first | assumption | omega | exact rfl | (exact mset_same) | (exact ⟨_, mset_same⟩) | (exact Exists.intro _ (by first | exact mset_same | assumption | (rw [mset_ne (by assumption)]; first | exact mset_same | assumption))) | (exact sm_of (by omega) (by omega)) | (exact sz1000 (by first | omega | (simp; done) | (simp; omega))) | (exact Or.inl ⟨by decide, by decide⟩) | decide | (simp; done))) | (refine ⟨?_, ?_, ?_, ?_⟩ <;> (first | assumption | omega | exact rfl | (exact mset_same) | (exact ⟨_, mset_same⟩) | (exact Exists.intro _ (by first | exact mset_same | assumption | (rw [mset_ne (by assumption)]; first | exact mset_same | assumption))) | (exact sm_of (by omega) (by omega)) | (exact sz1000 (by first | omega | (simp; done) | (simp; omega))) | (exact Or.inl ⟨by decide, by decide⟩) | decide | (simp; done)))))) | (with_reducible refine exW (by first | exact mset_same | assumption | (rw [mset_ne (by assumption)]; first | exact mset_same | assumption)) ?_)); decreasing_trivial))))
/-- a drawn tag -/
@[reducible] def tfTag : TF := fun ws M R _ => g1 ws fun x => gR x fun st => (M st = some (.src false)) ∧ ∀ s : Str, isTag (.str s) = true → R (.d (.str s)) M
def tags7 : List Str := ["a", "ab", "b", "abc", "ba", "z", "abcdefgh"]
theorem tags7_ok : ∀ s ∈ tags7, isTag (.str s) = true := by decide +kernel
theorem abc26 : ("abcdefghijklmnopqrstuvwxyz" : Str).cps.toList.length = 26 := by decide +kernel
theorem gO_atN {ds : List Nat} {r : Int} {k : Nat → Prop} (Pq : Nat → Prop) (h0 : 0 ≤ r) (h1 : r < (ds.length : Nat)) (hp : ∀ d ∈ ds, Pq d) (q : ∀ d, Pq d → k d) : gO (atI ds r) k := by
  obtain ⟨d, e, hm⟩ := at_mem (xs := ds) h0 h1
  exact gO_i e (q d (hp d hm))
theorem join_len : ∀ ys : List Str, (∀ y ∈ ys, ∃ c, y = ⟨#[c]⟩ ∧ small c = true) → (Txt.join (⟨#[]⟩ : Str) ys).length = ys.length ∧ (Txt.join (⟨#[]⟩ : Str) ys).cps.toList.all small = true := by
  intro ys h
  rw [TL.join_eq]
  have key : ∀ ys : List Str, (∀ y ∈ ys, ∃ c, y = ⟨#[c]⟩ ∧ small c = true) → (TL.joinL [] (ys.map TL.tl)).length = ys.length ∧ (TL.joinL [] (ys.map TL.tl)).all small = true := by
    intro ys
    induction ys with
    | nil => intro _; exact ⟨rfl, rfl⟩
    | cons y r ih =>
      intro h
      obtain ⟨c, rfl, hc⟩ := h y (.head _)
      have ih2 := ih fun z hz => h z (.tail _ hz)
      cases r with
      | nil => exact ⟨rfl, by show (List.all [c] small) = true; simp [hc]⟩
      | cons z r =>
        have e : TL.joinL [] (((⟨#[c]⟩ : Str) :: z :: r).map TL.tl) = [c] ++ ([] ++ TL.joinL [] ((z :: r).map TL.tl)) := rfl
        rw [e]
        exact ⟨by rw [List.nil_append, List.length_append, ih2.1]; simp; omega, by rw [List.nil_append, List.all_append, ih2.2]; simp [hc]⟩
  have k := key ys h
  have e := TL.tl_join (⟨#[]⟩ : Str) ys
  have e2 : TL.joinL (TL.tl (⟨#[]⟩ : Str)) (ys.map TL.tl) = TL.joinL [] (ys.map TL.tl) := rfl
  rw [e2] at e
  rw [← e] at k
  refine ⟨?_, k.2⟩
  rw [← k.1]
  show (Str.join ⟨#[]⟩ ys).cps.size = (Str.join ⟨#[]⟩ ys).cps.toList.length
  rw [Array.length_toList]
section
variable {P : Program} {w : World} {K : PySem.W.Frag} {mg : Str → Option Value} {base : Heap}
abbrev sTag1 : Stmt := top 45
theorem scTag1 : FnScope ["_law_state_here", "_law_way", "_law_letters", "_law_k"] ["_law_state_here"] (defScope sTag1) := ⟨rfl, rfl, rfl, by decide +kernel, rfl, by decide +kernel, by decide +kernel⟩
theorem ok_lTag {f : Addr} {fd : FuncData} {k j : Nat} (F : Fun K "_law_tag" "_law_tag" sTag1 f fd) (U_law_next : Use P w K mg base "_law_next" ["_law_state_here", "_law_below"] j (spD K 2 (tfNext false))) (hj : j ≤ k) (T : Bl mg) : FnOk P w K mg base CX0 (k + 1) f fd ["_law_state_here"] (spD K 1 tfTag) := by
  refine okD F scTag1 rfl fun cdv A outer s H E hr => ?_
  refine ⟨_, _, (pss_cons (ps_set (i := 1) scTag1.nd rfl (.inl rfl) (pe_call U_law_next.ok (hr.mono (by omega)) rfl U_law_next.m U_law_next.kp U_law_next.b .nil pass0 (pa_cons (pv 0) (pa_cons pe_int pa_nil))))
    (pss_cons (ps_if (pt_cmpR op_lt (pv 1) pe_int (nomark _)) (pss_one (ps_ret (pe_ix ix_list (pe_lst (pa_cons pe_str (pa_cons pe_str (pa_cons pe_str (pa_cons pe_str (pa_cons pe_str (pa_cons pe_str (pa_cons pe_str pa_nil)))))))) (pv 1) (fun _ _ => rfl)))) pss_nil)
    (pss_cons (ps_set (i := 2) scTag1.nd rfl (.inr rfl) pe_str)
    (pss_one (ps_ret (pe_join pe_str (pe_lc (own := [("_law_k", 3)]) (g := gName 3) (tt := tYes) (by rfl) scTag1.nd (pi_range1 (by rfl) T.range (pa_cons (pe_op op_add pe_int (pe_call U_law_next.ok (hr.mono (by omega)) rfl U_law_next.m U_law_next.kp U_law_next.b .nil pass0 (pa_cons (pv 0) (pa_cons pe_int pa_nil)))) pa_nil)) (blkOk_by (N := ["_law_state_here", "_law_way", "_law_letters", "_law_k"]) (sc := defScope sTag1) (own := [("_law_k", 3)]) (by decide +kernel)) (fun _ _ _ _ _ => pg_name (i := 3) scTag1.nd rfl (Or.inl rfl)) (fun _ _ _ _ _ => pts_nil) (fun _ _ _ _ _ => (pe_ix ix_str (pv 2) (pe_call U_law_next.ok (hr.mono (by omega)) rfl U_law_next.m U_law_next.kp U_law_next.b .nil pass0 (pa_cons (pv 0) (pa_cons pe_int pa_nil))) (fun _ _ => rfl)))))))))),
    (ss_cons (ss_set (se_call (sa_cons se_nm (sa_cons se_int sa_nil))))
    (ss_cons (ss_if (st_test (se_op so_lt se_nm se_int)) (ss_ret (se_op so_ixL (se_lsf (sa_cons se_str (sa_cons se_str (sa_cons se_str (sa_cons se_str (sa_cons se_str (sa_cons se_str (sa_cons se_str sa_nil)))))))) se_nm)) ss_nil)
    (ss_cons (ss_set se_str)
    (ss_ret (se_join se_str (se_lcF (si_r1 (sa_cons (se_op so_add se_int (se_call (sa_cons se_nm (sa_cons se_int sa_nil)))) sa_nil)) sg_name st_yes (se_op so_ixS se_nm (se_call (sa_cons se_nm (sa_cons se_int sa_nil)))))))))), fun ws M R RX hl h => ?_⟩
  obtain ⟨x0, rfl, hf1⟩ := g1_of h
  obtain ⟨st, rfl, hM, h3⟩ := gR_of hf1
  clear hf1 h hl
  simp only [start0, len_c, len_n, map_c, map_n, app_c, app_n, rep_0, rep_s, Nat.reduceAdd, Nat.reduceSub]
  decreasing_trivial_pre_omega
  intro r r0 r1
  decreasing_trivial_pre_omega
  refine IfB.d (fun c => ?_) (fun c => ?_)
  · decreasing_trivial_pre_omega
    refine gO_atD (ds := tags7.map .str) (fun d => ∃ s, isTag (.str s) = true ∧ d = .str s) r0 (by simpa [tags7] using c) (fun d hd => by
      obtain ⟨s, h1, h2⟩ := List.mem_map.mp hd
      exact ⟨s, tags7_ok s h1, h2.symm⟩) fun d hd => ?_
    obtain ⟨s, hs, rfl⟩ := hd
    decreasing_trivial_pre_omega
    exact h3 s hs
  · decreasing_trivial_pre_omega
    intro m m0 m1
    decreasing_trivial_pre_omega
    refine lc_any (fun y => ∃ c, y = .d (.str ⟨#[c]⟩) ∧ small c = true) trivial _ [] (fun row hrow Rk Rn q => ?_) (sz1000 (by simp [rows1, rng]; omega)) (fun ys hy1 hy2 => ?_)
    · obtain ⟨z, rfl⟩ : ∃ z, row = [z] := by
        simp only [rows1, List.mem_map] at hrow
        obtain ⟨z, _, rfl⟩ := hrow
        exact ⟨z, rfl⟩
      decreasing_trivial_pre_omega
      intro a a0 a1
      decreasing_trivial_pre_omega
      refine gO_atN (fun c => small c = true) a0 (by rw [abc26]; exact a1) (by decide +kernel) fun c hc => ?_
      decreasing_trivial_pre_omega
      exact q _ ⟨c, rfl, hc⟩
    · have hln : ys.length = (1 + m).toNat := by rw [hy1]; simp [rows1, rng]
      obtain ⟨zs, rfl, hz⟩ : ∃ zs : List Str, ys = zs.map (fun z => W.d (.str z)) ∧ ∀ z ∈ zs, ∃ c, z = ⟨#[c]⟩ ∧ small c = true := by
        clear hy1 hln
        induction ys with
        | nil => exact ⟨[], rfl, all0⟩
        | cons y r ih =>
          obtain ⟨c, rfl, hc⟩ := hy2 y (.head _)
          obtain ⟨zs, rfl, h⟩ := ih fun z hz => hy2 z (.tail _ hz)
          exact ⟨⟨#[c]⟩ :: zs, rfl, all1 ⟨c, rfl, hc⟩ h⟩
      rw [List.length_map] at hln
      rw [List.nil_append]
      obtain ⟨j1, j2⟩ := join_len zs hz
      have hsum : (zs.map (·.length)).sum = zs.length := by
        clear hy1 hy2 hln j1 j2
        induction zs with
        | nil => rfl
        | cons z r ih =>
          obtain ⟨c, rfl, _⟩ := hz z (.head _)
          rw [List.map_cons, List.sum_cons, ih fun y hy => hz y (.tail _ hy), List.length_cons]
          show 1 + r.length = _
          omega
      rw [show (zs.map fun z => W.d (.str z)) = (zs.map PyData.str).map W.d by rw [List.map_map]; rfl, gDs_map]
      decreasing_trivial_pre_omega
      rw [show (zs.map PyData.str).map W.d = zs.map (fun z => W.d (.str z)) by rw [List.map_map]; rfl, gSs_map]
      rw [List.map_id']
      refine ⟨by rw [hsum]; show zs.length + zs.length * 0 ≤ _; omega, h3 _ ?_⟩
      show isTag (.str (Txt.join (⟨#[]⟩ : Str) zs)) = true
      rw [isTag, j1, j2, decide_eq_true (show 1 ≤ zs.length by omega), decide_eq_true (show zs.length ≤ 8 by omega)]
      rfl
end
end Tl
set_option Elab.async false
set_option linter.all false
set_option maxRecDepth 100000
set_option maxHeartbeats 4000000
/-! Elders and levels, up to eleven. -/
namespace Tl
open PySem L2
structure RelE11 (es ls : List Nat) : Prop where
  first : ls[0]? = some 1
  lev : ∀ (j l : Nat), ls[j]? = some l → 1 ≤ l ∧ l ≤ 11
  eld : ∀ (j e : Nat), 1 ≤ j → es[j]? = some e → e < j ∧ ∀ (l l' : Nat), ls[e]? = some l → ls[j]? = some l' → l' = l + 1
theorem RelE11.app {es ls : List Nat} (r : RelE11 es ls) {e l : Nat} (hlen : es.length = ls.length) (he : ls[e]? = some l) (hl : l ≤ 10) : RelE11 (es ++ [e]) (ls ++ [l + 1]) := by
  have hel : e < ls.length := (List.getElem?_eq_some_iff.mp he).1
  refine ⟨?_, fun j m h => ?_, fun j e' hj h => ?_⟩
  · rw [List.getElem?_append_left (by omega)]
    exact r.first
  · rcases get_snoc h with ⟨_, h⟩ | ⟨_, rfl⟩
    · exact r.lev j m h
    · omega
  · rcases get_snoc h with ⟨c, h⟩ | ⟨rfl, rfl⟩
    · obtain ⟨h1, h2⟩ := r.eld j e' hj h
      refine ⟨h1, fun a b ha hb => ?_⟩
      rw [List.getElem?_append_left (by omega)] at ha hb
      exact h2 a b ha hb
    · refine ⟨by omega, fun a b ha hb => ?_⟩
      rw [List.getElem?_append_left hel] at ha
      rw [hlen, List.getElem?_append_right (Nat.le_refl _), Nat.sub_self] at hb
      rw [he] at ha
      cases ha
      exact (Option.some.inj hb).symm
theorem RelE11.one : RelE11 [0] [1] := by
  refine ⟨rfl, fun j l h => ?_, fun j e hj h => ?_⟩
  · match j, h with
    | 0, h => have := Option.some.inj h; omega
    | j + 1, h => simp at h
  · match j, h with
    | 0, _ => omega
    | j + 1, h => simp at h
end Tl
set_option Elab.async false
set_option linter.all false
set_option maxRecDepth 100000
set_option maxHeartbeats 8000000
namespace Tl
open PySem L2 RZ
local macro_rules
  | `(tactic| decreasing_trivial) => `(tactic| ((with_reducible (conv => whnf)); (repeat ((first | (with_reducible refine gDs_c ?_) | (with_reducible refine gDs_n ?_) | (with_reducible refine gNs_c ?_) | (with_reducible refine gNs_n ?_) | (with_reducible refine gO_i tyAny_lt ?_) | (with_reducible refine gIs_c ?_) | (with_reducible refine gIs_n ?_) | (with_reducible refine gBs_c ?_) | (with_reducible refine gBs_n ?_) | (with_reducible refine gSs_c ?_) | (with_reducible refine gSs_n ?_) | (with_reducible refine gO_i tyIs_int ?_) | (with_reducible refine gO_i tyIs_bool ?_) | (with_reducible refine gO_i tyIs_str ?_) | (with_reducible refine gO_i tyIs_tuple ?_) | (with_reducible refine gO_i tyIs_list ?_) | (with_reducible refine gDs_i ?_) | (with_reducible refine gO_i (Eq.refl _) ?_) | (with_reducible refine gO_i (by assumption) ?_) | (with_reducible refine gO_i at_0 ?_) | (with_reducible refine gO_i at_m0 ?_) | (with_reducible refine gO_i at_1 ?_) | (with_reducible refine gO_i at_m1 ?_) | (with_reducible refine gO_i at_2 ?_) | (with_reducible refine gO_i at_m2 ?_) | (with_reducible refine gO_i at_3 ?_) | (with_reducible refine gO_i at_m3 ?_) | (with_reducible refine gO_i at_4 ?_) | (with_reducible refine gO_i at_m4 ?_) | (with_reducible refine gO_i at_5 ?_) | (with_reducible refine gO_i at_m5 ?_) | (with_reducible refine gO_i at_6 ?_) | (with_reducible refine gO_i at_m6 ?_) | (with_reducible refine gO_i at_7 ?_) | (with_reducible refine gO_i at_m7 ?_) | (with_reducible refine IfB.ngf ?_) | (with_reducible refine IfB.ngt ?_) | (with_reducible refine IfB.not ?_) | (with_reducible refine IfB.nil ?_) | (with_reducible refine IfB.nilT ?_) | (with_reducible refine IfB.f isE_c ?_) | (with_reducible refine IfB.t isE_n ?_) | (with_reducible refine IfB.t ?gha ?_; (case gha => rfl)) | (with_reducible refine IfB.f ?gha ?_; (case gha => rfl)) | (with_reducible refine IfB.t ?gha ?_; (case gha => assumption)) | (with_reducible refine IfB.f ?gha ?_; (case gha => assumption)) | (with_reducible refine IfB.yes (Eq.refl _) ?_) | (with_reducible refine IfB.yes ?gha ?_; (case gha => (first | omega | (simp only [len_c, len_n, List.length_map]; omega)))) | (with_reducible refine IfB.no ?gha ?_; (case gha => (first | omega | (simp only [len_c, len_n, List.length_map]; omega)))) | (with_reducible refine IfB.t ?gha ?_; (case gha => decide +kernel)) | (with_reducible refine IfB.f ?gha ?_; (case gha => decide +kernel))); (with_reducible (conv => whnf))))))
local macro_rules
  | `(tactic| decreasing_trivial_pre_omega) => `(tactic| (decreasing_trivial; (repeat ((first | ((with_reducible refine And.intro ?gha ?_); (case gha => (first | assumption | omega | exact rfl | (exact mset_same) | (exact ⟨_, mset_same⟩) | (exact Exists.intro _ (by first | exact mset_same | assumption | (rw [mset_ne (by assumption)]; first | exact mset_same | assumption))) | (exact sm_of (by omega) (by omega)) | (exact sz1000 (by first | omega | (simp; done) | (simp; omega))) | (exact Or.inl ⟨by decide, by decide⟩) | decide | (simp; done) | (refine ⟨?_, ?_⟩ <;> (first | assumption | omega | exact rfl | (exact mset_same) | (exact ⟨_, mset_same⟩) | (exact Exists.intro _ (by first | exact mset_same | assumption | (rw [mset_ne (by assumption)]; first | exact mset_same | assumption))) | (exact sm_of (by omega) (by omega)) | (exact sz1000 (by first | omega | (simp; done) | (simp; omega))) | (exact Or.inl ⟨by decide, by decide⟩) | decide | (simp; done))) | (refine ⟨?_, ?_, ?_⟩ <;> (first | assumption | omega | exact rfl | (exact mset_same) | (exact ⟨_, mset_same⟩) | (exact Exists.intro _ (by first | exact mset_same | assumption | (rw [mset_ne (by assumption)]; first | exact mset_same | assumption))) | (exact sm_of (by omega) (by omega)) | (exact sz1000 (by first | omega | (simp; done) | (simp; omega))) | (exact Or.inl ⟨by decide, by decide⟩) | decide | (simp; done))) | (refine ⟨?_, ?_, ?_, ?_⟩ <;> (first | assumption | omega | exact rfl | (exact mset_same) | (exact ⟨_, mset_same⟩) | (exact Exists.intro _ (by first | exact mset_same | assumption | (rw [mset_ne (by assumption)]; first | exact mset_same | assumption))) | (exact sm_of (by omega) (by omega)) | (exact sz1000 (by first | omega | (simp; done) | (simp; omega))) | (exact Or.inl ⟨by decide, by decide⟩) | decide | (simp; done)))))) | (with_reducible refine exW (by first | exact mset_same | assumption | (rw [mset_ne (by assumption)]; first | exact mset_same | assumption)) ?_)); decreasing_trivial))))
/-- a tree of at most so many places -/
@[reducible] def tfTreeL (b : Bool) : TF := fun ws M R _ => g2 ws fun x y => gR x fun st => gI y fun most => (M st = some (.src b) ∧ 1 ≤ most ∧ most ≤ 100) ∧ ∀ d, TrT 11 d → ((nn d : Nat) : Int) ≤ most → R (.d d) M
def nsW (es : List Nat) : List W := es.map fun (n : Nat) => W.d (.int (n : Int))
theorem nsW_get {es : List Nat} {j e : Nat} (h : es[j]? = some e) : atI (nsW es) (j : Int) = some (.d (.int (e : Int))) := atI_nat (by
  unfold nsW
  rw [List.getElem?_map, h]
  rfl)
theorem nsW_app (es : List Nat) (e : Nat) : nsW es ++ [.d (.int (e : Int))] = nsW (es ++ [e]) := by
  unfold nsW
  rw [List.map_append]
  rfl
theorem nsW_len (es : List Nat) : (nsW es).length = es.length := List.length_map _
theorem len_nn5 : ∀ ks : List PyData, ks.length ≤ nnAll ks
  | [] => Nat.zero_le _
  | k :: ks => by
    have := len_nn5 ks
    have h : 1 ≤ nn k := by unfold nn; split <;> omega
    rw [nnAll, List.length_cons]
    omega
theorem sn_setC : ∀ {m e : Nat} {tss : List (List PyData)} {ts : List PyData} {T : PyData}, e < m → tss[e]? = some ts → sn m (tss.set e (T :: ts)) = sn m tss + nn T
  | 0, _, _, _, _, h, _ => by omega
  | m + 1, 0, a :: r, ts, T, _, h => by
    have e : a = ts := Option.some.inj h
    subst e
    show ((T :: a) :: r.take m |>.map nnAll).sum = ((a :: r.take m).map nnAll).sum + _
    rw [List.map_cons, List.map_cons, List.sum_cons, List.sum_cons, nnAll]
    omega
  | m + 1, e + 1, a :: r, ts, T, h, h2 => by
    have ih := sn_setC (m := m) (e := e) (tss := r) (ts := ts) (T := T) (by omega) h2
    unfold sn at ih ⊢
    show ((a :: (r.set e (T :: ts)).take m).map nnAll).sum = ((a :: r.take m).map nnAll).sum + _
    rw [List.map_cons, List.map_cons, List.sum_cons, List.sum_cons, ih]
    omega
  | _ + 1, _, [], _, _, _, h => by simp at h
theorem nn_sn : ∀ {m e : Nat} {tss : List (List PyData)} {ts : List PyData}, e < m → tss[e]? = some ts → nnAll ts ≤ sn m tss
  | 0, _, _, _, h, _ => by omega
  | m + 1, 0, a :: r, ts, _, h => by
    have e : a = ts := Option.some.inj h
    subst e
    show nnAll a ≤ ((a :: r.take m).map nnAll).sum
    rw [List.map_cons, List.sum_cons]
    omega
  | m + 1, e + 1, a :: r, ts, h, h2 => by
    have ih := nn_sn (m := m) (e := e) (tss := r) (ts := ts) (by omega) h2
    unfold sn at ih ⊢
    show _ ≤ ((a :: r.take m).map nnAll).sum
    rw [List.map_cons, List.sum_cons]
    omega
  | _ + 1, _, [], _, _, h => by simp at h
section
variable {P : Program} {w : World} {K : PySem.W.Frag} {mg : Str → Option Value} {base : Heap}
abbrev sTreeL : Stmt := top 46
theorem scTreeL : FnScope ["_law_state_here", "_law_bound", "_law_many", "_law_slope", "_law_kids", "_law_levels_here", "_law_above", "_law_k", "_law_elder"] ["_law_state_here", "_law_bound"] (defScope sTreeL) := ⟨rfl, rfl, rfl, by decide +kernel, rfl, by decide +kernel, by decide +kernel⟩
theorem ok_treeL {f : Addr} {fd : FuncData} {k j : Nat} (F : Fun K "_law_tree" "_law_tree" sTreeL f fd) (U_law_next : Use P w K mg base "_law_next" ["_law_state_here", "_law_below"] j (spD K 2 (tfNext false))) (U_law_tag : Use P w K mg base "_law_tag" ["_law_state_here"] j (spD K 1 tfTag)) (hj : j ≤ k) (T : Bl mg) : FnOk P w K mg base CX0 (k + 1) f fd ["_law_state_here", "_law_bound"] (spD K 2 (tfTreeL false)) := by
  refine okDL F scTreeL rfl fun cdv A outer s H E hr => ?_
  refine ⟨_, _, (pss_cons (ps_set (i := 2) scTreeL.nd rfl (.inl rfl) (pe_op op_add pe_int (pe_call U_law_next.ok (hr.mono (by omega)) rfl U_law_next.m U_law_next.kp U_law_next.b .nil pass0 (pa_cons (pv 0) (pa_cons (pv 1) pa_nil)))))
    (pss_cons (ps_set (i := 3) scTreeL.nd rfl (.inl rfl) (pe_call U_law_next.ok (hr.mono (by omega)) rfl U_law_next.m U_law_next.kp U_law_next.b .nil pass0 (pa_cons (pv 0) (pa_cons pe_int pa_nil))))
    (pss_cons (ps_setLc (i := 4) (own := [("_law_k", 7)]) (g := gName 7) (tt := tYes) (by rfl) scTreeL.nd rfl rfl (sw_true rfl rfl rfl (by decide +kernel)) (pi_range1 (by rfl) T.range (pa_cons (pv 2) pa_nil)) (blkOk_by (N := ["_law_state_here", "_law_bound", "_law_many", "_law_slope", "_law_kids", "_law_levels_here", "_law_above", "_law_k", "_law_elder"]) (sc := defScope sTreeL) (own := [("_law_k", 7)]) (by decide +kernel)) (fun _ _ _ _ _ => pg_name (i := 7) scTreeL.nd rfl (Or.inl rfl)) (fun _ _ _ _ _ => pts_nil) (fun _ _ _ _ _ => (pe_lst pa_nil)))
    (pss_cons (ps_set (i := 5) scTreeL.nd rfl (.inl rfl) (pe_lst (pa_cons pe_int pa_nil)))
    (pss_cons (ps_set (i := 6) scTreeL.nd rfl (.inl rfl) (pe_lst (pa_cons pe_int pa_nil)))
    (pss_cons (ps_for PassesOwn.never rfl (pi_range2 (by rfl) T.range (pa_cons pe_int (pa_cons (pv 2) pa_nil))) (pg_name (i := 7) scTreeL.nd rfl (.inl rfl)) (pss_cons (ps_set (i := 8) scTreeL.nd rfl (.inl rfl) (pe_ix ix_list (pe_lst (pa_cons (pe_call U_law_next.ok (hr.mono (by omega)) rfl U_law_next.m U_law_next.kp U_law_next.b .nil pass0 (pa_cons (pv 0) (pa_cons (pv 7) pa_nil))) (pa_cons (pe_op op_sub (pv 7) pe_int) (pa_cons pe_int (pa_cons (pe_callB (call_max2 rfl) (by rfl) T.max PyProof.Rows.boot_max (pa_cons pe_int (pa_cons (pe_op op_sub (pe_op op_sub (pv 7) pe_int) (pe_call U_law_next.ok (hr.mono (by omega)) rfl U_law_next.m U_law_next.kp U_law_next.b .nil pass0 (pa_cons (pv 0) (pa_cons pe_int pa_nil)))) pa_nil))) pa_nil))))) (pv 3) (fun _ _ => rfl)))
      (pss_cons (ps_if (pt_cmpR op_gt (pe_ix ix_list (pv 5) (pv 8) (fun _ _ => rfl)) pe_int (nomark _)) (pss_one (ps_set (i := 8) scTreeL.nd rfl (.inl rfl) pe_int)) pss_nil)
      (pss_cons (ps_expr (pe_bm PySem.F.plainAttrs_list PySem.F.slot_list_append PySem.F.type_list_append mt_append (pv 5) (pa_cons (pe_op op_add (pe_ix ix_list (pv 5) (pv 8) (fun _ _ => rfl)) pe_int) pa_nil)))
      (pss_one (ps_expr (pe_bm PySem.F.plainAttrs_list PySem.F.slot_list_append PySem.F.type_list_append mt_append (pv 6) (pa_cons (pv 8) pa_nil))))))))
    (pss_cons (ps_for PassesOwn.never rfl (pi_range3 (by rfl) T.range (pa_cons (pe_op op_sub (pv 2) pe_int) (pa_cons pe_int (pa_cons (pe_un un_neg pe_int) pa_nil)))) (pg_name (i := 7) scTreeL.nd rfl (.inl rfl)) (pss_one (ps_expr (pe_bm PySem.F.plainAttrs_list PySem.F.slot_list_insert PySem.F.type_list_insert mt_insert (pe_ix ix_list (pv 4) (pe_ix ix_list (pv 6) (pv 7) (fun _ _ => rfl)) (fun _ _ => rfl)) (pa_cons pe_int (pa_cons (pe_tup (pa_cons (pe_call U_law_tag.ok (hr.mono (by omega)) rfl U_law_tag.m U_law_tag.kp U_law_tag.b .nil pass0 (pa_cons (pv 0) pa_nil)) (pa_cons (pe_callTy call_tuple_of (by rfl) T.tuple PyProof.Rows.boot_tuple (pa_cons (pe_ix ix_list (pv 4) (pv 7) (fun _ _ => rfl)) pa_nil)) pa_nil))) pa_nil))))))
    (pss_one (ps_ret (pe_tup (pa_cons (pe_call U_law_tag.ok (hr.mono (by omega)) rfl U_law_tag.m U_law_tag.kp U_law_tag.b .nil pass0 (pa_cons (pv 0) pa_nil)) (pa_cons (pe_callTy call_tuple_of (by rfl) T.tuple PyProof.Rows.boot_tuple (pa_cons (pe_ix ix_list (pv 4) pe_int (fun _ _ => rfl)) pa_nil)) pa_nil)))))))))))),
    (ss_cons (ss_set (se_op so_add se_int (se_call (sa_cons se_nm (sa_cons se_nm sa_nil)))))
    (ss_cons (ss_set (se_call (sa_cons se_nm (sa_cons se_int sa_nil))))
    (ss_cons (ss_set (se_lcL (si_r1 (sa_cons se_nm sa_nil)) sg_name st_yes (se_lst sa_nil)))
    (ss_cons (ss_set (se_lst (sa_cons se_int sa_nil)))
    (ss_cons (ss_set (se_lst (sa_cons se_int sa_nil)))
    (ss_cons (ss_for (si_r2 (sa_cons se_int (sa_cons se_nm sa_nil))) sg_name (ss_cons (ss_set (se_op so_ixL (se_lsf (sa_cons (se_call (sa_cons se_nm (sa_cons se_nm sa_nil))) (sa_cons (se_op so_sub se_nm se_int) (sa_cons se_int (sa_cons (se_cb sc_max2 (sa_cons se_int (sa_cons (se_op so_sub (se_op so_sub se_nm se_int) (se_call (sa_cons se_nm (sa_cons se_int sa_nil)))) sa_nil))) sa_nil))))) se_nm))
      (ss_cons (ss_if (st_test (se_op so_gt (se_op so_ixL se_nm se_nm) se_int)) (ss_set se_int) ss_nil)
      (ss_cons (ss_drop (se_bmL sm_append se_nm (sa_cons (se_op so_add (se_op so_ixL se_nm se_nm) se_int) sa_nil)))
      (ss_drop (se_bmL sm_append se_nm (sa_cons se_nm sa_nil)))))))
    (ss_cons (ss_for (si_r3 (sa_cons (se_op so_sub se_nm se_int) (sa_cons se_int (sa_cons (se_un su_neg se_int) sa_nil)))) sg_name (ss_drop (se_bmL sm_insert (se_op so_ixL se_nm (se_op so_ixL se_nm se_nm)) (sa_cons se_int (sa_cons (se_tup (sa_cons (se_call (sa_cons se_nm sa_nil)) (sa_cons (se_cb sc_tuple (sa_cons (se_op so_ixL se_nm se_nm) sa_nil)) sa_nil))) sa_nil)))))
    (ss_ret (se_tup (sa_cons (se_call (sa_cons se_nm sa_nil)) (sa_cons (se_cb sc_tuple (sa_cons (se_op so_ixL se_nm se_int) sa_nil)) sa_nil))))))))))), fun ws M R RX hl h => ?_⟩
  obtain ⟨x0, y0, rfl, hf1⟩ := g2_of h
  obtain ⟨st, rfl, hf2⟩ := gR_of hf1
  obtain ⟨most, rfl, ⟨hM, hm1, hm2⟩, h3⟩ := gI_of hf2
  clear hf1 hf2 h hl
  simp only [start0, len_c, len_n, map_c, map_n, app_c, app_n, rep_0, rep_s, Nat.reduceAdd, Nat.reduceSub]
  decreasing_trivial_pre_omega
  intro m0 hm00 hm01
  decreasing_trivial_pre_omega
  intro slope hs0 hs1
  decreasing_trivial_pre_omega
  obtain ⟨mn, hmn⟩ : ∃ mn : Nat, 1 + m0 = ((mn + 1 : Nat) : Int) := ⟨m0.toNat, by omega⟩
  have hmn2 : mn + 1 ≤ 100 := by omega
  have hn1 : (rng 0 (1 + m0).toNat).length = mn + 1 := by unfold rng; rw [List.length_map, List.length_range]; omega
  refine lc_new (rng 0 (1 + m0).toNat) [] M M (by rw [hn1]; exact Nat.le_of_lt (small1000 (by simp; omega))) List.nodup_nil (fun a h => absurd h List.not_mem_nil) (fun b _ => rfl) (fun as M2 l1 l2 l3 l4 D hD => ?_)
  rw [hn1] at l1
  have l1' : as.length = mn + 1 := by rw [l1]; simp
  have nst : ∀ {b : Addr} {o : MO}, M b = some o → ¬ b ∈ as := fun h z => by rw [(l3 _ z).1] at h; cases h
  have DnA : ¬ D ∈ as := fun z => by rw [(l3 _ z).2] at hD; cases hD
  have DM1 : M D = none := by rw [← l4 D DnA]; exact hD
  have neD : ∀ {b : Addr} {o : MO}, M b = some o → b ≠ D := fun h z => by rw [z, DM1] at h; cases h
  have s0 : ∀ b o, M b = some o → mset M2 D (.lst (as.map W.r)) b = some o := fun b o h => by
    rw [mset_ne (neD h), l4 b (nst h)]
    exact h
  have D1 : mset M2 D (.lst (as.map W.r)) D = some (.lst (as.map W.r)) := mset_same
  have K1 : ∀ a ∈ as, mset M2 D (.lst (as.map W.r)) a = some (.lst []) := fun a ha => by
    rw [mset_ne (fun z => DnA (by rw [← z]; exact ha))]
    exact (l3 a ha).2
  generalize mset M2 D (.lst (as.map W.r)) = M1 at s0 D1 K1
  have hM1 := s0 _ _ hM
  decreasing_trivial_pre_omega
  intro lv hlv
  decreasing_trivial_pre_omega
  intro el hel
  decreasing_trivial_pre_omega
  have nll : lv ≠ el := fun z => by rw [z, mset_same] at hel; cases hel
  have nll2 : el ≠ lv := nll.symm
  rw [mset_ne nll2] at hel
  have sel : st ≠ el := fun z => by rw [z, hel] at hM1; cases hM1
  have slv : st ≠ lv := fun z => by rw [z, hlv] at hM1; cases hM1
  refine forR (fun i ρ M' => ∃ (es ls : List Nat) (y7 y9 : Option W), ρ = [some (.r st), some (.d (.int most)), some (.d (.int (1 + m0))), some (.d (.int slope)), some (.r D), some (.r lv), some (.r el), y7, y9] ∧ M' = mset (mset M1 lv (.lst (nsW ls))) el (.lst (nsW es)) ∧ es.length = i + 1 ∧ ls.length = i + 1 ∧ RelE11 es ls)
    ⟨[0], [1], none, none, rfl, rfl, rfl, rfl, RelE11.one⟩ (fun _ _ _ _ _ => trivial) (fun i ρ M' N hi p hN => ?_) (fun ρ M' p => ?_)
  · obtain ⟨es, ls, y7, y9, rfl, rfl, le, ll, Rl⟩ := p
    have eM : mset (mset M1 lv (.lst (nsW ls))) el (.lst (nsW es)) st = some (.src false) := by rw [mset_ne sel, mset_ne slv]; exact hM1
    decreasing_trivial_pre_omega
    intro a1 ha10 ha11
    decreasing_trivial_pre_omega
    intro a2 ha20 ha21
    decreasing_trivial_pre_omega
    refine gO_atD (fun d => ∃ e : Nat, e ≤ i ∧ d = .int (e : Int)) hs0 (by simpa using hs1) (all1 ⟨a1.toNat, by omega, by congr 1; omega⟩ (all1 ⟨i, Nat.le_refl _, by show PyData.int (1 + (i : Int) - 1) = _; congr 1; omega⟩ (all1 ⟨0, by omega, rfl⟩ (all1 ⟨(max 0 (1 + (i : Int) - 1 - a2)).toNat, by omega, by congr 1; omega⟩ all0)))) fun d hd => ?_
    obtain ⟨e, hei, rfl⟩ := hd
    obtain ⟨l, hl⟩ : ∃ l, ls[e]? = some l := ⟨ls[e]'(by omega), List.getElem?_eq_getElem _⟩
    have hl10 := Rl.lev e l hl
    have m1 : ∀ {x y : MO}, mset (mset M1 lv x) el y lv = some x := fun {x y} => by rw [mset_ne nll]; exact mset_same
    have m2 : ∀ {x y z : MO}, mset (mset (mset M1 lv x) el y) lv z = mset (mset M1 lv z) el y := fun {x y z} => by
      funext b
      by_cases h1 : b = lv
      · subst h1
        rw [mset_same, m1]
      · rw [mset_ne h1]
        by_cases h2 : b = el
        · subst h2
          rw [mset_same, mset_same]
        · rw [mset_ne h2, mset_ne h2, mset_ne h1, mset_ne h1]
    have lE : (nsW es).length < sizeLine := by rw [nsW_len]; exact small1000 (by omega)
    have lL : (nsW ls).length < sizeLine := by rw [nsW_len]; exact small1000 (by omega)
    have goal : ∀ e' l' : Nat, ls[e']? = some l' → l' ≤ 10 → N [some (.r st), some (.d (.int most)), some (.d (.int (1 + m0))), some (.d (.int slope)), some (.r D), some (.r lv), some (.r el), some (.d (.int (1 + (i : Int)))), some (.d (.int (e' : Int)))] (mset (mset M1 lv (.lst (nsW ls ++ [.d (.int ((l' : Int) + 1))]))) el (.lst (nsW es ++ [.d (.int (e' : Int))]))) := fun e' l' h1 h2 => by
      refine hN _ _ ⟨es ++ [e'], ls ++ [l' + 1], _, _, rfl, ?_, by rw [List.length_append, le]; rfl, by rw [List.length_append, ll]; rfl, Rl.app (by omega) h1 h2⟩
      rw [← nsW_app, ← nsW_app]
      rfl
    decreasing_trivial_pre_omega
    refine gO_i (nsW_get hl) ?_
    decreasing_trivial_pre_omega
    refine IfB.d (fun c => ?_) (fun c => ?_)
    · decreasing_trivial_pre_omega
      refine gO_i (nsW_get (j := 0) Rl.first) ?_
      decreasing_trivial_pre_omega
      rw [m2, mset_mset]
      exact goal 0 1 Rl.first (by decide)
    · decreasing_trivial_pre_omega
      refine gO_i (nsW_get hl) ?_
      decreasing_trivial_pre_omega
      rw [m2, mset_mset]
      exact goal e l hl (by omega)
  · obtain ⟨es, ls, y7, y9, rfl, rfl, le, ll, Rl⟩ := p
    have hn : (1 + m0 - 1).toNat = mn := by omega
    rw [hn] at le ll
    decreasing_trivial_pre_omega
    have sub1 : ∀ a o, M1 a = some o → mset (mset M1 lv (.lst (nsW ls))) el (.lst (nsW es)) a = some o := fun a o h => by
      rw [mset_ne (fun z => by rw [z, hel] at h; cases h), mset_ne (fun z => by rw [z, hlv] at h; cases h)]
      exact h
    have e1 : mset (mset M1 lv (.lst (nsW ls))) el (.lst (nsW es)) el = some (.lst (nsW es)) := mset_same
    have eNA : ¬ el ∈ as := fun z => by rw [K1 _ z] at hel; cases hel
    have eND : el ≠ D := fun z => by rw [z, D1] at hel; cases hel
    generalize mset (mset M1 lv (.lst (nsW ls))) el (.lst (nsW es)) = M3 at sub1 e1
    refine ⟨_, RgC.neg (by omega) (by omega) (by omega) (by omega), ?_⟩
    have hn2 : (1 + m0 - 1 - 0).toNat = mn := by omega
    rw [hn2]
    refine forRC (fun i ρ M' => ∃ (tss : List (List PyData)) (z7 : Option W), ρ = [some (.r st), some (.d (.int most)), some (.d (.int (1 + m0))), some (.d (.int slope)), some (.r D), some (.r lv), some (.r el), z7, y9] ∧ (∀ b o, M b = some o → M' b = some o) ∧ M' el = some (.lst (nsW es)) ∧ M' D = some (.lst (as.map W.r)) ∧ (∀ (j : Nat) (a : Addr) (ts : List PyData), as[j]? = some a → tss[j]? = some ts → M' a = some (.lst (ts.map W.d))) ∧ tss.length = mn + 1 ∧ sn (mn + 1 - i) tss ≤ i ∧ ∀ (j l : Nat) (ts : List PyData), tss[j]? = some ts → ls[j]? = some l → ∀ t ∈ ts, TrT (11 - l) t)
      ⟨List.replicate (mn + 1) [], y7, rfl, fun b o h => sub1 _ _ (s0 _ _ h), e1, sub1 _ _ D1, fun j a ts h1 h2 => ?_, List.length_replicate, by rw [sn_rep]; exact Nat.zero_le _, fun j l ts h1 _ t ht => ?_⟩ (fun _ _ _ _ _ => trivial) (fun i ρ M' N hi p hN => ?_) (fun ρ M' p => ?_)
    · rw [(List.mem_replicate.mp (List.mem_of_getElem? h2)).2]
      exact sub1 _ _ (K1 _ (List.mem_of_getElem? h1))
    · rw [(List.mem_replicate.mp (List.mem_of_getElem? h1)).2] at ht
      cases ht
    · obtain ⟨tss, z7, rfl, s7, E7, D7, K7, lt7, sn7, tr7⟩ := p
      obtain ⟨kk, hkk⟩ : ∃ kk : Nat, kk + i = mn := ⟨mn - i, by omega⟩
      have hkv : 1 + m0 - 1 + ((i : Nat) : Int) * -1 = (kk : Int) := by omega
      have hk1 : 1 ≤ kk := by omega
      obtain ⟨e, he⟩ : ∃ e, es[kk]? = some e := ⟨es[kk]'(by omega), List.getElem?_eq_getElem _⟩
      obtain ⟨hek, hlev⟩ := Rl.eld kk e hk1 he
      obtain ⟨ae, hae⟩ : ∃ a, as[e]? = some a := ⟨as[e]'(by omega), List.getElem?_eq_getElem _⟩
      obtain ⟨ak, hak⟩ : ∃ a, as[kk]? = some a := ⟨as[kk]'(by omega), List.getElem?_eq_getElem _⟩
      obtain ⟨te, hte⟩ : ∃ t, tss[e]? = some t := ⟨tss[e]'(by omega), List.getElem?_eq_getElem _⟩
      obtain ⟨tk, htk⟩ : ∃ t, tss[kk]? = some t := ⟨tss[kk]'(by omega), List.getElem?_eq_getElem _⟩
      obtain ⟨le', hle'⟩ : ∃ l, ls[e]? = some l := ⟨ls[e]'(by omega), List.getElem?_eq_getElem _⟩
      obtain ⟨lk, hlk⟩ : ∃ l, ls[kk]? = some l := ⟨ls[kk]'(by omega), List.getElem?_eq_getElem _⟩
      have hll := hlev le' lk hle' hlk
      have hlk10 := Rl.lev kk lk hlk
      have aeA := List.mem_of_getElem? hae
      have atAe : atI (as.map W.r) (e : Int) = some (.r ae) := atI_nat (by rw [List.getElem?_map, hae]; rfl)
      have atAk : atI (as.map W.r) (kk : Int) = some (.r ak) := atI_nat (by rw [List.getElem?_map, hak]; rfl)
      have h8 := s7 _ _ hM
      have h7 := K7 e ae te hae hte
      have h6 := K7 kk ak tk hak htk
      rw [hkv]
      decreasing_trivial_pre_omega
      refine gO_i (nsW_get he) ?_
      decreasing_trivial_pre_omega
      intro tgs htgs
      decreasing_trivial_pre_omega
      have hlt : nnAll te ≤ sn (mn + 1 - i) tss := nn_sn (by omega) hte
      have hl2 := len_nn5 te
      have hsz : (te.map W.d).length < sizeLine := by
        rw [List.length_map]
        exact Nat.lt_of_le_of_lt (show te.length ≤ 100000 by omega) (by decide)
      decreasing_trivial_pre_omega
      refine hN _ _ ⟨tss.set e (.tuple [.str tgs, .tuple tk] :: te), _, rfl, fun b o h => ?_, ?_, ?_, fun j a ts h1 h2 => ?_, by rw [List.length_set]; exact lt7, ?_, fun j l ts h1 h2 t ht => ?_⟩
      · rw [mset_ne (fun z => nst h (by rw [z]; exact aeA))]
        exact s7 b o h
      · rw [mset_ne (fun z => eNA (by rw [z]; exact aeA))]
        exact E7
      · rw [mset_ne (fun z => DnA (by rw [z]; exact aeA))]
        exact D7
      · by_cases cj : j = e
        · subst cj
          rw [hae] at h1
          cases h1
          rw [List.getElem?_set_self (by omega)] at h2
          cases h2
          rw [mset_same]
          rfl
        · rw [List.getElem?_set_ne (fun z => cj z.symm)] at h2
          rw [mset_ne (fun z => cj (nd_ix l2 h1 (by rw [z]; exact hae)))]
          exact K7 j a ts h1 h2
      · have e1 : mn + 1 - (i + 1) = kk := by omega
        have e2 : mn + 1 - i = kk + 1 := by omega
        rw [e2, sn_succ htk] at sn7
        rw [e1, sn_setC hek hte, nn]
        omega
      · by_cases cj : j = e
        · subst cj
          rw [List.getElem?_set_self (by omega)] at h1
          cases h1
          rw [hle'] at h2
          cases h2
          rcases List.mem_cons.mp ht with ht | ht
          · rw [ht]
            refine TrT.mono (show 11 - lk + 1 ≤ 11 - le' by omega) ⟨tgs, _, rfl, htgs, fun kd hkd => ?_⟩
            exact tr7 kk lk tk htk hlk kd hkd
          · exact tr7 j _ te hte hle' t ht
        · rw [List.getElem?_set_ne (fun z => cj z.symm)] at h1
          exact tr7 j l ts h1 h2 t ht
    · obtain ⟨tss, z7, rfl, s7, E7, D7, K7, lt7, sn7, tr7⟩ := p
      rw [show mn + 1 - mn = 1 by omega] at sn7
      obtain ⟨ak, hak⟩ : ∃ a, as[0]? = some a := ⟨as[0]'(by omega), List.getElem?_eq_getElem _⟩
      obtain ⟨tk, htk⟩ : ∃ t, tss[0]? = some t := ⟨tss[0]'(by omega), List.getElem?_eq_getElem _⟩
      have atAk : atI (as.map W.r) 0 = some (.r ak) := atI_nat (j := 0) (by rw [List.getElem?_map, hak]; rfl)
      have h8 := s7 _ _ hM
      have h6 := K7 0 ak tk hak htk
      decreasing_trivial_pre_omega
      intro tgs htgs
      decreasing_trivial_pre_omega
      refine ⟨M, fun a o h => s7 _ _ h, h3 _ ?_ ?_⟩
      · refine ⟨tgs, _, rfl, htgs, fun kd hkd => ?_⟩
        exact tr7 0 1 tk htk Rl.first kd hkd
      · rw [show (1 : Nat) = 0 + 1 from rfl, sn_succ htk] at sn7
        rw [nn]
        omega
end
end Tl
set_option Elab.async false
set_option linter.all false
set_option maxRecDepth 100000
set_option maxHeartbeats 8000000
namespace Tl
open PySem L2 RZ
local macro_rules
  | `(tactic| decreasing_trivial) => `(tactic| ((with_reducible (conv => whnf)); (repeat ((first | (with_reducible refine gDs_c ?_) | (with_reducible refine gDs_n ?_) | (with_reducible refine gNs_c ?_) | (with_reducible refine gNs_n ?_) | (with_reducible refine gO_i tyAny_lt ?_) | (with_reducible refine gIs_c ?_) | (with_reducible refine gIs_n ?_) | (with_reducible refine gBs_c ?_) | (with_reducible refine gBs_n ?_) | (with_reducible refine gSs_c ?_) | (with_reducible refine gSs_n ?_) | (with_reducible refine gO_i tyIs_int ?_) | (with_reducible refine gO_i tyIs_bool ?_) | (with_reducible refine gO_i tyIs_str ?_) | (with_reducible refine gO_i tyIs_tuple ?_) | (with_reducible refine gO_i tyIs_list ?_) | (with_reducible refine gDs_i ?_) | (with_reducible refine gO_i (Eq.refl _) ?_) | (with_reducible refine gO_i (by assumption) ?_) | (with_reducible refine gO_i at_0 ?_) | (with_reducible refine gO_i at_m0 ?_) | (with_reducible refine gO_i at_1 ?_) | (with_reducible refine gO_i at_m1 ?_) | (with_reducible refine gO_i at_2 ?_) | (with_reducible refine gO_i at_m2 ?_) | (with_reducible refine gO_i at_3 ?_) | (with_reducible refine gO_i at_m3 ?_) | (with_reducible refine gO_i at_4 ?_) | (with_reducible refine gO_i at_m4 ?_) | (with_reducible refine gO_i at_5 ?_) | (with_reducible refine gO_i at_m5 ?_) | (with_reducible refine gO_i at_6 ?_) | (with_reducible refine gO_i at_m6 ?_) | (with_reducible refine gO_i at_7 ?_) | (with_reducible refine gO_i at_m7 ?_) | (with_reducible refine IfB.ngf ?_) | (with_reducible refine IfB.ngt ?_) | (with_reducible refine IfB.not ?_) | (with_reducible refine IfB.nil ?_) | (with_reducible refine IfB.nilT ?_) | (with_reducible refine IfB.f isE_c ?_) | (with_reducible refine IfB.t isE_n ?_) | (with_reducible refine IfB.t ?gha ?_; (case gha => rfl)) | (with_reducible refine IfB.f ?gha ?_; (case gha => rfl)) | (with_reducible refine IfB.t ?gha ?_; (case gha => assumption)) | (with_reducible refine IfB.f ?gha ?_; (case gha => assumption)) | (with_reducible refine IfB.yes (Eq.refl _) ?_) | (with_reducible refine IfB.yes ?gha ?_; (case gha => (first | omega | (simp only [len_c, len_n, List.length_map]; omega)))) | (with_reducible refine IfB.no ?gha ?_; (case gha => (first | omega | (simp only [len_c, len_n, List.length_map]; omega)))) | (with_reducible refine IfB.t ?gha ?_; (case gha => decide +kernel)) | (with_reducible refine IfB.f ?gha ?_; (case gha => decide +kernel))); (with_reducible (conv => whnf))))))
local macro_rules
  | `(tactic| decreasing_trivial_pre_omega) => `(tactic| (decreasing_trivial; (repeat ((first | ((with_reducible refine And.intro ?gha ?_); (case gha => (first | assumption | omega | exact rfl | (exact mset_same) | (exact ⟨_, mset_same⟩) | (exact Exists.intro _ (by first | exact mset_same | assumption | (rw [mset_ne (by assumption)]; first | exact mset_same | assumption))) | (exact sm_of (by omega) (by omega)) | (exact sz1000 (by first | omega | (simp; done) | (simp; omega))) | (exact Or.inl ⟨by decide, by decide⟩) | decide | (simp; done) | (refine ⟨?_, ?_⟩ <;> (first | assumption | omega | exact rfl | (exact mset_same) | (exact ⟨_, mset_same⟩) | (exact Exists.intro _ (by first | exact mset_same | assumption | (rw [mset_ne (by assumption)]; first | exact mset_same | assumption))) | (exact sm_of (by omega) (by omega)) | (exact sz1000 (by first | omega | (simp; done) | (simp; omega))) | (exact Or.inl ⟨by decide, by decide⟩) | decide | (simp; done))) | (refine ⟨?_, ?_, ?_⟩ <;> (first | assumption | omega | exact rfl | (exact mset_same) | (exact ⟨_, mset_same⟩) | (exact Exists.intro _ (by first | exact mset_same | assumption | (rw [mset_ne (by assumption)]; first | exact mset_same | assumption))) | (exact sm_of (by omega) (by omega)) | (exact sz1000 (by first | omega | (simp; done) | (simp; omega))) | (exact Or.inl ⟨by decide, by decide⟩) | decide | (simp; done))) | (refine ⟨?_, ?_, ?_, ?_⟩ <;> (first | assumption | omega | exact rfl | (exact mset_same) | (exact ⟨_, mset_same⟩) | (exact Exists.intro _ (by first | exact mset_same | assumption | (rw [mset_ne (by assumption)]; first | exact mset_same | assumption))) | (exact sm_of (by omega) (by omega)) | (exact sz1000 (by first | omega | (simp; done) | (simp; omega))) | (exact Or.inl ⟨by decide, by decide⟩) | decide | (simp; done)))))) | (with_reducible refine exW (by first | exact mset_same | assumption | (rw [mset_ne (by assumption)]; first | exact mset_same | assumption)) ?_)); decreasing_trivial))))
theorem at2 {α : Type} {a b : α} : atI [a, b] 0 = some a ∧ atI [a, b] 1 = some b := ⟨atI_nat (j := 0) rfl, atI_nat (j := 1) rfl⟩
theorem len_nn : ∀ ks : List PyData, ks.length ≤ nnAll ks
  | [] => Nat.zero_le _
  | k :: ks => by
    have := len_nn ks
    have := nn_pos k
    rw [nnAll, List.length_cons]
    omega
theorem nnAll_take (ks : List PyData) (i : Nat) : nnAll (ks.take i) ≤ nnAll ks := by
  conv => rhs; rw [← List.take_append_drop i ks, nnAll_app]
  omega
theorem nn_mem : ∀ {ks : List PyData} {k : PyData}, k ∈ ks → nn k ≤ nnAll ks
  | k' :: ks, k, h => by
    rw [nnAll]
    rcases List.mem_cons.mp h with rfl | h
    · omega
    · have := nn_mem h
      omega
/-- a number is told of a tree -/
@[reducible] def tfN (g : PyData → Nat) (n : Nat) : TF := fun ws M R _ => g1 ws fun x => gD x fun d => (TrT n d ∧ nn d ≤ 200) ∧ R (.d (.int (g d : Nat))) M
theorem no_tfN {g : PyData → Nat} (ws : List W) (M : Mem) (R : W → Mem → Prop) (RX : Ex → Mem → Prop) : ¬ tfN g 0 ws M R RX := fun h => by
  obtain ⟨x, rfl, h1⟩ := g1_of h
  obtain ⟨d, rfl, ⟨h2, _⟩, _⟩ := gD_of h1
  exact h2
/-- the part at a path, None where there is none -/
@[reducible] def tfPartAt : TF := fun ws M R _ => ∃ (d : PyData) (q : List Nat) (n : Nat), ws = [.d d, .d (pathD q)] ∧ TrT n d ∧ R (.d (optP (sub d q))) M
def pls (q : List Nat) (rs : List (List Nat)) : List PyData := rs.map fun r => pathD (q ++ r)
theorem pls_app (q : List Nat) (a b : List (List Nat)) : pls q (a ++ b) = pls q a ++ pls q b := List.map_append
theorem pls_len (q : List Nat) (a : List (List Nat)) : (pls q a).length = a.length := List.length_map _
theorem pls_kid (q : List Nat) (i : Nat) (a : List (List Nat)) : pls (q ++ [i]) a = pls q (a.map (i :: ·)) := by
  unfold pls
  rw [List.map_map]
  refine List.map_congr_left fun r _ => ?_
  show pathD (q ++ [i] ++ r) = pathD (q ++ i :: r)
  rw [List.append_assoc]
  rfl
theorem path_cat (q : List Nat) (i : Nat) : PyData.tuple ((q.map fun n : Nat => .int (n : Int)) ++ [.int (i : Int)]) = pathD (q ++ [i]) := by
  unfold pathD
  rw [List.map_append]
  rfl
/-- as data -/
@[reducible] def tfPls (n : Nat) : TF := fun ws M R _ => ∃ (d : PyData) (q : List Nat), ws = [.d d, .d (pathD q)] ∧ (TrT n d ∧ nn d ≤ 200 ∧ q.length + n ≤ 100) ∧ R (.d (.list (pls q (plc d)))) M
section
variable {P : Program} {w : World} {K : PySem.W.Frag} {mg : Str → Option Value} {base : Heap}
abbrev sCntPlaces : Stmt := top 22
theorem scCntPlaces : FnScope ["tree", "kid"] ["tree"] (defScope sCntPlaces) := ⟨rfl, rfl, rfl, by decide +kernel, rfl, by decide +kernel, by decide +kernel⟩
theorem ok_cntPlaces1 {f : Addr} {fd : FuncData} {n : Nat} (F : Fun K "count_places" "count_places" sCntPlaces f fd) (Ucount_places : Use P w K mg base "count_places" ["tree"] n (spD K 1 (tfN nn n))) (T : Bl mg) (mS : mg "sum" = none) :
    FnOk P w K mg base CX0 (n + 1) f fd ["tree"] (spD K 1 (tfN nn (n + 1))) := by
  refine okD F scCntPlaces rfl fun cdv A outer s H E hr => ?_
  refine ⟨_, _, (pss_one (ps_ret (pe_op op_add pe_int (pe_callB (cr_sum rfl) (by rfl) mS PyProof.Rows.boot_sum (pa_cons (pe_lc (own := [("kid", 1)]) (g := gName 1) (tt := tYes) (by rfl) scCntPlaces.nd (pi_tup (pe_ix ix_tup (pv 0) pe_int (fun _ _ => rfl))) (blkOk_by (N := ["tree", "kid"]) (sc := defScope sCntPlaces) (own := [("kid", 1)]) (by decide +kernel)) (fun _ _ _ _ _ => pg_name (i := 1) scCntPlaces.nd rfl (Or.inl rfl)) (fun _ _ _ _ _ => pts_nil) (fun _ _ _ _ _ => (pe_call Ucount_places.ok (hr.mono (by omega)) rfl Ucount_places.m Ucount_places.kp Ucount_places.b .nil pass0 (pa_cons (pv 1) pa_nil)))) pa_nil))))),
    (ss_ret (se_op so_add se_int (se_cb sc_sum (sa_cons (se_lcF (si_tup (se_op so_ixT se_nm se_int)) sg_name st_yes (se_call (sa_cons se_nm sa_nil))) sa_nil)))), fun ws M R RX hl h => ?_⟩
  obtain ⟨x, rfl, h1⟩ := g1_of h
  obtain ⟨d, rfl, ⟨ht, hn⟩, h2⟩ := gD_of h1
  obtain ⟨s0, ks, rfl, hs, hk⟩ := ht
  rw [nn] at hn h2
  have hl := len_nn ks
  simp only [start0, len_c, len_n, map_c, map_n, app_c, app_n, rep_0, rep_s, Nat.reduceAdd, Nat.reduceSub]
  decreasing_trivial
  refine lc1F (k := fun _ => True) (b := bName 1) (fun k => .int (nn k : Nat)) trivial (fun k hm Rk q => ?_) (sz1000 (by omega)) ?_
  · have := nn_mem hm
    decreasing_trivial
    exact ⟨⟨hk k hm, by omega⟩, q⟩
  · show gIs (((ks.map fun k => PyData.int (nn k : Nat))).map W.d) _
    rw [List.map_map]
    show gIs (ks.map fun k => W.d (.int (nn k : Nat))) _
    rw [gIs_map, nnAll_map]
    have e : (1 : Int) + ((nnAll ks : Nat) : Int) = ((1 + nnAll ks : Nat) : Int) := by omega
    show R (.d (.int (1 + ((nnAll ks : Nat) : Int)))) M
    rw [e]
    exact h2
theorem ok_cntPlaces {f : Addr} {fd : FuncData} (F : Fun K "count_places" "count_places" sCntPlaces f fd) (mF : mg "count_places" = some (.ref f)) (T : Bl mg) (mS : mg "sum" = none) : ∀ n, FnOk P w K mg base CX0 n f fd ["tree"] (spD K 1 (tfN nn n))
  | 0 => no0 no_tfN
  | n + 1 => ok_cntPlaces1 F ⟨f, fd, ok_cntPlaces F mF T mS n, mF, F.kp, F.binds (ps := ["tree"]) fun _ _ _ _ _ _ us hl => match us, hl with | [_], _ => rfl⟩ T mS
abbrev sCntLevels : Stmt := top 23
theorem scCntLevels : FnScope ["tree", "kid"] ["tree"] (defScope sCntLevels) := ⟨rfl, rfl, rfl, by decide +kernel, rfl, by decide +kernel, by decide +kernel⟩
theorem ok_cntLevels1 {f : Addr} {fd : FuncData} {n : Nat} (F : Fun K "count_levels" "count_levels" sCntLevels f fd) (Ucount_levels : Use P w K mg base "count_levels" ["tree"] n (spD K 1 (tfN lev n))) (T : Bl mg) :
    FnOk P w K mg base CX0 (n + 1) f fd ["tree"] (spD K 1 (tfN lev (n + 1))) := by
  refine okD F scCntLevels rfl fun cdv A outer s H E hr => ?_
  refine ⟨_, _, (pss_one (ps_ret (pe_op op_add pe_int (pe_callBK (ck_max rfl) (by rfl) T.max PyProof.Rows.boot_max (pa_cons (pe_lc (own := [("kid", 1)]) (g := gName 1) (tt := tYes) (by rfl) scCntLevels.nd (pi_tup (pe_ix ix_tup (pv 0) pe_int (fun _ _ => rfl))) (blkOk_by (N := ["tree", "kid"]) (sc := defScope sCntLevels) (own := [("kid", 1)]) (by decide +kernel)) (fun _ _ _ _ _ => pg_name (i := 1) scCntLevels.nd rfl (Or.inl rfl)) (fun _ _ _ _ _ => pts_nil) (fun _ _ _ _ _ => (pe_call Ucount_levels.ok (hr.mono (by omega)) rfl Ucount_levels.m Ucount_levels.kp Ucount_levels.b .nil pass0 (pa_cons (pv 1) pa_nil)))) pa_nil) (pk_cons pe_int pk_nil))))),
    (ss_ret (se_op so_add se_int (se_ckMax (sa_cons (se_lcF (si_tup (se_op so_ixT se_nm se_int)) sg_name st_yes (se_call (sa_cons se_nm sa_nil))) sa_nil) (sa_cons se_int sa_nil)))), fun ws M R RX hl h => ?_⟩
  obtain ⟨x, rfl, h1⟩ := g1_of h
  obtain ⟨d, rfl, ⟨ht, hn⟩, h2⟩ := gD_of h1
  obtain ⟨s0, ks, rfl, hs, hk⟩ := ht
  rw [nn] at hn
  rw [lev_node] at h2
  have hl := len_nn ks
  simp only [start0, len_c, len_n, map_c, map_n, app_c, app_n, rep_0, rep_s, Nat.reduceAdd, Nat.reduceSub]
  decreasing_trivial
  refine lc1F (k := fun _ => True) (b := bName 1) (fun k => .int (lev k : Nat)) trivial (fun k hm Rk q => ?_) (sz1000 (by omega)) ?_
  · have := nn_mem hm
    decreasing_trivial
    exact ⟨⟨hk k hm, by omega⟩, q⟩
  · show gIs (((ks.map fun k => PyData.int (lev k : Nat))).map W.d) _
    rw [List.map_map]
    show gIs (ks.map fun k => W.d (.int (lev k : Nat))) _
    rw [gIs_map]
    have e : (1 : Int) + ((levAll ks : Nat) : Int) = ((1 + levAll ks : Nat) : Int) := by omega
    show R (.d (.int (1 + (if (ks.map fun k => ((lev k : Nat) : Int)).length = 0 then 0 else mxI (ks.map fun k => ((lev k : Nat) : Int)))))) M
    have e2 : (if (ks.map fun k => ((lev k : Nat) : Int)).length = 0 then (0 : Int) else mxI (ks.map fun k => ((lev k : Nat) : Int))) = ((levAll ks : Nat) : Int) := by
      cases ks with
      | nil => rfl
      | cons k r => rw [if_neg (by simp), mx_lev (by simp)]
    rw [e2, e]
    exact h2
theorem ok_cntLevels {f : Addr} {fd : FuncData} (F : Fun K "count_levels" "count_levels" sCntLevels f fd) (mF : mg "count_levels" = some (.ref f)) (T : Bl mg) : ∀ n, FnOk P w K mg base CX0 n f fd ["tree"] (spD K 1 (tfN lev n))
  | 0 => no0 no_tfN
  | n + 1 => ok_cntLevels1 F ⟨f, fd, ok_cntLevels F mF T n, mF, F.kp, F.binds (ps := ["tree"]) fun _ _ _ _ _ _ us hl => match us, hl with | [_], _ => rfl⟩ T
abbrev sLLevels : Stmt := top 49
theorem scLLevels : FnScope ["_law_tree_here", "_law_kid"] ["_law_tree_here"] (defScope sLLevels) := ⟨rfl, rfl, rfl, by decide +kernel, rfl, by decide +kernel, by decide +kernel⟩
theorem ok_lLevels1 {f : Addr} {fd : FuncData} {n : Nat} (F : Fun K "_law_levels" "_law_levels" sLLevels f fd) (U_law_levels : Use P w K mg base "_law_levels" ["_law_tree_here"] n (spD K 1 (tfN lev n))) (T : Bl mg) :
    FnOk P w K mg base CX0 (n + 1) f fd ["_law_tree_here"] (spD K 1 (tfN lev (n + 1))) := by
  refine okD F scLLevels rfl fun cdv A outer s H E hr => ?_
  refine ⟨_, _, (pss_one (ps_ret (pe_op op_add pe_int (pe_callB (cr_max rfl) (by rfl) T.max PyProof.Rows.boot_max (pa_cons (pe_op op_cat (pe_lst (pa_cons pe_int pa_nil)) (pe_lc (own := [("_law_kid", 1)]) (g := gName 1) (tt := tYes) (by rfl) scLLevels.nd (pi_tup (pe_ix ix_tup (pv 0) pe_int (fun _ _ => rfl))) (blkOk_by (N := ["_law_tree_here", "_law_kid"]) (sc := defScope sLLevels) (own := [("_law_kid", 1)]) (by decide +kernel)) (fun _ _ _ _ _ => pg_name (i := 1) scLLevels.nd rfl (Or.inl rfl)) (fun _ _ _ _ _ => pts_nil) (fun _ _ _ _ _ => (pe_call U_law_levels.ok (hr.mono (by omega)) rfl U_law_levels.m U_law_levels.kp U_law_levels.b .nil pass0 (pa_cons (pv 1) pa_nil))))) pa_nil))))),
    (ss_ret (se_op so_add se_int (se_cb sc_max (sa_cons (se_op so_catF (se_lsf (sa_cons se_int sa_nil)) (se_lcF (si_tup (se_op so_ixT se_nm se_int)) sg_name st_yes (se_call (sa_cons se_nm sa_nil)))) sa_nil)))), fun ws M R RX hl h => ?_⟩
  obtain ⟨x, rfl, h1⟩ := g1_of h
  obtain ⟨d, rfl, ⟨ht, hn⟩, h2⟩ := gD_of h1
  obtain ⟨s0, ks, rfl, hs, hk⟩ := ht
  rw [nn] at hn
  rw [lev_node] at h2
  have hl := len_nn ks
  simp only [start0, len_c, len_n, map_c, map_n, app_c, app_n, rep_0, rep_s, Nat.reduceAdd, Nat.reduceSub]
  decreasing_trivial
  refine lc1F (k := fun _ => True) (b := bName 1) (fun k => .int (lev k : Nat)) trivial (fun k hm Rk q => ?_) (sz1000 (by omega)) ?_
  · have := nn_mem hm
    decreasing_trivial
    exact ⟨⟨hk k hm, by omega⟩, q⟩
  · decreasing_trivial
    refine ⟨sz1000 (by simp; omega), ?_⟩
    rw [show [PyData.int 0] ++ (ks.map fun k => PyData.int (lev k : Nat)) = ((0 : Int) :: ks.map fun k => ((lev k : Nat) : Int)).map PyData.int by simp]
    dsimp only
    refine max_ints (by simp) ?_
    rw [mx_lev0]
    have e : (1 : Int) + ((levAll ks : Nat) : Int) = ((1 + levAll ks : Nat) : Int) := by omega
    show R (.d (.int (1 + ((levAll ks : Nat) : Int)))) M
    rw [e]
    exact h2
theorem ok_lLevels {f : Addr} {fd : FuncData} (F : Fun K "_law_levels" "_law_levels" sLLevels f fd) (mF : mg "_law_levels" = some (.ref f)) (T : Bl mg) : ∀ n, FnOk P w K mg base CX0 n f fd ["_law_tree_here"] (spD K 1 (tfN lev n))
  | 0 => no0 no_tfN
  | n + 1 => ok_lLevels1 F ⟨f, fd, ok_lLevels F mF T n, mF, F.kp, F.binds (ps := ["_law_tree_here"]) fun _ _ _ _ _ _ us hl => match us, hl with | [_], _ => rfl⟩ T
abbrev sPartAt : Stmt := top 24
theorem scPartAt : FnScope ["tree", "path", "part", "step"] ["tree", "path"] (defScope sPartAt) := ⟨rfl, rfl, rfl, by decide +kernel, rfl, by decide +kernel, by decide +kernel⟩
theorem ok_partAt {f : Addr} {fd : FuncData} {k : Nat} (F : Fun K "part_at" "part_at" sPartAt f fd) (T : Bl mg) : FnOk P w K mg base CX0 (k + 1) f fd ["tree", "path"] (spD K 2 tfPartAt) := by
  refine okD F scPartAt rfl fun cdv A outer s H E hr => ?_
  refine ⟨_, _, (pss_cons (ps_set (i := 2) scPartAt.nd rfl (.inl rfl) (pv 0))
    (pss_cons (ps_for PassesOwn.never rfl (pi_tup (pv 1)) (pg_name (i := 3) scPartAt.nd rfl (.inl rfl)) (pss_cons (ps_if (pt_cmpR op_ge (pv 3) (pe_callB call_len_seq (by rfl) T.len PySem.boot_len (pa_cons (pe_ix ix_tup (pv 2) pe_int (fun _ _ => rfl)) pa_nil)) (nomark _)) (pss_one (ps_ret pe_non)) pss_nil)
      (pss_one (ps_set (i := 2) scPartAt.nd rfl (.inl rfl) (pe_ix ix_tup (pe_ix ix_tup (pv 2) pe_int (fun _ _ => rfl)) (pv 3) (fun _ _ => rfl))))))
    (pss_one (ps_ret (pv 2))))),
    (ss_cons (ss_set se_nm)
    (ss_cons (ss_for (si_tup se_nm) sg_name (ss_cons (ss_if (st_test (se_op so_ge se_nm (se_cb sc_len (sa_cons (se_op so_ixT se_nm se_int) sa_nil)))) (ss_ret se_non) ss_nil)
      (ss_set (se_op so_ixT (se_op so_ixT se_nm se_int) se_nm))))
    (ss_ret se_nm))), fun ws M R RX hl h => ?_⟩
  obtain ⟨d, q, n, rfl, ht, h2⟩ := h
  unfold pathD
  simp only [start0, len_c, len_n, map_c, map_n, app_c, app_n, rep_0, rep_s, Nat.reduceAdd, Nat.reduceSub]
  decreasing_trivial
  rw [mapW]
  refine for1 (fun i ρ M' => M = M' ∧ ∃ (e : PyData) (m : Nat) (y : Option W), ρ = [some (W.d d), some (W.d (.tuple (q.map fun n : Nat => .int (n : Int)))), some (W.d e), y] ∧ TrT m e ∧ sub d q = sub e (q.drop i))
    ⟨rfl, d, n, none, rfl, ht, rfl⟩ (fun _ _ _ _ _ => trivial) (fun i a ρ M' N ha p hN => ?_) (fun ρ M' p => ?_)
  · obtain ⟨rfl, e, m, y, rfl, he, hs⟩ := p
    cases m with
    | zero => exact he.elim
    | succ m =>
      obtain ⟨s0, ks, rfl, _, hk⟩ := he
      have hi := (List.getElem?_eq_some_iff.mp ha).1
      rw [List.drop_eq_getElem_cons hi, (List.getElem?_eq_some_iff.mp ha).2, sub_node] at hs
      decreasing_trivial
      refine IfB.d (fun c => ?_) (fun c => ?_)
      · decreasing_trivial
        rw [hs, List.getElem?_eq_none (by omega)] at h2
        exact h2
      · obtain ⟨k, hk2⟩ : ∃ k, ks[a]? = some k := ⟨ks[a]'(by omega), List.getElem?_eq_getElem _⟩
        rw [hk2] at hs
        decreasing_trivial
        refine gO_i (atI_nat hk2) ?_
        decreasing_trivial
        exact hN _ _ ⟨rfl, k, m, _, rfl, hk k (List.mem_of_getElem? hk2), hs⟩
  · obtain ⟨rfl, e, m, y, rfl, he, hs⟩ := p
    rw [List.drop_length, sub_nil] at hs
    rw [hs] at h2
    exact h2
abbrev sPlaces : Stmt := top 47
theorem scPlaces : FnScope ["_law_tree_here", "_law_path", "_law_found", "_law_at", "_law_kid"] ["_law_tree_here", "_law_path"] (defScope sPlaces) := ⟨rfl, rfl, rfl, by decide +kernel, rfl, by decide +kernel, by decide +kernel⟩
theorem ok_places1 {f : Addr} {fd : FuncData} {n : Nat} (F : Fun K "_law_places" "_law_places" sPlaces f fd) (U_law_places : Use P w K mg base "_law_places" ["_law_tree_here", "_law_path"] n (spD K 2 (tfPls n))) (T : Bl mg) :
    FnOk P w K mg base CX0 (n + 1) f fd ["_law_tree_here", "_law_path"] (spD K 2 (tfPls (n + 1))) := by
  refine okD F scPlaces rfl fun cdv A outer s H E hr => ?_
  refine ⟨_, _, (pss_cons (ps_set (i := 2) scPlaces.nd rfl (.inl rfl) (pe_lst (pa_cons (pv 1) pa_nil)))
    (pss_cons (ps_for PassesOwn.never rfl (pi_enumT (by rfl) T.enum (pa_cons (pe_ix ix_tup (pv 0) pe_int (fun _ _ => rfl)) pa_nil)) (pg_tup rfl (pgs_cons (pg_name (i := 3) scPlaces.nd rfl (.inl rfl)) (pgs_cons (pg_name (i := 4) scPlaces.nd rfl (.inl rfl)) pgs_nil))) (pss_one (ps_set (i := 2) scPlaces.nd rfl (.inl rfl) (pe_op op_cat (pv 2) (pe_call U_law_places.ok (hr.mono (by omega)) rfl U_law_places.m U_law_places.kp U_law_places.b .nil pass0 (pa_cons (pv 4) (pa_cons (pe_op op_catA (pv 1) (pe_tup (pa_cons (pv 3) pa_nil))) pa_nil)))))))
    (pss_one (ps_ret (pv 2))))),
    (ss_cons (ss_set (se_lsf (sa_cons se_nm sa_nil)))
    (ss_cons (ss_for (si_enT (sa_cons (se_op so_ixT se_nm se_int) sa_nil)) sg_pair (ss_set (se_op so_catF se_nm (se_call (sa_cons se_nm (sa_cons (se_op so_catT se_nm (se_tup (sa_cons se_nm sa_nil))) sa_nil))))))
    (ss_ret se_nm))), fun ws M R RX hl h => ?_⟩
  obtain ⟨d, q, rfl, ⟨ht, hn, hq⟩, h3⟩ := h
  obtain ⟨s0, ks, rfl, hs, hk⟩ := ht
  rw [plc_node] at h3
  rw [nn] at hn
  simp only [start0, len_c, len_n, map_c, map_n, app_c, app_n, rep_0, rep_s, Nat.reduceAdd, Nat.reduceSub]
  decreasing_trivial
  refine forE (fun i ρ M' => M = M' ∧ ∃ y z, ρ = [some (W.d (PyData.tuple [PyData.str s0, PyData.tuple ks])), some (W.d (pathD q)), some (W.d (.list (pls q ([] :: plcAll 0 (ks.take i))))), y, z])
    ⟨rfl, none, none, by rw [List.take_zero, plcAll]; unfold pls; rw [List.map_cons, List.append_nil]; rfl⟩ (fun _ _ _ _ _ => trivial) (fun i a ρ M' N ha c hN => ?_) (fun ρ M' c => ?_)
  · obtain ⟨rfl, y, z, rfl⟩ := c
    rw [List.getElem?_map] at ha
    obtain ⟨kd, hkd, rfl⟩ := Option.map_eq_some_iff.mp ha
    have hm := List.mem_of_getElem? hkd
    have h1 := nn_mem hm
    have h2 := nnAll_take ks i
    have hi := (List.getElem?_eq_some_iff.mp hkd).1
    unfold pathD
    decreasing_trivial
    refine ⟨sz1000 (by simp; omega), ?_⟩
    rw [path_cat]
    decreasing_trivial
    refine ⟨kd, q ++ [i], rfl, ⟨hk kd hm, by omega, by simp; omega⟩, ?_⟩
    decreasing_trivial
    refine ⟨?_, ?_⟩
    · simp only [List.length_map, pls_len, List.length_cons, plcAll_len (n := n) _ (fun x hx => hk x (List.mem_of_mem_take hx)), plc_len (hk kd hm)]
      exact sz1000 (by omega)
    · have e : pls q ([] :: plcAll 0 (ks.take i)) ++ pls (q ++ [i]) (plc kd) = pls q ([] :: plcAll 0 (ks.take (i + 1))) := by
        rw [pls_kid, ← pls_app, List.take_add_one, hkd, plcAll_app, List.cons_append]
        show pls q ([] :: (plcAll 0 (ks.take i) ++ _)) = pls q ([] :: (plcAll 0 (ks.take i) ++ plcAll (0 + (ks.take i).length) [kd]))
        rw [plcAll_one, List.length_take, show 0 + min i ks.length = i by omega]
      rw [e]
      exact hN _ _ ⟨rfl, _, _, rfl⟩
  · obtain ⟨rfl, y, z, rfl⟩ := c
    rw [List.length_map, List.take_length]
    exact h3
theorem ok_places {f : Addr} {fd : FuncData} (F : Fun K "_law_places" "_law_places" sPlaces f fd) (mF : mg "_law_places" = some (.ref f)) (T : Bl mg) : ∀ n, FnOk P w K mg base CX0 n f fd ["_law_tree_here", "_law_path"] (spD K 2 (tfPls n))
  | 0 => no0 fun ws M R RX ⟨_, _, _, ⟨h, _⟩, _⟩ => h
  | n + 1 => ok_places1 F ⟨f, fd, ok_places F mF T n, mF, F.kp, F.binds (ps := ["_law_tree_here", "_law_path"]) fun _ _ _ _ _ _ us hl => match us, hl with | [_, _], _ => rfl⟩ T
end
end Tl
set_option Elab.async false
set_option linter.all false
set_option maxRecDepth 100000
set_option maxHeartbeats 4000000
/-! Deeds on trees that are data; trees of lists that may change. -/
namespace Tl
open PySem L2
/-! ### trees that are data -/
def kidD (d : PyData) (n : Nat) : PyData := (kidsD d).getD n .none
/-- a run of kids for many kids -/
def runD (at_ many : Nat) (run : List PyData) : PyData → PyData
  | .tuple [s, .tuple ks] => .tuple [s, .tuple (ks.take at_ ++ run ++ ks.drop (at_ + many))]
  | d => d
/-- another part at a place -/
def repl : List Nat → PyData → PyData → PyData
  | [], _, e => e
  | n :: q, d, e => runD n 1 [repl q (kidD d n) e] d
def partD (d : PyData) (q : List Nat) : PyData := (sub d q).getD .none
def runAt (d : PyData) (q : List Nat) (at_ many : Nat) (run : List PyData) : PyData := repl q d (runD at_ many run (partD d q))
/-- where a place stands behind a part taken out -/
def bo : List Nat → List Nat → List Nat
  | o, [] => o
  | [], _ => []
  | j :: o, [i] => if i < j then (j - 1) :: o else j :: o
  | j :: o, i :: k :: p => if j = i then j :: bo o (k :: p) else j :: o
/-- deeds -/
inductive Deed where
  | name (q : List Nat) (t : Str)
  | put (q : List Nat) (n : Nat) (e : PyData)
  | out (q : List Nat)
  | move (q o : List Nat) (n : Nat)
  | swap (q o : List Nat)
  | wrap (q : List Nat) (n m : Nat) (t : Str)
  | unwrap (q : List Nat)
def Deed.d : Deed → PyData
  | .name q t => .tuple [.str "name", pathD q, .str t]
  | .put q n e => .tuple [.str "put", pathD q, .int n, e]
  | .out q => .tuple [.str "out", pathD q]
  | .move q o n => .tuple [.str "move", pathD q, pathD o, .int n]
  | .swap q o => .tuple [.str "swap", pathD q, pathD o]
  | .wrap q n m t => .tuple [.str "wrap", pathD q, .int n, .int m, .str t]
  | .unwrap q => .tuple [.str "unwrap", pathD q]
def outD (d : PyData) (q : List Nat) : PyData := runAt d q.dropLast (q.getLastD 0) 1 []
/-- the tree behind a deed -/
def chg (d : PyData) : Deed → PyData
  | .name q t => repl q d (.tuple [.str t, .tuple (kidsD (partD d q))])
  | .put q n e => runAt d q n 0 [e]
  | .out q => outD d q
  | .move q o n => runAt (outD d q) (bo o q) n 0 [partD d q]
  | .swap q o => repl o (repl q d (partD d o)) (partD d q)
  | .wrap q n m t => runAt d q n m [.tuple [.str t, .tuple (((kidsD (partD d q)).drop n).take m)]]
  | .unwrap q => runAt d q.dropLast (q.getLastD 0) 1 (kidsD (partD d q))
theorem runD_node (s : PyData) (ks run : List PyData) (n m : Nat) : runD n m run (.tuple [s, .tuple ks]) = .tuple [s, .tuple (ks.take n ++ run ++ ks.drop (n + m))] := rfl
theorem kidsD_node (s : PyData) (ks : List PyData) : kidsD (.tuple [s, .tuple ks]) = ks := rfl
theorem partD_of {d e : PyData} {q : List Nat} (h : sub d q = some e) : partD d q = e := by rw [partD, h]; rfl
/-! ### trees of lists that may change -/
/-- a: the list of number, tag and kids; b: the list of kids -/
inductive AT where
  | node (a b : Addr) (n : Int) (t : PyData) (ks : List AT)
def AT.root : AT → Addr
  | .node a _ _ _ _ => a
def AT.box : AT → Addr
  | .node _ b _ _ _ => b
def AT.kids : AT → List AT
  | .node _ _ _ _ ks => ks
def AT.num : AT → Int
  | .node _ _ n _ _ => n
def AT.tag : AT → PyData
  | .node _ _ _ t _ => t
mutual
/-- told as data, by a word for each place -/
def AT.tel (fl : Int → PyData → PyData) : AT → PyData
  | .node _ _ n t ks => .tuple [fl n t, .tuple (tels fl ks)]
def tels (fl : Int → PyData → PyData) : List AT → List PyData
  | [] => []
  | k :: ks => k.tel fl :: tels fl ks
end
variable {fl : Int → PyData → PyData}
mutual
def AT.adr : AT → List Addr
  | .node a b _ _ ks => a :: b :: adrs ks
def adrs : List AT → List Addr
  | [] => []
  | k :: ks => k.adr ++ adrs ks
end
def rootsW (ks : List AT) : List W := ks.map fun k => .r k.root
mutual
def AT.ok (M : Mem) : AT → Prop
  | .node a b n t ks => M a = some (.lst [.d (.int n), .d t, .r b]) ∧ M b = some (.lst (rootsW ks)) ∧ oks M ks
def oks (M : Mem) : List AT → Prop
  | [] => True
  | k :: ks => k.ok M ∧ oks M ks
end
theorem tels_map : ∀ ks : List AT, tels fl ks = ks.map (AT.tel fl)
  | [] => by rw [tels]; rfl
  | k :: ks => by rw [tels, tels_map ks]; rfl
theorem still_node (a b : Addr) (n : Int) (t : PyData) (ks : List AT) : (AT.node a b n t ks).tel fl = .tuple [fl n t, .tuple (ks.map (AT.tel fl))] := by rw [AT.tel, tels_map]
theorem adrs_app : ∀ a b : List AT, adrs (a ++ b) = adrs a ++ adrs b
  | [], b => by rw [adrs]; rfl
  | k :: a, b => by rw [List.cons_append, adrs, adrs, adrs_app a b, List.append_assoc]
theorem adrs_mem : ∀ {ks : List AT} {k : AT} {x : Addr}, k ∈ ks → x ∈ k.adr → x ∈ adrs ks
  | k' :: ks, k, x, h, hx => by
    rw [adrs, List.mem_append]
    rcases List.mem_cons.mp h with rfl | h
    · exact .inl hx
    · exact .inr (adrs_mem h hx)
theorem mem_adrs : ∀ {ks : List AT} {x : Addr}, x ∈ adrs ks → ∃ k ∈ ks, x ∈ k.adr
  | [], x, h => by rw [adrs] at h; cases h
  | k :: ks, x, h => by
    rw [adrs, List.mem_append] at h
    rcases h with h | h
    · exact ⟨k, .head _, h⟩
    · obtain ⟨z, h1, h2⟩ := mem_adrs h
      exact ⟨z, .tail _ h1, h2⟩
theorem oks_iff {M : Mem} : ∀ {ks : List AT}, oks M ks ↔ ∀ k ∈ ks, k.ok M
  | [] => by rw [oks]; exact ⟨fun _ k h => (by cases h), fun _ => trivial⟩
  | k :: ks => by
    rw [oks, oks_iff (ks := ks)]
    exact ⟨fun h z hz => by
      rcases List.mem_cons.mp hz with rfl | hz
      · exact h.1
      · exact h.2 z hz, fun h => ⟨h k (.head _), fun z hz => h z (.tail _ hz)⟩⟩
mutual
theorem AT.ok.same {M M' : Mem} : ∀ {T : AT}, T.ok M → (∀ x ∈ T.adr, M' x = M x) → T.ok M'
  | .node a b n t ks, h, e => by
    rw [AT.ok] at h ⊢
    rw [AT.adr] at e
    exact ⟨by rw [e a (.head _)]; exact h.1, by rw [e b (.tail _ (.head _))]; exact h.2.1, oks_same h.2.2 fun x hx => e x (.tail _ (.tail _ hx))⟩
theorem oks_same {M M' : Mem} : ∀ {ks : List AT}, oks M ks → (∀ x ∈ adrs ks, M' x = M x) → oks M' ks
  | [], _, _ => by rw [oks]; trivial
  | k :: ks, h, e => by
    rw [oks] at h ⊢
    rw [adrs] at e
    exact ⟨AT.ok.same h.1 fun x hx => e x (List.mem_append.mpr (.inl hx)), oks_same h.2 fun x hx => e x (List.mem_append.mpr (.inr hx))⟩
end
/-- the tree at a place -/
def AT.at_ : List Nat → AT → Option AT
  | [], T => some T
  | i :: q, T => match T.kids[i]? with
    | some k => k.at_ q
    | none => none
def AT.withKids (T : AT) (ks : List AT) : AT := .node T.root T.box T.num T.tag ks
/-- another tree at a place -/
def AT.put : List Nat → AT → AT → AT
  | [], _, s => s
  | i :: q, T, s => match T.kids[i]? with
    | some k => T.withKids (T.kids.take i ++ [k.put q s] ++ T.kids.drop (i + 1))
    | none => T
/-- what a tree is made of, but for what stands at a place -/
def AT.ctx : List Nat → AT → List Addr
  | [], _ => []
  | i :: q, T => T.root :: T.box :: (match T.kids[i]? with
    | some k => adrs (T.kids.take i) ++ k.ctx q ++ adrs (T.kids.drop (i + 1))
    | none => [])
theorem at_nil (T : AT) : T.at_ [] = some T := by rw [AT.at_]
theorem at_cons {i : Nat} {q : List Nat} {T s : AT} : T.at_ (i :: q) = some s ↔ ∃ k, T.kids[i]? = some k ∧ k.at_ q = some s := by
  rw [AT.at_]
  cases c : T.kids[i]? with
  | none => exact ⟨fun h => (by cases h), fun ⟨k, h, _⟩ => (by cases h)⟩
  | some k => exact ⟨fun h => ⟨k, rfl, h⟩, fun ⟨z, h, q⟩ => (by cases h; exact q)⟩
theorem split3 {α : Type} {l : List α} {i : Nat} {x : α} (h : l[i]? = some x) : l = l.take i ++ [x] ++ l.drop (i + 1) := by
  have hi : i < l.length := (List.getElem?_eq_some_iff.mp h).1
  have e : l[i] = x := (List.getElem?_eq_some_iff.mp h).2
  rw [List.append_assoc, ← e, List.singleton_append, ← List.drop_eq_getElem_cons hi, List.take_append_drop]
theorem at_snoc {p : List Nat} {i : Nat} {T s : AT} (h : T.at_ (p ++ [i]) = some s) : ∃ e, T.at_ p = some e ∧ e.kids[i]? = some s := by
  induction p generalizing T with
  | nil =>
    obtain ⟨k, h1, h2⟩ := at_cons.mp h
    rw [at_nil] at h2
    cases h2
    exact ⟨T, at_nil T, h1⟩
  | cons j p ih =>
    obtain ⟨k, h1, h2⟩ := at_cons.mp h
    obtain ⟨e, h3, h4⟩ := ih h2
    exact ⟨e, at_cons.mpr ⟨k, h1, h3⟩, h4⟩
theorem still_eta (T : AT) : T.tel fl = .tuple [fl T.num T.tag, .tuple (T.kids.map (AT.tel fl))] := by
  cases T
  exact still_node ..
theorem adr_eta (T : AT) : T.adr = T.root :: T.box :: adrs T.kids := by
  cases T
  rw [AT.adr]
  rfl
theorem ok_eta {M : Mem} {T : AT} : T.ok M ↔ M T.root = some (.lst [.d (.int T.num), .d T.tag, .r T.box]) ∧ M T.box = some (.lst (rootsW T.kids)) ∧ oks M T.kids := by
  cases T
  rw [AT.ok]
  rfl
theorem sub_still : ∀ {q : List Nat} {T : AT}, sub (T.tel fl) q = (T.at_ q).map (AT.tel fl)
  | [], T => by rw [sub_nil, at_nil]; rfl
  | i :: q, T => by
    rw [still_eta, sub_node, AT.at_, List.getElem?_map]
    cases c : T.kids[i]? with
    | none => rfl
    | some k => exact sub_still
theorem still_put : ∀ {q : List Nat} {T s u : AT}, T.at_ q = some u → (T.put q s).tel fl = repl q (T.tel fl) (s.tel fl)
  | [], T, s, u, _ => by rw [AT.put, repl]
  | i :: q, T, s, u, h => by
    obtain ⟨k, h1, h2⟩ := at_cons.mp h
    have hk : kidD (T.tel fl) i = k.tel fl := by rw [still_eta, kidD, kidsD_node, List.getD_eq_getElem?_getD, List.getElem?_map, h1]; rfl
    rw [AT.put, h1, repl, hk, ← still_put h2]
    conv => rhs; rw [still_eta T]
    show (T.withKids _).tel fl = _
    rw [runD_node, AT.withKids, still_node, List.map_append, List.map_append, List.map_take, List.map_drop]
    rfl
theorem adr_ctx : ∀ {q : List Nat} {T s : AT}, T.at_ q = some s → T.adr.Perm (T.ctx q ++ s.adr)
  | [], T, s, h => by rw [at_nil] at h; cases h; rw [AT.ctx]; exact .refl _
  | i :: q, T, s, h => by
    obtain ⟨k, h1, h2⟩ := at_cons.mp h
    rw [AT.ctx, h1, adr_eta]
    show (T.root :: T.box :: adrs T.kids).Perm (T.root :: T.box :: (adrs (T.kids.take i) ++ k.ctx q ++ adrs (T.kids.drop (i + 1)) ++ s.adr))
    refine .cons _ (.cons _ ?_)
    conv => lhs; rw [split3 h1, adrs_app, adrs_app, adrs, adrs, List.append_nil]
    rw [List.append_assoc, List.append_assoc, List.append_assoc]
    refine List.Perm.append_left _ ?_
    refine ((adr_ctx h2).append_right _).trans ?_
    rw [List.append_assoc]
    exact List.Perm.append_left _ List.perm_append_comm
theorem put_at : ∀ {q : List Nat} {T s u : AT}, T.at_ q = some u → (T.put q s).at_ q = some s
  | [], T, s, u, _ => by rw [AT.put, at_nil]
  | i :: q, T, s, u, h => by
    obtain ⟨k, h1, h2⟩ := at_cons.mp h
    have hi : i < T.kids.length := (List.getElem?_eq_some_iff.mp h1).1
    rw [AT.put, h1]
    refine at_cons.mpr ⟨k.put q s, ?_, put_at h2⟩
    show (T.kids.take i ++ [k.put q s] ++ T.kids.drop (i + 1))[i]? = _
    rw [List.append_assoc, List.getElem?_append_right (by rw [List.length_take]; omega), List.length_take, Nat.min_eq_left (by omega), Nat.sub_self]
    rfl
theorem put_ctx : ∀ {q : List Nat} {T s u : AT}, T.at_ q = some u → (T.put q s).ctx q = T.ctx q
  | [], T, s, u, _ => by rw [AT.ctx, AT.ctx]
  | i :: q, T, s, u, h => by
    obtain ⟨k, h1, h2⟩ := at_cons.mp h
    have hi : i < T.kids.length := (List.getElem?_eq_some_iff.mp h1).1
    have hl : (T.kids.take i).length = i := by rw [List.length_take]; omega
    have e : (T.kids.take i ++ [k.put q s] ++ T.kids.drop (i + 1))[i]? = some (k.put q s) := by
      rw [List.append_assoc, List.getElem?_append_right (by omega), hl, Nat.sub_self]
      rfl
    have e1 : (T.kids.take i ++ [k.put q s] ++ T.kids.drop (i + 1)).take i = T.kids.take i := by
      rw [List.append_assoc, List.take_append_of_le_length (by omega), List.take_of_length_le (by omega)]
    have e2 : (T.kids.take i ++ [k.put q s] ++ T.kids.drop (i + 1)).drop (i + 1) = T.kids.drop (i + 1) := by
      rw [List.drop_append_of_le_length (by rw [List.length_append, hl]; exact Nat.le_refl _), List.drop_of_length_le (by rw [List.length_append, hl]; exact Nat.le_refl _)]
      rfl
    rw [AT.put, h1]
    show (T.withKids _).ctx (i :: q) = _
    rw [AT.ctx, AT.ctx, h1, show ∀ ks, (T.withKids ks).kids = ks from fun _ => rfl, e, e1, e2]
    show _ :: _ :: (_ ++ (k.put q s).ctx q ++ _) = _
    rw [put_ctx h2]
    rfl
theorem adr_put {q : List Nat} {T s u : AT} (h : T.at_ q = some u) : (T.put q s).adr.Perm (T.ctx q ++ s.adr) := by
  have := adr_ctx (put_at (s := s) h)
  rw [put_ctx h] at this
  exact this
theorem put_root : ∀ {q : List Nat} {T s u : AT}, T.at_ q = some u → s.root = u.root → (T.put q s).root = T.root
  | [], T, s, u, h, e => by rw [at_nil] at h; cases h; rw [AT.put]; exact e
  | i :: q, T, s, u, h, _ => by
    obtain ⟨k, h1, h2⟩ := at_cons.mp h
    rw [AT.put, h1]
    rfl
theorem at_ok {M : Mem} : ∀ {q : List Nat} {T s : AT}, T.ok M → T.at_ q = some s → s.ok M
  | [], T, s, h, e => by rw [at_nil] at e; cases e; exact h
  | i :: q, T, s, h, e => by
    obtain ⟨k, h1, h2⟩ := at_cons.mp e
    exact at_ok (oks_iff.mp (ok_eta.mp h).2.2 k (List.mem_of_getElem? h1)) h2
/-- a part changes in place -/
theorem put_ok {M M' : Mem} : ∀ {q : List Nat} {T s u : AT}, T.ok M → T.at_ q = some u → s.root = u.root → s.ok M' → (∀ x ∈ T.ctx q, M' x = M x) → (T.put q s).ok M'
  | [], T, s, u, _, _, _, hs, _ => by rw [AT.put]; exact hs
  | i :: q, T, s, u, h, e, er, hs, hc => by
    obtain ⟨k, h1, h2⟩ := at_cons.mp e
    obtain ⟨o1, o2, o3⟩ := ok_eta.mp h
    rw [AT.ctx, h1] at hc
    have hc2 : ∀ x, x ∈ adrs (T.kids.take i) ∨ x ∈ k.ctx q ∨ x ∈ adrs (T.kids.drop (i + 1)) → M' x = M x := fun x hx => hc x (.tail _ (.tail _ (by
      show x ∈ adrs (T.kids.take i) ++ k.ctx q ++ adrs (T.kids.drop (i + 1))
      rw [List.mem_append, List.mem_append]
      rcases hx with hx | hx | hx
      · exact .inl (.inl hx)
      · exact .inl (.inr hx)
      · exact .inr hx)))
    rw [AT.put, h1]
    refine ok_eta.mpr ⟨?_, ?_, oks_iff.mpr fun z hz => ?_⟩
    · show M' T.root = some (.lst [.d (.int T.num), .d T.tag, .r T.box])
      rw [hc _ (.head _)]
      exact o1
    · show M' T.box = some (.lst (rootsW (T.kids.take i ++ [k.put q s] ++ T.kids.drop (i + 1))))
      rw [hc _ (.tail _ (.head _)), o2]
      have : rootsW (T.kids.take i ++ [k.put q s] ++ T.kids.drop (i + 1)) = rootsW T.kids := by
        conv => rhs; rw [split3 h1]
        unfold rootsW
        rw [List.map_append, List.map_append, List.map_append, List.map_append, List.map_singleton, List.map_singleton, put_root h2 er]
      rw [this]
    · have hz' : z ∈ T.kids.take i ++ [k.put q s] ++ T.kids.drop (i + 1) := hz
      rw [List.mem_append, List.mem_append, List.mem_singleton] at hz'
      rcases hz' with (hz | rfl) | hz
      · exact (oks_iff.mp o3 z (List.mem_of_mem_take hz)).same fun x hx => hc2 x (.inl (adrs_mem hz hx))
      · exact put_ok (oks_iff.mp o3 k (List.mem_of_getElem? h1)) h2 er hs fun x hx => hc2 x (.inr (.inl hx))
      · exact (oks_iff.mp o3 z (List.mem_of_mem_drop hz)).same fun x hx => hc2 x (.inr (.inr (adrs_mem hz hx)))
/-- told by its tags -/
@[reducible] def tgF : Int → PyData → PyData := fun _ t => t
end Tl
set_option Elab.async false
set_option linter.all false
set_option maxRecDepth 100000
set_option maxHeartbeats 4000000
/-! Trees of lists that may change: changed in place. -/
namespace Tl
open PySem L2
theorem one_box {T u : AT} {q : List Nat} (hc : T.adr.count u.box ≤ 1) (h : T.at_ q = some u) : u.box ∉ T.ctx q ∧ u.root ≠ u.box ∧ u.box ∉ adrs u.kids := by
  have e := (adr_ctx h).count_eq u.box
  rw [List.count_append, adr_eta u, List.count_cons, List.count_cons_self] at e
  refine ⟨fun z => ?_, fun z => ?_, fun z => ?_⟩
  · have := List.count_pos_iff.mpr z
    omega
  · rw [z, beq_self_eq_true, if_pos rfl] at e
    omega
  · have := List.count_pos_iff.mpr z
    omega
theorem one_root {T u : AT} {q : List Nat} (hc : T.adr.count u.root ≤ 1) (h : T.at_ q = some u) : u.root ∉ T.ctx q ∧ u.root ≠ u.box ∧ u.root ∉ adrs u.kids := by
  have e := (adr_ctx h).count_eq u.root
  rw [List.count_append, adr_eta u, List.count_cons_self, List.count_cons] at e
  refine ⟨fun z => ?_, fun z => ?_, fun z => ?_⟩
  · have := List.count_pos_iff.mpr z
    omega
  · have y : (u.box == u.root) = true := by rw [z]; exact beq_self_eq_true _
    rw [if_pos y] at e
    omega
  · have := List.count_pos_iff.mpr z
    omega
theorem nd_one {T : AT} (h : T.adr.Nodup) (a : Addr) : T.adr.count a ≤ 1 := List.nodup_iff_count.mp h a
theorem setKids_ok {M : Mem} {T u : AT} {q : List Nat} {ks : List AT} (h : T.ok M) (e : T.at_ q = some u) (hc : T.adr.count u.box ≤ 1) (hk : oks M ks) (hb : u.box ∉ adrs ks) : (T.put q (u.withKids ks)).ok (mset M u.box (.lst (rootsW ks))) := by
  obtain ⟨h1, h2, h3⟩ := one_box hc e
  have hu := ok_eta.mp (at_ok h e)
  refine put_ok h e rfl (ok_eta.mpr ⟨?_, ?_, ?_⟩) fun x hx => mset_ne fun z => h1 (z ▸ hx)
  · show mset M u.box _ u.root = _
    rw [mset_ne h2]
    exact hu.1
  · exact mset_same
  · exact oks_same hk fun x hx => mset_ne fun z => hb (z ▸ hx)
theorem setTag_ok {M : Mem} {T u : AT} {q : List Nat} {t : PyData} (h : T.ok M) (e : T.at_ q = some u) (hc : T.adr.count u.root ≤ 1) : (T.put q (.node u.root u.box u.num t u.kids)).ok (mset M u.root (.lst [.d (.int u.num), .d t, .r u.box])) := by
  obtain ⟨h1, h2, h3⟩ := one_root hc e
  have hu := ok_eta.mp (at_ok h e)
  refine put_ok h e rfl (ok_eta.mpr ⟨?_, ?_, ?_⟩) fun x hx => mset_ne fun z => h1 (z ▸ hx)
  · exact mset_same
  · show mset M u.root _ u.box = _
    rw [mset_ne h2.symm]
    exact hu.2.1
  · exact oks_same hu.2.2 fun x hx => mset_ne fun z => h3 (z ▸ hx)
/-- alike but for the kids -/
structure Alk (a b : AT) : Prop where
  r : a.root = b.root
  x : a.box = b.box
  n : a.num = b.num
  t : a.tag = b.tag
theorem Alk.refl (a : AT) : Alk a a := ⟨rfl, rfl, rfl, rfl⟩
end Tl
set_option Elab.async false
set_option linter.all false
set_option maxRecDepth 100000
set_option maxHeartbeats 4000000
/-! Trees of lists that may change: parts moved and swapped in place. -/
set_option Elab.async false
set_option linter.all false
set_option maxRecDepth 100000
set_option maxHeartbeats 4000000
/-! Paths as data; what a deed needs; what refuses it. -/
namespace Tl
open PySem L2
theorem eqv_ints : ∀ a b : List Nat, PyData.eqvAll (a.map fun n : Nat => .int (n : Int)) (b.map fun n : Nat => .int (n : Int)) = decide (a = b)
  | [], [] => rfl
  | [], _ :: _ => rfl
  | _ :: _, [] => rfl
  | x :: a, y :: b => by
    rw [List.map_cons, List.map_cons, PyData.eqvAll, eqv_ints a b]
    show (((x : Int) == (y : Int)) && _) = _
    by_cases h : x = y
    · subst h
      by_cases g : a = b
      · subst g; simp
      · rw [decide_eq_false g, Bool.and_false, decide_eq_false fun z => g (List.cons.inj z).2]
    · have : ((x : Int) == (y : Int)) = false := beq_eq_false_iff_ne.mpr fun z => h (Int.ofNat.inj z)
      rw [this, Bool.false_and, decide_eq_false fun z => h (List.cons.inj z).1]
theorem eqv_path (a b : List Nat) : PyData.eqv (pathD a) (pathD b) = decide (a = b) := by
  unfold pathD
  rw [PyData.eqv, eqv_ints]
theorem ints_ok : ∀ a : List Nat, PyData.hasDictAll (a.map fun n : Nat => .int (n : Int)) = false ∧ PyData.canLayAll0 (a.map fun n : Nat => .int (n : Int)) = true ∧ PyData.depthAll (a.map fun n : Nat => .int (n : Int)) = 0
  | [] => ⟨rfl, rfl, rfl⟩
  | x :: a => by
    obtain ⟨h1, h2, h3⟩ := ints_ok a
    rw [List.map_cons, PyData.hasDictAll, PyData.canLayAll0, PyData.depthAll, h1, h2, h3]
    exact ⟨rfl, rfl, rfl⟩
theorem eqOk_path (a : List Nat) : eqOk (pathD a) = true := by
  obtain ⟨h1, h2, h3⟩ := ints_ok a
  unfold eqOk SeqAt.shaped pathD
  rw [PyData.hasDict, PyData.canLay0, PyData.depth, h1, h2, h3]
  decide
theorem eqOk_paths (as : List (List Nat)) : eqOk (.list (as.map pathD)) = true := by
  have : ∀ as : List (List Nat), PyData.hasDictAll (as.map pathD) = false ∧ PyData.canLayAll0 (as.map pathD) = true ∧ PyData.depthAll (as.map pathD) ≤ 1 := fun as => by
    induction as with
    | nil => exact ⟨rfl, rfl, by decide⟩
    | cons a as ih =>
      obtain ⟨h1, h2, h3⟩ := ih
      obtain ⟨g1, g2, g3⟩ := ints_ok a
      have e1 : (pathD a).hasDict = false := by unfold pathD; rw [PyData.hasDict, g1]
      have e2 : (pathD a).canLay0 = true := by unfold pathD; rw [PyData.canLay0, g2]
      have e3 : (pathD a).depth = 1 := by unfold pathD; rw [PyData.depth, g3]
      rw [List.map_cons, PyData.hasDictAll, PyData.canLayAll0, PyData.depthAll, h1, h2, e1, e2, e3]
      exact ⟨rfl, rfl, by omega⟩
  obtain ⟨h1, h2, h3⟩ := this as
  unfold eqOk SeqAt.shaped
  rw [PyData.hasDict, PyData.canLay0, PyData.depth, h1, h2, decide_eq_true (by omega)]
  rfl
/-- t is the beginning of p -/
def pre (t p : List Nat) : Bool := decide (p.take t.length = t)
/-! ### what a deed is made of -/
def pathOk (q : List Nat) : Prop := q.length < 12 ∧ ∀ i ∈ q, i ≤ 59
def Deed.Ok : Deed → Prop
  | .name q t => pathOk q ∧ isTag (.str t) = true
  | .put q n e => pathOk q ∧ n ≤ 60 ∧ TrT 12 e ∧ nn e ≤ 60
  | .out q => pathOk q
  | .move q o n => pathOk q ∧ pathOk o ∧ n ≤ 60
  | .swap q o => pathOk q ∧ pathOk o
  | .wrap q n m t => pathOk q ∧ n ≤ 60 ∧ m ≤ 60 ∧ isTag (.str t) = true
  | .unwrap q => pathOk q
def Deed.root : Deed → Bool
  | .out q => q.isEmpty
  | .unwrap q => q.isEmpty
  | .move q _ _ => q.isEmpty
  | .swap q o => q.isEmpty || o.isEmpty
  | _ => false
def kidsN (d : PyData) (q : List Nat) : Nat := (kidsD (partD d q)).length
def Deed.far (d : PyData) : Deed → Option (List Nat)
  | .put q n _ => if kidsN d q < n then some (q ++ [n]) else none
  | .wrap q n m _ => if kidsN d q < n + m then some (q ++ [n + m]) else none
  | .move q o n => if ((kidsN d o : Nat) : Int) - (if q.dropLast = o then 1 else 0) < n then some (o ++ [n]) else none
  | _ => none
theorem sub_len : ∀ {q : List Nat} {n : Nat} {d e : PyData}, TrT n d → sub d q = some e → q.length < n := fun h e => (sub_tr h e).2.1
theorem path_txt (q : List Nat) : txt (pathD q) = true := by
  unfold pathD
  rw [txt]
  induction q with
  | nil => rfl
  | cons i q ih => rw [List.map_cons, txtAll, ih]; rfl
end Tl
set_option Elab.async false
set_option linter.all false
set_option maxRecDepth 100000
set_option maxHeartbeats 4000000
/-! Trees behind deeds: their levels, places. -/
namespace Tl
open PySem L2
/-- each tree that is data is told by some tree of lists -/
theorem at_of : ∀ {n : Nat} {d : PyData}, TrT n d → ∃ T : AT, (T.tel tgF) = d
  | 0, _, h => h.elim
  | n + 1, d, h => by
    obtain ⟨s, ks, rfl, _, hk⟩ := h
    have : ∀ l : List PyData, (∀ k ∈ l, k ∈ ks) → ∃ ts : List AT, ts.map (AT.tel tgF) = l := fun l => by
      induction l with
      | nil => exact fun _ => ⟨[], rfl⟩
      | cons k l ih =>
        intro h
        obtain ⟨ts, e⟩ := ih fun z hz => h z (.tail _ hz)
        obtain ⟨t, e2⟩ := at_of (hk k (h k (.head _)))
        exact ⟨t :: ts, by rw [List.map_cons, e, e2]⟩
    obtain ⟨ts, e⟩ := this ks fun _ h => h
    exact ⟨.node default default 0 (.str s) ts, by rw [still_node, e]⟩
theorem nnAll_cat (a b : List PyData) : nnAll (a ++ b) = nnAll a + nnAll b := nnAll_app a b
theorem sub_snoc {d e : PyData} {r : List Nat} {i n : Nat} (h : TrT n d) (hs : sub d (r ++ [i]) = some e) : ∃ s ks, sub d r = some (.tuple [.str s, .tuple ks]) ∧ ks[i]? = some e ∧ isTag (.str s) = true := by
  obtain ⟨T, rfl⟩ := at_of h
  rw [sub_still] at hs
  obtain ⟨t, ht, rfl⟩ := Option.map_eq_some_iff.mp hs
  obtain ⟨u, h1, h2⟩ := at_snoc ht
  have hu : sub (T.tel tgF) r = some (u.tel tgF) := by rw [sub_still, h1]; rfl
  obtain ⟨g1, g2, _⟩ := sub_tr h hu
  obtain ⟨k, hk⟩ : ∃ k, n - r.length = k + 1 := ⟨n - r.length - 1, by omega⟩
  rw [hk] at g1
  obtain ⟨s, ks, e2, a, b⟩ := g1
  refine ⟨s, ks, by rw [hu, e2], ?_, a⟩
  rw [still_eta u] at e2
  injection e2 with e2
  simp only [List.cons.injEq, PyData.tuple.injEq, and_true] at e2
  rw [← e2.2, List.getElem?_map, h2]
  rfl
theorem node_at {n : Nat} {d e : PyData} {q : List Nat} (h : TrT n d) (hs : sub d q = some e) : ∃ (s : Str) (ks : List PyData), e = .tuple [.str s, .tuple ks] ∧ q.length < n ∧ 1 + nnAll ks ≤ nn d ∧ (∀ k ∈ ks, TrT (n - q.length - 1) k) ∧ isTag (.str s) = true := by
  obtain ⟨h1, h2, h3⟩ := sub_tr h hs
  obtain ⟨k, hk⟩ : ∃ k, n - q.length = k + 1 := ⟨n - q.length - 1, by omega⟩
  rw [hk] at h1
  obtain ⟨s, ks, rfl, a, b⟩ := h1
  rw [nn] at h3
  exact ⟨s, ks, rfl, h2, h3, fun z hz => by rw [hk]; exact b z hz, a⟩
theorem nnAll_one (x : PyData) : nnAll [x] = nn x := by rw [nnAll, nnAll]; rfl
end Tl
set_option Elab.async false
set_option linter.all false
set_option maxRecDepth 100000
set_option maxHeartbeats 8000000
namespace Tl
open PySem L2 RZ
local macro_rules
  | `(tactic| decreasing_trivial) => `(tactic| ((with_reducible (conv => whnf)); (repeat ((first | (with_reducible refine gDs_c ?_) | (with_reducible refine gDs_n ?_) | (with_reducible refine gNs_c ?_) | (with_reducible refine gNs_n ?_) | (with_reducible refine gO_i tyAny_lt ?_) | (with_reducible refine gIs_c ?_) | (with_reducible refine gIs_n ?_) | (with_reducible refine gBs_c ?_) | (with_reducible refine gBs_n ?_) | (with_reducible refine gSs_c ?_) | (with_reducible refine gSs_n ?_) | (with_reducible refine gO_i tyIs_int ?_) | (with_reducible refine gO_i tyIs_bool ?_) | (with_reducible refine gO_i tyIs_str ?_) | (with_reducible refine gO_i tyIs_tuple ?_) | (with_reducible refine gO_i tyIs_list ?_) | (with_reducible refine gDs_i ?_) | (with_reducible refine gO_i (Eq.refl _) ?_) | (with_reducible refine gO_i (by assumption) ?_) | (with_reducible refine gO_i at_0 ?_) | (with_reducible refine gO_i at_m0 ?_) | (with_reducible refine gO_i at_1 ?_) | (with_reducible refine gO_i at_m1 ?_) | (with_reducible refine gO_i at_2 ?_) | (with_reducible refine gO_i at_m2 ?_) | (with_reducible refine gO_i at_3 ?_) | (with_reducible refine gO_i at_m3 ?_) | (with_reducible refine gO_i at_4 ?_) | (with_reducible refine gO_i at_m4 ?_) | (with_reducible refine gO_i at_5 ?_) | (with_reducible refine gO_i at_m5 ?_) | (with_reducible refine gO_i at_6 ?_) | (with_reducible refine gO_i at_m6 ?_) | (with_reducible refine gO_i at_7 ?_) | (with_reducible refine gO_i at_m7 ?_) | (with_reducible refine IfB.ngf ?_) | (with_reducible refine IfB.ngt ?_) | (with_reducible refine IfB.not ?_) | (with_reducible refine IfB.nil ?_) | (with_reducible refine IfB.nilT ?_) | (with_reducible refine IfB.f isE_c ?_) | (with_reducible refine IfB.t isE_n ?_) | (with_reducible refine IfB.t ?gha ?_; (case gha => rfl)) | (with_reducible refine IfB.f ?gha ?_; (case gha => rfl)) | (with_reducible refine IfB.t ?gha ?_; (case gha => assumption)) | (with_reducible refine IfB.f ?gha ?_; (case gha => assumption)) | (with_reducible refine IfB.yes (Eq.refl _) ?_) | (with_reducible refine IfB.yes ?gha ?_; (case gha => (first | omega | (simp only [len_c, len_n, List.length_map]; omega)))) | (with_reducible refine IfB.no ?gha ?_; (case gha => (first | omega | (simp only [len_c, len_n, List.length_map]; omega)))) | (with_reducible refine IfB.t ?gha ?_; (case gha => decide +kernel)) | (with_reducible refine IfB.f ?gha ?_; (case gha => decide +kernel))); (with_reducible (conv => whnf))))))
local macro_rules
  | `(tactic| decreasing_trivial_pre_omega) => `(tactic| (decreasing_trivial; (repeat ((first | ((with_reducible refine And.intro ?gha ?_); (case gha => (first | assumption | omega | exact rfl | (exact mset_same) | (exact ⟨_, mset_same⟩) | (exact Exists.intro _ (by first | exact mset_same | assumption | (rw [mset_ne (by assumption)]; first | exact mset_same | assumption))) | (exact sm_of (by omega) (by omega)) | (exact sz1000 (by first | omega | (simp; done) | (simp; omega))) | (exact Or.inl ⟨by decide, by decide⟩) | decide | (simp; done) | (refine ⟨?_, ?_⟩ <;> (first | assumption | omega | exact rfl | (exact mset_same) | (exact ⟨_, mset_same⟩) | (exact Exists.intro _ (by first | exact mset_same | assumption | (rw [mset_ne (by assumption)]; first | exact mset_same | assumption))) | (exact sm_of (by omega) (by omega)) | (exact sz1000 (by first | omega | (simp; done) | (simp; omega))) | (exact Or.inl ⟨by decide, by decide⟩) | decide | (simp; done))) | (refine ⟨?_, ?_, ?_⟩ <;> (first | assumption | omega | exact rfl | (exact mset_same) | (exact ⟨_, mset_same⟩) | (exact Exists.intro _ (by first | exact mset_same | assumption | (rw [mset_ne (by assumption)]; first | exact mset_same | assumption))) | (exact sm_of (by omega) (by omega)) | (exact sz1000 (by first | omega | (simp; done) | (simp; omega))) | (exact Or.inl ⟨by decide, by decide⟩) | decide | (simp; done))) | (refine ⟨?_, ?_, ?_, ?_⟩ <;> (first | assumption | omega | exact rfl | (exact mset_same) | (exact ⟨_, mset_same⟩) | (exact Exists.intro _ (by first | exact mset_same | assumption | (rw [mset_ne (by assumption)]; first | exact mset_same | assumption))) | (exact sm_of (by omega) (by omega)) | (exact sz1000 (by first | omega | (simp; done) | (simp; omega))) | (exact Or.inl ⟨by decide, by decide⟩) | decide | (simp; done)))))) | (with_reducible refine exW (by first | exact mset_same | assumption | (rw [mset_ne (by assumption)]; first | exact mset_same | assumption)) ?_)); decreasing_trivial))))
abbrev sI_NoPlace : Stmt := inClsN (top 7) 0
theorem scI_NoPlace : FnScope ["self", "path"] ["self", "path"] (defScope sI_NoPlace) := ⟨rfl, rfl, rfl, by decide +kernel, rfl, by decide +kernel, by decide +kernel⟩
theorem okI_NoPlace {P : Program} {w : World} {K : PySem.W.Frag} {mg : Str → Option Value} {base : Heap} {f C : Addr} {fd : FuncData} {k : Nat} (F : Fun K "__init__" "NoPlace.__init__" sI_NoPlace f fd) (o : OexC K C) (n : PySem.W.findIn K (.ref C) "path" = some none) : FnOk P w K mg base CX0 (k + 1) f fd ["self", "path"] (spInitF K C "path") := by
  refine F.ok scI_NoPlace (fun vs H Q E h => ?_) (fun cdv A outer s H vs Q E hr h => ?_)
  · obtain ⟨_, _, rfl, _⟩ := h
    rfl
  obtain ⟨a, v, rfl, ha, q⟩ := h
  exact ⟨_, pss_one (ps_ost (pv 0) (pv 1)), _, rfl, _, rfl, a, C, rfl, o, n, .inl ⟨ha, fun dx h1 h2 => q dx h1 h2⟩⟩
@[reducible] def tfChkPl (cN cP : Addr) : TF := fun ws M R RX => ∃ (d x : PyData) (n : Nat), ws = [.d d, .d x] ∧ (TrT n d ∧ txt x = true) ∧ (isPath x = false → RX ⟨.ref cN, []⟩ M) ∧ (∀ q, x = pathD q → pathOk q → sub d q = none → RX ⟨.ref cP, [("path", pathD q)]⟩ M) ∧ (∀ q e, x = pathD q → pathOk q → sub d q = some e → R (.d .none) M)
theorem tr_some {n : Nat} {d e : PyData} {q : List Nat} (h : TrT n d) (hs : sub d q = some e) : e ≠ .none := fun z => by
  obtain ⟨s, ks, h1, _⟩ := node_at h hs
  rw [z] at h1
  cases h1
theorem isN_no {d : PyData} (h : d ≠ .none) : isN (W.d d) = some false := by
  cases d with
  | none => exact absurd rfl h
  | _ => rfl
/-- a path that is one -/
theorem path_of {d : PyData} (h : isPath d = true) : ∃ q, d = pathD q ∧ pathOk q := by
  cases d with
  | tuple ds =>
    rw [isPath, Bool.and_eq_true] at h
    have h1 := of_decide_eq_true h.1
    have h2 := List.all_eq_true.mp h.2
    have : ∀ l : List PyData, (∀ x ∈ l, isNum 59 x = true) → ∃ q : List Nat, l = q.map (fun n : Nat => PyData.int (n : Int)) ∧ ∀ i ∈ q, i ≤ 59 := fun l => by
      induction l with
      | nil => exact fun _ => ⟨[], rfl, fun i hi => by cases hi⟩
      | cons x l ih =>
        intro h
        obtain ⟨q, rfl, hq⟩ := ih fun z hz => h z (.tail _ hz)
        have hx := h x (.head _)
        cases x with
        | int i =>
          rw [isNum, Bool.and_eq_true] at hx
          have c1 := of_decide_eq_true hx.1
          have c2 := of_decide_eq_true hx.2
          exact ⟨i.toNat :: q, by rw [List.map_cons, show ((i.toNat : Nat) : Int) = i by omega], fun j hj => by
            rcases List.mem_cons.mp hj with rfl | hj
            · omega
            · exact hq j hj⟩
        | _ => cases hx
    obtain ⟨q, rfl, hq⟩ := this ds h2
    exact ⟨q, rfl, by rw [List.length_map] at h1; exact h1, hq⟩
  | _ => cases h
@[reducible] def tfWithin : TF := fun ws M R _ => ∃ p t : List Nat, ws = [.d (pathD p), .d (pathD t)] ∧ (p.length ≤ 1000 ∧ t.length ≤ 1000) ∧ R (.d (.bool (pre t p))) M
section
variable {P : Program} {w : World} {K : PySem.W.Frag} {mg : Str → Option Value} {base : Heap}
abbrev sIsPath : Stmt := top 15
theorem scIsPath : FnScope ["thing", "step"] ["thing"] (defScope sIsPath) := ⟨rfl, rfl, rfl, by decide +kernel, rfl, by decide +kernel, by decide +kernel⟩
theorem ok_path {f : Addr} {fd : FuncData} {k j : Nat} (F : Fun K "is_path" "is_path" sIsPath f fd) (Uis_number : Use P w K mg base "is_number" ["thing", "most"] j (spD K 2 (tfB2 isNum))) (hj : j ≤ k) (T : Bl mg) (C : Cs mg) : FnOk P w K mg base CX0 (k + 1) f fd ["thing"] (spD K 1 (tfB isPath)) := by
  refine okD F scIsPath rfl fun cdv A outer s H E hr => ?_
  refine ⟨_, _, (pss_cons (ps_if (PW.pt (pw_or (pt_not (pt_val (pe_callB (r := rIsi K) call_isi (by rfl) T.isi PyProof.Rows.boot_isinstance (pa_cons (pv 0) (pa_cons (b_tuple T) pa_nil))))) (pw_or1 (pt_cmpR op_ge (pe_callB call_len_seq (by rfl) T.len PySem.boot_len (pa_cons (pv 0) pa_nil)) (c_DEPTH C) (nomark _))))) (pss_one (ps_ret pe_bl)) pss_nil)
    (pss_one (ps_ret (pe_callB (cr_all rfl) (by rfl) T.all PyProof.Rows.boot_all (pa_cons (pe_lc (own := [("step", 1)]) (g := gName 1) (tt := tYes) (by rfl) scIsPath.nd (pi_tup (pv 0)) (blkOk_by (N := ["thing", "step"]) (sc := defScope sIsPath) (own := [("step", 1)]) (by decide +kernel)) (fun _ _ _ _ _ => pg_name (i := 1) scIsPath.nd rfl (Or.inl rfl)) (fun _ _ _ _ _ => pts_nil) (fun _ _ _ _ _ => (pe_call Uis_number.ok (hr.mono (by omega)) rfl Uis_number.m Uis_number.kp Uis_number.b .nil pass0 (pa_cons (pv 1) (pa_cons (pe_op op_sub (c_SIZE C) pe_int) pa_nil))))) pa_nil))))),
    (ss_cons (ss_if (st_or (st_not (st_val (se_cb sc_isi (sa_cons se_nm (sa_cons se_o sa_nil))))) (st_test (se_op so_ge (se_cb sc_len (sa_cons se_nm sa_nil)) se_int))) (ss_ret se_bl) ss_nil)
    (ss_ret (se_cb sc_all (sa_cons (se_lcF (si_tup se_nm) sg_name st_yes (se_call (sa_cons se_nm (sa_cons (se_op so_sub se_int se_int) sa_nil)))) sa_nil)))), fun ws M R RX hl h => ?_⟩
  obtain ⟨x, rfl, h1⟩ := g1_of h
  obtain ⟨d, rfl, ht, h2⟩ := gD_of h1
  cases d with
  | tuple ds =>
    rw [isPath] at h2
    have htd : txtAll ds = true := by rw [txt] at ht; exact ht
    simp only [start0, len_c, len_n, map_c, map_n, app_c, app_n, rep_0, rep_s, Nat.reduceAdd, Nat.reduceSub]
    decreasing_trivial_pre_omega
    refine IfB.d (fun c => ?_) (fun c => ?_)
    · decreasing_trivial_pre_omega
      rw [decide_eq_false (p := ds.length < 12) (by omega)] at h2
      exact h2
    · rw [decide_eq_true (p := ds.length < 12) (by omega), Bool.true_and] at h2
      decreasing_trivial_pre_omega
      refine lc1F (k := fun _ => True) (b := bName 1) (fun d => .bool (isNum 59 d)) trivial (fun d hm Rk q => ?_) (sz1000 (by omega)) ?_
      · obtain ⟨i, hi⟩ := List.getElem?_of_mem hm
        have := txtAll_get htd hi
        decreasing_trivial_pre_omega
        exact q
      · decreasing_trivial_pre_omega
        rw [List.map_map]
        show gBs (ds.map fun d => W.d (.bool (isNum 59 d))) _
        rw [gBs_map]
        rw [List.all_map]
        exact h2
  | _ => simp only [start0, len_c, len_n, map_c, map_n, app_c, app_n, rep_0, rep_s, Nat.reduceAdd, Nat.reduceSub]; decreasing_trivial_pre_omega; exact h2
abbrev sChkPath : Stmt := top 20
theorem scChkPath : FnScope ["thing"] ["thing"] (defScope sChkPath) := ⟨rfl, rfl, rfl, by decide +kernel, rfl, by decide +kernel, by decide +kernel⟩
theorem ok_chkPath {f C : Addr} {fd : FuncData} {k j : Nat} (F : Fun K "check_path" "check_path" sChkPath f fd) (XNoPath : Er K mg "NoPath" C) (Uis_path : Use P w K mg base "is_path" ["thing"] j (spD K 1 (tfB isPath))) (hj : j ≤ k) :
    FnOk P w K mg base (L2.CX P w) (k + 1) f fd ["thing"] (spD K 1 (tfChk isPath C)) := by
  refine okDX F scChkPath rfl fun cdv A outer s H E hr => ?_
  refine ⟨_, fun RE => _, (pss_one (ps_if (pt_not (pt_val (PE.nox (pe_call Uis_path.ok (hr.mono (by omega)) rfl Uis_path.m Uis_path.kp Uis_path.b .nil pass0 (pa_cons (pv 0) pa_nil))))) (pss_one (ps_raise rfl (takes_of (E := E) rfl rfl rfl rfl) (pmk_own0 PySem.F.excBase_ValueError XNoPath.x XNoPath.g XNoPath.k (raises_own XNoPath.b XNoPath.t) (by exact rfl)))) pss_nil)), fun RE => (ss_if (st_not (st_val (se_call (sa_cons se_nm sa_nil)))) ss_raise0 ss_nil), fun ws M R RX hl h => ?_⟩
  obtain ⟨x, rfl, h1⟩ := g1_of h
  obtain ⟨d, rfl, ht, h2, h3⟩ := gD_of h1
  simp only [start0, len_c, len_n, map_c, map_n, app_c, app_n, rep_0, rep_s, Nat.reduceAdd, Nat.reduceSub]
  decreasing_trivial_pre_omega
  cases c : isPath d
  · decreasing_trivial_pre_omega
    exact h3 c
  · decreasing_trivial_pre_omega
    exact h2 c
abbrev sChkPl : Stmt := top 21
theorem scChkPl : FnScope ["tree", "thing"] ["tree", "thing"] (defScope sChkPl) := ⟨rfl, rfl, rfl, by decide +kernel, rfl, by decide +kernel, by decide +kernel⟩
theorem ok_chkPl {f cN cP : Addr} {fd : FuncData} {k j : Nat} (F : Fun K "check_place" "check_place" sChkPl f fd) (XNoPlace : ErF K mg "NoPlace" "NoPlace.__init__" "path" sI_NoPlace cP) (Ucheck_path : UseX P w K mg base "check_path" ["thing"] j (spD K 1 (tfChk isPath cN))) (Upart_at : Use P w K mg base "part_at" ["tree", "path"] j (spD K 2 tfPartAt)) (hj : j ≤ k) (hk : 2 ≤ k) :
    FnOk P w K mg base (L2.CX P w) (k + 1) f fd ["tree", "thing"] (spD K 2 (tfChkPl cN cP)) := by
  obtain ⟨fiNoPlace, fdNoPlace, iNoPlace, tNoPlace, FNoPlace⟩ := XNoPlace.i
  have okNoPlace := okI_NoPlace (P := P) (w := w) (mg := mg) (base := base) (k := 0) FNoPlace XNoPlace.o XNoPlace.n
  have bNoPlace := FNoPlace.binds (ps := ["self", "path"]) fun _ _ _ _ _ _ us hl => match us, hl with | [_, _], _ => rfl
  refine okDX F scChkPl rfl fun cdv A outer s H E hr => ?_
  refine ⟨_, fun RE => _, (pss_cons (ps_expr (pe_callS Ucheck_path.ok (hr.mono (by omega)) rfl Ucheck_path.m Ucheck_path.kp Ucheck_path.b (fun σ => passAt (takes_of (E := E) rfl rfl rfl rfl) σ) (pa_cons (pv 1) pa_nil)))
    (pss_one (ps_if (pt_cmpR op_isN (PE.nox (pe_call Upart_at.ok (hr.mono (by omega)) rfl Upart_at.m Upart_at.kp Upart_at.b .nil pass0 (pa_cons (pv 0) (pa_cons (pv 1) pa_nil)))) pe_non (nomark _)) (pss_one (ps_raise rfl (takes_of (E := E) rfl rfl rfl rfl) (pmk_oex XNoPlace.o iNoPlace tNoPlace okNoPlace (hr.mono (by omega)) bNoPlace .nil pass0 (by exact rfl) XNoPlace.g (pa_cons (pv 1) pa_nil)))) pss_nil))), fun RE => (ss_cons (ss_drop (se_callX (sa_cons se_nm sa_nil)))
    (ss_if (st_test (se_op so_isN (se_call (sa_cons se_nm (sa_cons se_nm sa_nil))) se_non)) (ss_raiseF (sa_cons se_nm sa_nil)) ss_nil)), fun ws M R RX hl h => ?_⟩
  obtain ⟨d, x, n, rfl, ⟨ht, hx⟩, h1, h2, h3⟩ := h
  simp only [start0, len_c, len_n, map_c, map_n, app_c, app_n, rep_0, rep_s, Nat.reduceAdd, Nat.reduceSub]
  decreasing_trivial_pre_omega
  refine ⟨fun c => ?_, fun c => h1 c⟩
  obtain ⟨q, rfl, hq⟩ := path_of c
  decreasing_trivial_pre_omega
  refine ⟨d, q, n, rfl, ht, ?_⟩
  cases he : sub d q with
  | none =>
    rw [show optP none = .none from rfl]
    decreasing_trivial_pre_omega
    exact h2 q rfl hq he
  | some e =>
    rw [show ∀ e, optP (some e) = e from fun _ => rfl]
    have hn1 := isN_no (tr_some ht he)
    decreasing_trivial_pre_omega
    exact h3 q e rfl hq he
abbrev sWithin : Stmt := top 26
theorem scWithin : FnScope ["path", "top"] ["path", "top"] (defScope sWithin) := ⟨rfl, rfl, rfl, by decide +kernel, rfl, by decide +kernel, by decide +kernel⟩
theorem ok_within {f : Addr} {fd : FuncData} {k : Nat} (F : Fun K "is_within" "is_within" sWithin f fd) (T : Bl mg) : FnOk P w K mg base CX0 (k + 1) f fd ["path", "top"] (spD K 2 tfWithin) := by
  refine okD F scWithin rfl fun cdv A outer s H E hr => ?_
  refine ⟨_, _, (pss_one (ps_ret (pe_cmpR (op_eqD hr.units) (pe_slice sl_tupA (pv 0) po_none (po_some (pe_callB call_len_seq (by rfl) T.len PySem.boot_len (pa_cons (pv 1) pa_nil)))) (pv 1) (nomark _)))),
    (ss_ret (se_op so_eqD (se_sl sl_T se_nm sp_no (sp_some (se_cb sc_len (sa_cons se_nm sa_nil)))) se_nm)), fun ws M R RX hl h => ?_⟩
  obtain ⟨p, t, rfl, ⟨h1, h2⟩, h3⟩ := h
  unfold pathD
  simp only [start0, len_c, len_n, map_c, map_n, app_c, app_n, rep_0, rep_s, Nat.reduceAdd, Nat.reduceSub]
  decreasing_trivial_pre_omega
  rw [List.length_map, cut_to, ← List.map_take]
  refine ⟨⟨eqOk_path (p.take t.length), eqOk_path t⟩, ?_⟩
  have e := eqv_path (p.take t.length) t
  unfold pathD at e
  rw [e]
  exact h3
end
end Tl
set_option Elab.async false
set_option linter.all false
set_option maxRecDepth 100000
set_option maxHeartbeats 4000000
/-! a text against a dict; x in a tuple of texts, x any data. -/
namespace PySem.SeqAt
open PySem PyProof.Rows
open _root_.PySem.AutoSeq1 (wpAny_loadPart')
open MeetsSeq
end PySem.SeqAt
set_option Elab.async false
set_option linter.all false
set_option maxRecDepth 100000
set_option maxHeartbeats 4000000
/-! Trees of lists: their numbers; how they begin. -/
namespace Tl
open PySem L2
mutual
def AT.nums : AT → List Int
  | .node _ _ n _ ks => n :: numss ks
def numss : List AT → List Int
  | [] => []
  | k :: ks => k.nums ++ numss ks
end
theorem numss_app : ∀ a b : List AT, numss (a ++ b) = numss a ++ numss b
  | [], b => by rw [numss]; rfl
  | k :: a, b => by rw [List.cons_append, numss, numss, numss_app a b, List.append_assoc]
/-- some numbers in a row -/
def rowI (k : Int) (n : Nat) : List Int := (List.range n).map fun i => k + (i : Nat)
theorem rowI_add (k : Int) (n m : Nat) : rowI k (n + m) = rowI k n ++ rowI (k + n) m := by
  unfold rowI
  rw [List.range_add, List.map_append, List.map_map]
  congr 1
  refine List.map_congr_left fun i _ => ?_
  show k + ((n + i : Nat) : Int) = k + n + (i : Nat)
  omega
/-- a tree of lists that is new: begun at M, standing at M' -/
structure NewT (d : PyData) (k : Int) (M : Mem) (T : AT) (M' : Mem) : Prop where
  tel : T.tel tgF = d
  nums : T.nums = rowI k (nn d)
  ok : T.ok M'
  nd : T.adr.Nodup
  new : ∀ x ∈ T.adr, M x = none
/-- some of them -/
structure NewTs (ds : List PyData) (k : Int) (M : Mem) (ts : List AT) (M' : Mem) : Prop where
  tel : ts.map (AT.tel tgF) = ds
  nums : numss ts = rowI k (nnAll ds)
  ok : oks M' ts
  nd : (adrs ts).Nodup
  new : ∀ x ∈ adrs ts, M x = none
theorem NewTs.nil (k : Int) (M M' : Mem) : NewTs [] k M [] M' := ⟨rfl, by rw [numss]; rfl, by rw [oks]; trivial, by rw [adrs]; exact List.nodup_nil, fun x h => by rw [adrs] at h; cases h⟩
theorem oks_app {M : Mem} {a b : List AT} (h1 : oks M a) (h2 : oks M b) : oks M (a ++ b) := oks_iff.mpr fun k hk => (List.mem_append.mp hk).elim (oks_iff.mp h1 k) (oks_iff.mp h2 k)
theorem NewTs.snoc {ds : List PyData} {d : PyData} {k : Int} {M M1 M2 : Mem} {ts : List AT} {T : AT} (h : NewTs ds k M ts M1) (g : NewT d (k + (nnAll ds : Nat)) M1 T M2) (hs : ∀ x ∈ adrs ts, M2 x = M1 x) (hM : ∀ x, M1 x = none → M x = none) : NewTs (ds ++ [d]) k M (ts ++ [T]) M2 := by
  have hj : ∀ x ∈ adrs ts, x ∉ T.adr := fun x hx hT => by
    have e := g.new x hT
    obtain ⟨t, ht, hxt⟩ := mem_adrs hx
    have o := oks_iff.mp h.ok t ht
    have : ∃ v, M1 x = some v := by
      clear hx ht hT e
      have key : ∀ (t : AT), t.ok M1 → ∀ x ∈ t.adr, ∃ v, M1 x = some v := AT.rec (motive_1 := fun t => t.ok M1 → ∀ x ∈ t.adr, ∃ v, M1 x = some v) (motive_2 := fun ts => oks M1 ts → ∀ x ∈ adrs ts, ∃ v, M1 x = some v)
        (fun a b n t ks ih o x hx => by
          rw [AT.ok] at o
          rw [AT.adr] at hx
          rcases List.mem_cons.mp hx with rfl | hx
          · exact ⟨_, o.1⟩
          rcases List.mem_cons.mp hx with rfl | hx
          · exact ⟨_, o.2.1⟩
          · exact ih o.2.2 x hx)
        (fun o x hx => by rw [adrs] at hx; cases hx)
        (fun k ks ih1 ih2 o x hx => by
          rw [oks] at o
          rw [adrs, List.mem_append] at hx
          exact hx.elim (ih1 o.1 x) (ih2 o.2 x))
      exact key t o x hxt
    obtain ⟨v, hv⟩ := this
    rw [e] at hv
    cases hv
  have n1 : ∀ z : PyData, nnAll [z] = nn z := fun z => by rw [nnAll, nnAll]; rfl
  have a1 : ∀ T : AT, adrs [T] = T.adr := fun T => by rw [adrs, adrs, List.append_nil]
  refine ⟨by rw [List.map_append, h.tel, List.map_singleton, g.tel], ?_, ?_, ?_, ?_⟩
  · rw [numss_app, h.nums, numss, numss, List.append_nil, g.nums, nnAll_cat, n1, rowI_add]
  · exact oks_app (oks_same h.ok hs) (by rw [oks, oks]; exact ⟨g.ok, trivial⟩)
  · rw [adrs_app, a1]
    exact List.nodup_append.mpr ⟨h.nd, g.nd, fun x hx y hy e => hj x hx (e ▸ hy)⟩
  · intro x hx
    rw [adrs_app, a1, List.mem_append] at hx
    rcases hx with hx | hx
    · exact h.new x hx
    · exact hM x (g.new x hx)
/-- what stands in a tree of lists is something -/
theorem ok_some {M : Mem} {T : AT} (h : T.ok M) {x : Addr} (hx : x ∈ T.adr) : ∃ v, M x = some v := by
  have key : ∀ (t : AT), t.ok M → ∀ x ∈ t.adr, ∃ v, M x = some v := AT.rec (motive_1 := fun t => t.ok M → ∀ x ∈ t.adr, ∃ v, M x = some v) (motive_2 := fun ts => oks M ts → ∀ x ∈ adrs ts, ∃ v, M x = some v)
    (fun a b n t ks ih o x hx => by
      rw [AT.ok] at o
      rw [AT.adr] at hx
      rcases List.mem_cons.mp hx with rfl | hx
      · exact ⟨_, o.1⟩
      rcases List.mem_cons.mp hx with rfl | hx
      · exact ⟨_, o.2.1⟩
      · exact ih o.2.2 x hx)
    (fun o x hx => by rw [adrs] at hx; cases hx)
    (fun k ks ih1 ih2 o x hx => by
      rw [oks] at o
      rw [adrs, List.mem_append] at hx
      exact hx.elim (ih1 o.1 x) (ih2 o.2 x))
  exact key T h x hx
end Tl
set_option Elab.async false
set_option linter.all false
set_option maxRecDepth 100000
set_option maxHeartbeats 4000000
/-! A deed done on a tree of lists: what holds behind it. -/
namespace Tl
open PySem L2
structure LvR (T : AT) (x : Deed) (c : Addr) (M : Mem) (T' : AT) (M' : Mem) : Prop where
  ok : T'.ok M'
  nd : T'.adr.Nodup
  root : T'.root = T.root
  tel : T'.tel tgF = chg (T.tel tgF) x
  old : ∀ z, M z ≠ none → z ∉ T.adr → z ≠ c → M' z = M z
  new : ∀ z ∈ T'.adr, z ∈ T.adr ∨ M z = none
theorem box_in {T u : AT} {q : List Nat} (h : T.at_ q = some u) : u.root ∈ T.adr ∧ u.box ∈ T.adr := by
  rw [(adr_ctx h).mem_iff, (adr_ctx h).mem_iff, List.mem_append, List.mem_append, adr_eta u]
  exact ⟨.inr (List.mem_cons_self ..), .inr (List.mem_cons_of_mem _ (List.mem_cons_self ..))⟩
theorem kids_in {T u : AT} {q : List Nat} (h : T.at_ q = some u) {z : Addr} (hz : z ∈ adrs u.kids) : z ∈ T.adr := by
  rw [(adr_ctx h).mem_iff, List.mem_append, adr_eta u]
  exact .inr (List.mem_cons_of_mem _ (List.mem_cons_of_mem _ hz))
theorem kids_nd {M : Mem} {T u : AT} {q : List Nat} {ks : List AT} (h : T.ok M) (hn : T.adr.Nodup) (hq : T.at_ q = some u) (n1 : (adrs ks).Nodup) (n2 : ∀ z ∈ adrs ks, z ∈ adrs u.kids ∨ M z = none) :
    (T.put q (u.withKids ks)).adr.Nodup ∧ (∀ z ∈ (T.put q (u.withKids ks)).adr, z ∈ T.adr ∨ M z = none) ∧ u.box ∉ adrs ks := by
  have e := (adr_ctx hq).nodup_iff.mp hn
  rw [adr_eta u] at e
  obtain ⟨d1, d2, d3⟩ := List.nodup_append.mp e
  obtain ⟨d4, d5⟩ := List.nodup_cons.mp d2
  obtain ⟨d6, d7⟩ := List.nodup_cons.mp d5
  have fresh : ∀ z, z ∈ T.adr → M z ≠ none := fun z hz c => by
    obtain ⟨v, hv⟩ := ok_some h hz
    rw [c] at hv
    cases hv
  have r1 : u.root ∉ adrs ks := fun z => (n2 _ z).elim (fun z => d4 (List.mem_cons_of_mem _ z)) (fresh _ (box_in hq).1)
  have b1 : u.box ∉ adrs ks := fun z => (n2 _ z).elim d6 (fresh _ (box_in hq).2)
  have p := adr_put (s := u.withKids ks) hq
  have ea : (u.withKids ks).adr = u.root :: u.box :: adrs ks := adr_eta _
  rw [ea] at p
  refine ⟨p.nodup_iff.mpr (List.nodup_append.mpr ⟨d1, List.nodup_cons.mpr ⟨fun z => ?_, List.nodup_cons.mpr ⟨b1, n1⟩⟩, fun x hx y hy e => ?_⟩), fun z hz => ?_, b1⟩
  · rcases List.mem_cons.mp z with z | z
    · exact d4 (by rw [z]; exact List.mem_cons_self ..)
    · exact r1 z
  · subst e
    rcases List.mem_cons.mp hy with z | hy
    · exact d3 x hx x (by rw [z]; exact List.mem_cons_self ..) rfl
    rcases List.mem_cons.mp hy with z | hy
    · exact d3 x hx x (by rw [z]; exact List.mem_cons_of_mem _ (List.mem_cons_self ..)) rfl
    rcases n2 x hy with z | z
    · exact d3 x hx x (List.mem_cons_of_mem _ (List.mem_cons_of_mem _ z)) rfl
    · exact fresh x (by rw [(adr_ctx hq).mem_iff, List.mem_append]; exact .inl hx) z
  · rw [p.mem_iff, List.mem_append] at hz
    rcases hz with hz | hz
    · exact .inl (by rw [(adr_ctx hq).mem_iff, List.mem_append]; exact .inl hz)
    rcases List.mem_cons.mp hz with z1 | hz
    · exact .inl (by rw [z1]; exact (box_in hq).1)
    rcases List.mem_cons.mp hz with z1 | hz
    · exact .inl (by rw [z1]; exact (box_in hq).2)
    exact (n2 z hz).imp (kids_in hq) id
theorem LvR.of {M M1 : Mem} {T u : AT} {q : List Nat} {ks : List AT} {c : Addr} {x : Deed} (h : T.ok M) (h1 : T.ok M1) (hn : T.adr.Nodup) (hq : T.at_ q = some u) (hk : oks M1 ks) (n1 : (adrs ks).Nodup) (n2 : ∀ z ∈ adrs ks, z ∈ adrs u.kids ∨ M z = none)
    (hold : ∀ z, M z ≠ none → z ∉ T.adr → z ≠ c → M1 z = M z) (tel : repl q (T.tel tgF) (.tuple [u.tag, .tuple (ks.map (AT.tel tgF))]) = chg (T.tel tgF) x) : LvR T x c M (T.put q (u.withKids ks)) (mset M1 u.box (.lst (rootsW ks))) := by
  obtain ⟨a1, a2, a3⟩ := kids_nd h hn hq n1 n2
  refine ⟨setKids_ok h1 hq (nd_one hn _) hk a3, a1, put_root hq rfl, ?_, fun z z1 z2 z3 => ?_, a2⟩
  · rw [still_put hq, ← tel]
    congr 1
    rw [AT.withKids, still_node]
  · rw [mset_ne (fun e => z2 (by rw [e]; exact (box_in hq).2))]
    exact hold z z1 z2 z3
theorem LvR.name {M : Mem} {T u : AT} {q : List Nat} {c : Addr} {t : Str} (h : T.ok M) (hn : T.adr.Nodup) (hq : T.at_ q = some u) : LvR T (.name q t) c M (T.put q (.node u.root u.box u.num (.str t) u.kids)) (mset M u.root (.lst [.d (.int u.num), .d (.str t), .r u.box])) := by
  have p := adr_put (s := .node u.root u.box u.num (.str t) u.kids) hq
  have ea : (AT.node u.root u.box u.num (.str t) u.kids).adr = u.adr := by rw [adr_eta u]; exact adr_eta _
  rw [ea] at p
  have p2 := p.trans (adr_ctx hq).symm
  refine ⟨setTag_ok h hq (nd_one hn _), p2.nodup_iff.mpr hn, put_root hq rfl, ?_, fun z z1 z2 z3 => ?_, fun z hz => .inl (p2.mem_iff.mp hz)⟩
  · rw [still_put hq, chg, partD_of (e := u.tel tgF) (by rw [sub_still, hq]; rfl), still_node, still_eta u, kidsD_node]
  · exact mset_ne fun e => z2 (by rw [e]; exact (box_in hq).1)
end Tl
set_option Elab.async false
set_option linter.all false
set_option maxRecDepth 100000
set_option maxHeartbeats 4000000
/-! Trees and deeds are good to be shown; deeds that a law draws. -/
namespace Tl
open PySem L2
theorem tag_str {s : Str} (h : isTag (.str s) = true) : 1 ≤ s.length ∧ s.length ≤ 8 ∧ PyData.strOk s = true := by
  rw [isTag, Bool.and_eq_true, Bool.and_eq_true] at h
  refine ⟨of_decide_eq_true h.1.1, of_decide_eq_true h.1.2, ?_⟩
  unfold PyData.strOk
  rw [Array.all_eq_true_iff_forall_mem]
  intro c hc
  have := List.all_eq_true.mp h.2 c (Array.mem_toList_iff.mpr hc)
  unfold small at this
  rw [Bool.and_eq_true] at this
  have h2 := of_decide_eq_true this.2
  exact decide_eq_true (by omega)
theorem tree_gk {d : PyData} (h : TrT 12 d) (hn : nn d ≤ 60) : Gk 6000 24 d := by
  obtain ⟨h1, h2, h3, _⟩ := TrT.gd h
  exact ⟨h1, by omega, h2⟩
theorem pathOk_gk {q : List Nat} (h : pathOk q) : Gk 40000 24 (pathD q) := (gk_path (by have := h.1; omega) fun i hi => by have := h.2 i hi; omega).mono (Nat.le_refl _) (by decide)
theorem tag_gk {t : Str} (h : isTag (.str t) = true) : Gk 40000 24 (.str t) := by
  obtain ⟨_, h2, h3⟩ := tag_str h
  exact gk_str (by omega) h3 (by omega)
theorem wrd_gk {t : Str} (h : t.length ≤ 8) (h2 : PyData.strOk t = true) : Gk 40000 24 (.str t) := gk_str (by omega) h2 (by omega)
theorem place_ok {d e : PyData} {q : List Nat} (h : TrT 12 d) (hn : nn d ≤ 60) (hs : sub d q = some e) : pathOk q :=
  ⟨sub_len h hs, fun i hi => by have := sub_ent h hs i hi; omega⟩
theorem adr_nums (T : AT) : T.adr.length = 2 * T.nums.length :=
  AT.rec (motive_1 := fun t => t.adr.length = 2 * t.nums.length) (motive_2 := fun ts => (adrs ts).length = 2 * (numss ts).length)
    (fun a b n t ks ih => by
      rw [AT.adr, AT.nums, List.length_cons, List.length_cons, List.length_cons, ih]
      omega)
    (by rw [adrs, numss]; rfl)
    (fun k ks ih1 ih2 => by
      rw [adrs, numss, List.length_append, List.length_append, ih1, ih2]
      omega) T
theorem NewT.len {d : PyData} {k : Int} {M M' : Mem} {T : AT} (h : NewT d k M T M') : T.adr.length = 2 * nn d := by
  rw [adr_nums, h.nums]
  unfold rowI
  rw [List.length_map, List.length_range]
theorem pathD_inj {a b : List Nat} (h : pathD a = pathD b) : a = b := by
  have := eqv_path a b
  rw [h, eqv_path] at this
  have e : decide (a = b) = true := by rw [← this]; exact decide_eq_true rfl
  exact of_decide_eq_true e
theorem int_inj {a b : Nat} (h : PyData.int (a : Int) = .int (b : Int)) : a = b := Int.ofNat.inj (PyData.int.inj h)
theorem Deed.inj : ∀ {x y : Deed}, x.d = y.d → x = y := fun {x y} h => by
  cases x <;> cases y <;> simp only [Deed.d, PyData.tuple.injEq, List.cons.injEq, PyData.str.injEq, and_true, true_and] at h <;> first
    | (exact absurd h.1 (by decide))
    | (exact absurd h (by decide))
    | (obtain ⟨h1, h2⟩ := h; rw [pathD_inj h1, h2])
    | (obtain ⟨h1, h2, h3⟩ := h; rw [pathD_inj h1, int_inj h2, h3])
    | (obtain ⟨h1, h2, h3⟩ := h; rw [pathD_inj h1, pathD_inj h2, int_inj h3])
    | (obtain ⟨h1, h2, h3, h4⟩ := h; rw [pathD_inj h1, int_inj h2, int_inj h3, h4])
    | (obtain ⟨h1, h2⟩ := h; rw [pathD_inj h1, pathD_inj h2])
    | (rw [pathD_inj h])
theorem lev_in : ∀ {ks : List PyData} {k : PyData}, k ∈ ks → lev k ≤ levAll ks
  | z :: ks, k, h => by
    rw [levAll]
    rcases List.mem_cons.mp h with rfl | h
    · omega
    · have := lev_in h
      omega
/-- a tree is one of just its levels -/
theorem tr_by : ∀ {n : Nat} {d : PyData}, TrT n d → TrT (lev d) d
  | 0, _, h => h.elim
  | n + 1, d, h => by
    obtain ⟨s, ks, rfl, a, hk⟩ := h
    rw [lev_node, Nat.add_comm]
    exact ⟨s, ks, rfl, a, fun k hm => (tr_by (hk k hm)).mono (lev_in hm)⟩
theorem tree_eq {d : PyData} (h1 : TrT 12 d) (h2 : nn d ≤ 60) : d.depth < 50 ∧ d.hasDict = false ∧ txt d = true ∧ eqOk d = true ∧ PyData.eqv d d = true := by
  obtain ⟨g, _, dp⟩ := tree_gk h1 h2
  have nd := gd_nd d g
  exact ⟨by omega, nd, gd_txt d g, gd_eqOk g (by omega), eqv_self d nd⟩
end Tl
set_option Elab.async false
set_option linter.all false
set_option maxRecDepth 100000
set_option maxHeartbeats 4000000
/-! Numbers of places, led through deeds: where a place stands behind. -/
set_option Elab.async false
set_option linter.all false
set_option maxRecDepth 100000
set_option maxHeartbeats 4000000
/-! A deed done on a tree of lists: its numbers, led. -/
set_option Elab.async false
set_option linter.all false
set_option maxRecDepth 100000
set_option maxHeartbeats 4000000
/-! The way back of a deed: it fits, leads back, each place too; its own way back is the deed. -/
set_option Elab.async false
set_option linter.all false
set_option maxRecDepth 100000
set_option maxHeartbeats 4000000
/-! Places in their order; the ways from a place. -/
namespace Tl
open PySem L2
open PySem.W (alike alikeAll AllAlike dataLe dataLt keyToks keyToksAll rowLt dataLt_tuple dataLt_cons dataLt_int toks_all_cons)
open PyProof.Rows
def ltN : List Nat → List Nat → Bool
  | [], [] => false
  | [], _ :: _ => true
  | _ :: _, [] => false
  | x :: a, y :: b => if x = y then ltN a b else decide (x < y)
theorem ltN_irr : ∀ a, ltN a a = false
  | [] => rfl
  | x :: a => by rw [ltN, if_pos rfl, ltN_irr a]
/-- rising, each once -/
abbrev Up (l : List (List Nat)) : Prop := l.Pairwise fun a b => ltN a b = true
/-! the order of paths as data -/
theorem alike_paths : ∀ a b : List Nat, alikeAll (a.map fun n : Nat => PyData.int (n : Int)) (b.map fun n : Nat => PyData.int (n : Int)) = true
  | [], _ => by rw [List.map_nil, alikeAll]
  | _ :: _, [] => by rw [List.map_cons, List.map_nil, alikeAll]
  | x :: a, y :: b => by rw [List.map_cons, List.map_cons, alikeAll, alike_paths a b]; rfl
/-! the ways -/
theorem sub_cut {n : Nat} {d e : PyData} {a b : List Nat} (h : TrT n d) (hs : sub d (a ++ b) = some e) : ∃ u, sub d a = some u := by
  rw [sub_app b h] at hs
  cases c : sub d a with
  | none => rw [c] at hs; cases hs
  | some u => exact ⟨u, rfl⟩
end Tl
set_option Elab.async false
set_option linter.all false
set_option maxRecDepth 100000
set_option maxHeartbeats 4000000
/-! Edits of sides, what a side leads to; trees that bear labels. -/
namespace Tl
open PySem L2
open PySem.W (alike alikeAll AllAlike dataLe dataLt keyToks keyToksAll)
inductive Edt where
  | name (q : List Nat) (t : Str)
  | out (q : List Nat)
  | put (q : List Nat) (n : Nat) (es : List PyData)
def Edt.q : Edt → List Nat
  | .name q _ => q
  | .out q => q
  | .put q _ _ => q
def Edt.w : Edt → Str
  | .name _ _ => "name"
  | .out _ => "out"
  | .put _ _ _ => "put"
def Edt.n : Edt → Nat
  | .put _ n _ => n
  | _ => 0
def Edt.isOut : Edt → Bool
  | .out _ => true
  | _ => false
def Edt.d : Edt → PyData
  | .name q t => .tuple [.str "name", pathD q, .str t]
  | .out q => .tuple [.str "out", pathD q]
  | .put q n es => .tuple [.str "put", pathD q, .int n, .tuple es]
def Edt.kT (e : Edt) : PyData := .tuple [pathD e.q, .str e.w, .int (e.n : Nat)]
def Edt.kL (e : Edt) : PyData := .list [pathD e.q, .str e.w, .int (e.n : Nat)]
/-- an edit of that tree -/
def EdOk (d : PyData) : Edt → Prop
  | .name q t => pathOk q ∧ (∃ e, sub d q = some e) ∧ isTag (.str t) = true
  | .out q => pathOk q ∧ (∃ e, sub d q = some e) ∧ q ≠ []
  | .put q n es => pathOk q ∧ (∃ e, sub d q = some e ∧ n ≤ (kidsD e).length) ∧ es ≠ [] ∧ (∀ x ∈ es, isTreeD x = true) ∧ es.length ≤ 1000
/-- the keys' order -/
def ltE (a b : Edt) : Bool := dataLt a.kT b.kT
def takesE (a b : Edt) : Bool := a.isOut && decide (a.q <+: b.q)
def goesE (es : List Edt) (e : Edt) : Bool := (match es.getLast? with
  | none => true
  | some l => ltE l e) && !es.any fun x => takesE x e || takesE e x
/-- a side, as far as its edits go -/
inductive SideR (d : PyData) : List Edt → Prop where
  | nil : SideR d []
  | snoc {es : List Edt} {e : Edt} (h : SideR d es) (ok : EdOk d e) (g : goesE es e = true) : SideR d (es ++ [e])
theorem SideR.ok {d : PyData} {es : List Edt} (h : SideR d es) : ∀ e ∈ es, EdOk d e := by
  induction h with
  | nil => intro e he; cases he
  | snoc h ok g ih =>
    intro x hx
    rcases List.mem_append.mp hx with hx | hx
    · exact ih x hx
    · rw [List.mem_singleton.mp hx]; exact ok
/-! ### keys -/
theorem toks_path : ∀ {a b : List Nat} {r r' : List (Int ⊕ List Nat)}, keyToksAll (a.map fun n : Nat => PyData.int (n : Int)) ++ r = keyToksAll (b.map fun n : Nat => PyData.int (n : Int)) ++ r' → a = b ∧ r = r'
  | [], [], r, r', h => by
    simp only [List.map_nil, keyToksAll, List.singleton_append, List.cons.injEq, true_and] at h
    exact ⟨rfl, h⟩
  | [], j :: b, r, r', h => by simp [keyToksAll, keyToks] at h
  | i :: a, [], r, r', h => by simp [keyToksAll, keyToks] at h
  | i :: a, j :: b, r, r', h => by
    simp only [List.map_cons, keyToksAll, keyToks, List.cons_append, List.nil_append, List.cons.injEq, true_and, Sum.inl.injEq] at h
    obtain ⟨e1, e2⟩ := h
    obtain ⟨rfl, e3⟩ := toks_path (a := a) (b := b) e2
    exact ⟨by rw [show i = j by omega], e3⟩
theorem kT_toks {a b : Edt} (h : keyToks a.kT = keyToks b.kT) : a.q = b.q ∧ a.w.cps.toList = b.w.cps.toList ∧ a.n = b.n := by
  unfold Edt.kT pathD at h
  simp only [keyToks, keyToksAll, List.cons_append, List.nil_append, List.cons.injEq, true_and] at h
  obtain ⟨e1, e2⟩ := toks_path h
  simp only [List.cons.injEq, true_and, Sum.inr.injEq, Sum.inl.injEq, and_true] at e2
  exact ⟨e1, e2.1, by omega⟩
/-- of one key: of one word and place -/
theorem w_of {a b : Edt} (h : a.w.cps.toList = b.w.cps.toList) : a.w = b.w := by
  cases a <;> cases b <;> first | rfl | (simp only [Edt.w] at h; exact absurd h (by decide +kernel))
theorem ltE_irr (a : Edt) : ltE a a = false := PyProof.Rows.KeyOrd.irrefl (PyProof.Rows.listOrd PyProof.Rows.itemOrd) _
theorem ltE_tr {a b c : Edt} (h1 : ltE a b = true) (h2 : ltE b c = true) : ltE a c = true := (PyProof.Rows.listOrd PyProof.Rows.itemOrd).trans _ _ _ h1 h2
theorem ltE_tot {a b : Edt} (h1 : ltE a b = false) (h2 : ltE b a = false) : a.q = b.q ∧ a.w = b.w ∧ a.n = b.n := by
  obtain ⟨e1, e2, e3⟩ := kT_toks ((PyProof.Rows.listOrd PyProof.Rows.itemOrd).total _ _ h1 h2)
  exact ⟨e1, w_of e2, e3⟩
theorem SideR.up {d : PyData} {es : List Edt} (h : SideR d es) : es.Pairwise fun a b => ltE a b = true := by
  induction h with
  | nil => exact .nil
  | @snoc es e h ok g ih =>
    rw [List.pairwise_append]
    refine ⟨ih, List.pairwise_singleton _ _, fun a ha b hb => ?_⟩
    obtain rfl := List.mem_singleton.mp hb
    unfold goesE at g
    rw [Bool.and_eq_true] at g
    rcases List.eq_nil_or_concat es with rfl | ⟨r, l, rfl⟩
    · cases ha
    rw [List.concat_eq_append, List.getLast?_concat] at g
    rw [List.concat_eq_append] at ha
    rcases List.mem_append.mp ha with ha | ha
    · have h2 : ltE a l = true := by
        rw [List.concat_eq_append, List.pairwise_append] at ih
        exact ih.2.2 a ha l (.head _)
      exact ltE_tr h2 g.1
    · obtain rfl := List.mem_singleton.mp ha
      exact g.1
/-- edits in order, apart from one another, are a side -/
theorem side_of {d : PyData} : ∀ {es : List Edt}, (∀ e ∈ es, EdOk d e) → (es.Pairwise fun a b => ltE a b = true) → (es.Pairwise fun a b => takesE a b = false ∧ takesE b a = false) → SideR d es := by
  intro es
  generalize hn : es.length = n
  induction n generalizing es with
  | zero =>
    intro _ _ _
    obtain rfl := List.eq_nil_of_length_eq_zero hn
    exact .nil
  | succ n ih =>
    intro h1 h2 h3
    rcases List.eq_nil_or_concat es with rfl | ⟨r, e, rfl⟩
    · exact .nil
    rw [List.concat_eq_append] at *
    rw [List.length_append, List.length_singleton] at hn
    rw [List.pairwise_append] at h2 h3
    refine .snoc (ih (by omega) (fun x hx => h1 x (List.mem_append_left _ hx)) h2.1 h3.1) (h1 e (List.mem_append_right _ (.head _))) ?_
    unfold goesE
    rw [Bool.and_eq_true, Bool.not_eq_true', List.any_eq_false]
    refine ⟨?_, fun x hx => ?_⟩
    · cases c : r.getLast? with
      | none => rfl
      | some l => exact h2.2.2 l (List.mem_of_getLast? c) e (.head _)
    · have := h3.2.2 x hx e (.head _)
      rw [this.1, this.2]
      decide
/-! ### what a side does -/
def nmE (es : List Edt) (p : List Nat) : Option Str := es.reverse.findSome? fun
  | .name q t => if q = p then some t else none
  | _ => none
def outE (es : List Edt) (p : List Nat) : Bool := es.any fun
  | .out q => decide (q = p)
  | _ => false
def ptE (es : List Edt) (p : List Nat) (n : Nat) : Option (List PyData) := es.reverse.findSome? fun
  | .put q m ts => if q = p ∧ m = n then some ts else none
  | _ => none
@[reducible] def ptL (es : List Edt) (p : List Nat) (n : Nat) : List PyData := (ptE es p n).getD []
def tagS : PyData → Str
  | .str s => s
  | _ => ⟨#[]⟩
mutual
/-- the part behind a side -/
def bhd (es : List Edt) (p : List Nat) : PyData → PyData
  | .tuple [s, .tuple ks] => .tuple [.str ((nmE es p).getD (tagS s)), .tuple (bhdR es p 0 ks)]
  | d => d
def bhdR (es : List Edt) (p : List Nat) (i : Nat) : List PyData → List PyData
  | [] => ptL es p i
  | k :: ks => ptL es p i ++ ((if outE es (p ++ [i]) then [] else [bhd es (p ++ [i]) k]) ++ bhdR es p (i + 1) ks)
end
/-- where places stand behind a side -/
def aheadE (es : List Edt) (p : List Nat) : Nat → Nat
  | 0 => 0
  | j + 1 => aheadE es p j + ((ptL es p j).length + if outE es (p ++ [j]) then 0 else 1)
def phE (es : List Edt) (p : List Nat) : List Nat → Option (List Nat)
  | [] => some []
  | i :: r => if outE es (p ++ [i]) then none else (phE es (p ++ [i]) r).map ((aheadE es p i + (ptL es p i).length) :: ·)
/-! ### trees that bear labels -/
inductive LT where
  | node (l : Option (List Nat)) (t : Str) (ks : List LT)
def LT.lab : LT → Option (List Nat)
  | .node l _ _ => l
def LT.tag : LT → Str
  | .node _ t _ => t
def LT.kids : LT → List LT
  | .node _ _ ks => ks
def labD : Option (List Nat) → PyData
  | none => .none
  | some p => pathD p
mutual
def LT.still : LT → PyData
  | .node _ t ks => .tuple [.str t, .tuple (LT.stills ks)]
def LT.stills : List LT → List PyData
  | [] => []
  | k :: ks => k.still :: LT.stills ks
end
mutual
/-- a tree without labels -/
def bare : PyData → LT
  | .tuple [s, .tuple ks] => .node none (tagS s) (bares ks)
  | _ => .node none ⟨#[]⟩ []
def bares : List PyData → List LT
  | [] => []
  | k :: ks => bare k :: bares ks
end
mutual
/-- labelled by its places, with what edits put in and name -/
def labd (es : List Edt) (p : List Nat) : PyData → LT
  | .tuple [s, .tuple ks] => .node (some p) ((nmE es p).getD (tagS s)) (labdR es p 0 ks)
  | _ => .node (some p) ⟨#[]⟩ []
def labdR (es : List Edt) (p : List Nat) (i : Nat) : List PyData → List LT
  | [] => bares (ptL es p i)
  | k :: ks => bares (ptL es p i) ++ labd es (p ++ [i]) k :: labdR es p (i + 1) ks
end
def isOutL (es : List Edt) : Option (List Nat) → Bool
  | none => false
  | some p => outE es p
mutual
/-- without what is out -/
def LT.wo (es : List Edt) : LT → LT
  | .node l t ks => .node l t (LT.wos es ks)
def LT.wos (es : List Edt) : List LT → List LT
  | [] => []
  | k :: ks => if isOutL es k.lab then LT.wos es ks else k.wo es :: LT.wos es ks
end
mutual
/-- where labels stand -/
def LT.whr (b : List Nat) : LT → List (List Nat × List Nat)
  | .node l _ ks => (match l with
    | none => []
    | some p => [(p, b)]) ++ LT.whrs b 0 ks
def LT.whrs (b : List Nat) (i : Nat) : List LT → List (List Nat × List Nat)
  | [] => []
  | k :: ks => k.whr (b ++ [i]) ++ LT.whrs b (i + 1) ks
end
theorem stills_app : ∀ a b : List LT, LT.stills (a ++ b) = LT.stills a ++ LT.stills b
  | [], b => by rw [LT.stills]; rfl
  | k :: a, b => by rw [List.cons_append, LT.stills, LT.stills, stills_app a b]; rfl
theorem stills_map : ∀ a : List LT, LT.stills a = a.map LT.still
  | [] => by rw [LT.stills]; rfl
  | k :: a => by rw [LT.stills, stills_map a]; rfl
theorem wos_app {es : List Edt} : ∀ a b : List LT, LT.wos es (a ++ b) = LT.wos es a ++ LT.wos es b
  | [], b => by rw [LT.wos]; rfl
  | k :: a, b => by
    rw [List.cons_append, LT.wos, LT.wos, wos_app a b]
    split <;> rfl
theorem bares_map : ∀ a : List PyData, bares a = a.map bare
  | [] => by rw [bares]; rfl
  | k :: a => by rw [bares, bares_map a]; rfl
theorem bare_lab (d : PyData) : (bare d).lab = none := by
  unfold bare
  split <;> rfl
theorem labd_lab (es : List Edt) (p : List Nat) (d : PyData) : (labd es p d).lab = some p := by
  unfold labd
  split <;> rfl
mutual
theorem bare_wo {es : List Edt} : ∀ {n : Nat} {d : PyData}, TrT n d → (bare d).wo es = bare d
  | 0, _, h => h.elim
  | n + 1, d, h => by
    obtain ⟨s, ks, rfl, _, hk⟩ := h
    rw [bare, LT.wo, bares_wo hk]
theorem bares_wo {es : List Edt} : ∀ {n : Nat} {ks : List PyData}, (∀ k ∈ ks, TrT n k) → LT.wos es (bares ks) = bares ks
  | _, [], _ => by rw [bares, LT.wos]
  | n, k :: ks, h => by
    rw [bares, LT.wos, bare_lab, bare_wo (h k (.head _)), bares_wo fun x hx => h x (.tail _ hx)]
    rfl
end
mutual
theorem bare_still : ∀ {n : Nat} {d : PyData}, TrT n d → (bare d).still = d
  | 0, _, h => h.elim
  | n + 1, d, h => by
    obtain ⟨s, ks, rfl, _, hk⟩ := h
    rw [bare, LT.still, bares_still hk]
    rfl
theorem bares_still : ∀ {n : Nat} {ks : List PyData}, (∀ k ∈ ks, TrT n k) → LT.stills (bares ks) = ks
  | _, [], _ => by rw [bares, LT.stills]
  | n, k :: ks, h => by rw [bares, LT.stills, bare_still (h k (.head _)), bares_still fun x hx => h x (.tail _ hx)]
end
/-- what is put in are trees -/
def PtOk (m : Nat) (es : List Edt) : Prop := ∀ p i, ∀ x ∈ ptL es p i, TrT m x
mutual
/-- the law's tree, its outs left out, is the program's -/
theorem still_wo {m : Nat} {es : List Edt} (hp : PtOk m es) : ∀ {n : Nat} {d : PyData} (p : List Nat), TrT n d → ((labd es p d).wo es).still = bhd es p d
  | 0, _, _, h => h.elim
  | n + 1, d, p, h => by
    obtain ⟨s, ks, rfl, _, hk⟩ := h
    rw [labd, LT.wo, LT.still, stills_wo hp p 0 hk, bhd]
theorem stills_wo {m : Nat} {es : List Edt} (hp : PtOk m es) : ∀ {n : Nat} {ks : List PyData} (p : List Nat) (i : Nat), (∀ k ∈ ks, TrT n k) → LT.stills (LT.wos es (labdR es p i ks)) = bhdR es p i ks
  | _, [], p, i, _ => by rw [labdR, bares_wo (hp p i), bares_still (hp p i), bhdR]
  | n, k :: ks, p, i, h => by
    rw [labdR, wos_app, stills_app, bares_wo (hp p i), bares_still (hp p i), bhdR, LT.wos, labd_lab]
    show ptL es p i ++ LT.stills (if outE es (p ++ [i]) = true then _ else _) = _
    have e1 := still_wo hp (p ++ [i]) (h k (.head _))
    have e2 := stills_wo hp p (i + 1) fun x hx => h x (.tail _ hx)
    cases outE es (p ++ [i])
    · rw [if_neg (by decide), if_neg (by decide), LT.stills, e1, e2]
      rfl
    · rw [if_pos rfl, if_pos rfl, e2]
      rfl
end
end Tl
set_option Elab.async false
set_option linter.all false
set_option maxRecDepth 100000
set_option maxHeartbeats 4000000
/-! Where labels stand; how great a tree behind a side is. -/
namespace Tl
open PySem L2
mutual
theorem whr_bare : ∀ {n : Nat} {d : PyData} (b : List Nat), TrT n d → (bare d).whr b = []
  | 0, _, _, h => h.elim
  | n + 1, d, b, h => by
    obtain ⟨s, ks, rfl, _, hk⟩ := h
    rw [bare, LT.whr, whrs_bare b 0 hk]
    rfl
theorem whrs_bare : ∀ {n : Nat} {ks : List PyData} (b : List Nat) (i : Nat), (∀ k ∈ ks, TrT n k) → LT.whrs b i (bares ks) = []
  | _, [], b, i, _ => by rw [bares, LT.whrs]
  | n, k :: ks, b, i, h => by
    rw [bares, LT.whrs, whr_bare _ (h k (.head _)), whrs_bare b (i + 1) fun x hx => h x (.tail _ hx)]
    rfl
end
theorem whrs_app : ∀ (b : List Nat) (i : Nat) (x y : List LT), LT.whrs b i (x ++ y) = LT.whrs b i x ++ LT.whrs b (i + x.length) y
  | b, i, [], y => by rw [LT.whrs]; rfl
  | b, i, k :: x, y => by
    rw [List.cons_append, LT.whrs, LT.whrs, whrs_app b (i + 1) x y, List.append_assoc, List.length_cons, show i + 1 + x.length = i + (x.length + 1) by omega]
theorem bares_len : ∀ ks : List PyData, (bares ks).length = ks.length := fun ks => by rw [bares_map, List.length_map]
mutual
/-- where labels stand, as the program reckons it -/
theorem whr_mem {m : Nat} {es : List Edt} (hp : PtOk m es) : ∀ {n : Nat} {d : PyData} (p b : List Nat) (l o : List Nat), TrT n d →
    ((l, o) ∈ ((labd es p d).wo es).whr b ↔ ∃ r r' e, sub d r = some e ∧ l = p ++ r ∧ phE es p r = some r' ∧ o = b ++ r')
  | 0, _, _, _, _, _, h => h.elim
  | n + 1, d, p, b, l, o, h => by
    obtain ⟨s, ks, rfl, _, hk⟩ := h
    rw [labd, LT.wo, LT.whr]
    show (l, o) ∈ (p, b) :: LT.whrs b 0 (LT.wos es (labdR es p 0 ks)) ↔ _
    have key := whrs_mem hp p b 0 l o hk
    rw [show aheadE es p 0 = 0 from rfl] at key
    rw [List.mem_cons, key]
    constructor
    · rintro (h1 | ⟨i, k, r, r', e, h1, h2, h3, h4, h5, h6⟩)
      · cases h1
        exact ⟨[], [], _, sub_nil _, by rw [List.append_nil], rfl, by rw [List.append_nil]⟩
      · refine ⟨i :: r, (aheadE es p i + (ptL es p i).length) :: r', e, ?_, ?_, ?_, ?_⟩
        · rw [Nat.zero_add] at h3 h4 h5 h6
          rw [sub_node, h1]; exact h2
        · rw [h4, Nat.zero_add]
        · rw [Nat.zero_add] at h3 h5
          rw [phE, h3, h5]; rfl
        · rw [h6, Nat.zero_add]
    · rintro ⟨r, r', e, h1, h2, h3, h4⟩
      cases r with
      | nil =>
        rw [phE] at h3
        cases h3
        rw [List.append_nil] at h2 h4
        rw [h2, h4]
        exact .inl rfl
      | cons i r =>
        rw [sub_node] at h1
        cases hk2 : ks[i]? with
        | none => rw [hk2] at h1; cases h1
        | some k =>
          rw [hk2] at h1
          rw [phE] at h3
          split at h3
          · cases h3
          · rename_i ho
            obtain ⟨r2, e2, rfl⟩ := Option.map_eq_some_iff.mp h3
            refine .inr ⟨i, k, r, r2, e, hk2, h1, ?_, ?_, ?_, ?_⟩
            · rw [Nat.zero_add]; exact Bool.not_eq_true _ ▸ ho
            · rw [Nat.zero_add]; exact h2
            · rw [Nat.zero_add]; exact e2
            · rw [Nat.zero_add]; exact h4
theorem whrs_mem {m : Nat} {es : List Edt} (hp : PtOk m es) : ∀ {n : Nat} {ks : List PyData} (p b : List Nat) (j : Nat) (l o : List Nat), (∀ k ∈ ks, TrT n k) →
    ((l, o) ∈ LT.whrs b (aheadE es p j) (LT.wos es (labdR es p j ks)) ↔ ∃ i k r r' e, ks[i]? = some k ∧ sub k r = some e ∧ outE es (p ++ [j + i]) = false ∧ l = p ++ (j + i) :: r ∧ phE es (p ++ [j + i]) r = some r' ∧ o = b ++ (aheadE es p (j + i) + (ptL es p (j + i)).length) :: r')
  | _, [], p, b, j, l, o, _ => by
    rw [labdR, bares_wo (hp p j), whrs_bare b _ (hp p j)]
    constructor
    · intro h; cases h
    · rintro ⟨i, k, r, r', e, h, _⟩; simp at h
  | n, k :: ks, p, b, j, l, o, h => by
    rw [labdR, wos_app, whrs_app, bares_wo (hp p j), whrs_bare b _ (hp p j), List.nil_append, bares_len, LT.wos, labd_lab]
    show (l, o) ∈ LT.whrs b _ (if outE es (p ++ [j]) = true then _ else _) ↔ _
    have ih := whrs_mem hp p b (j + 1) l o fun x hx => h x (.tail _ hx)
    have ek : ∀ i, j + 1 + i = j + (i + 1) := fun i => by omega
    simp only [ek] at ih
    cases c : outE es (p ++ [j])
    · rw [if_neg (by decide), LT.whrs, List.mem_append, whr_mem hp (p ++ [j]) _ l o (h k (.head _))]
      have ea : aheadE es p j + (ptL es p j).length + 1 = aheadE es p (j + 1) := by
        rw [aheadE, c]
        simp
        omega
      rw [ea, ih]
      constructor
      · rintro (⟨r, r', e, h1, h2, h3, h4⟩ | ⟨i, k', r, r', e, h1, h2⟩)
        · exact ⟨0, k, r, r', e, rfl, h1, c, by rw [h2, List.append_assoc]; rfl, h3, by rw [h4, List.append_assoc]; rfl⟩
        · exact ⟨i + 1, k', r, r', e, h1, h2⟩
      · rintro ⟨i, k', r, r', e, h1, h2, h3, h4, h5, h6⟩
        cases i with
        | zero =>
          cases h1
          exact .inl ⟨r, r', e, h2, by rw [h4, List.append_assoc]; rfl, h5, by rw [h6, List.append_assoc]; rfl⟩
        | succ i => exact .inr ⟨i, k', r, r', e, h1, h2, h3, h4, h5, h6⟩
    · rw [if_pos rfl]
      have ea : aheadE es p j + (ptL es p j).length = aheadE es p (j + 1) := by
        rw [aheadE, c]
        simp
      rw [ea, ih]
      constructor
      · rintro ⟨i, k', r, r', e, h1, h2⟩
        exact ⟨i + 1, k', r, r', e, h1, h2⟩
      · rintro ⟨i, k', r, r', e, h1, h2, h3, h4, h5, h6⟩
        cases i with
        | zero =>
          rw [show j + 0 = j from rfl, c] at h3
          cases h3
        | succ i => exact ⟨i, k', r, r', e, h1, h2, h3, h4, h5, h6⟩
end
/-- names are tags, parts are trees of few places -/
structure Mild (m B : Nat) (es : List Edt) : Prop where
  tg : ∀ p t, nmE es p = some t → isTag (.str t) = true
  tr : ∀ p i, ∀ x ∈ ptL es p i, TrT m x
  nn : ∀ p i, nnAll (ptL es p i) ≤ B
mutual
theorem bhd_tr {m B : Nat} {es : List Edt} (h : Mild m B es) : ∀ {n : Nat} {d : PyData} (p : List Nat), TrT n d → TrT (n + m) (bhd es p d)
  | 0, _, _, t => t.elim
  | n + 1, d, p, t => by
    obtain ⟨s, ks, rfl, hs, hk⟩ := t
    rw [bhd, show n + 1 + m = (n + m) + 1 by omega]
    refine ⟨_, _, rfl, ?_, bhdR_tr h p 0 hk⟩
    cases c : nmE es p with
    | none => exact hs
    | some t => exact h.tg p t c
theorem bhdR_tr {m B : Nat} {es : List Edt} (h : Mild m B es) : ∀ {n : Nat} {ks : List PyData} (p : List Nat) (i : Nat), (∀ k ∈ ks, TrT n k) → ∀ x ∈ bhdR es p i ks, TrT (n + m) x
  | n, [], p, i, _, x, hx => by
    rw [bhdR] at hx
    exact (h.tr p i x hx).mono (by omega)
  | n, k :: ks, p, i, hk, x, hx => by
    rw [bhdR, List.mem_append, List.mem_append] at hx
    rcases hx with hx | hx | hx
    · exact (h.tr p i x hx).mono (by omega)
    · split at hx
      · cases hx
      · rw [List.mem_singleton.mp hx]
        exact bhd_tr h _ (hk k (.head _))
    · exact bhdR_tr h p (i + 1) (fun y hy => hk y (.tail _ hy)) x hx
end
mutual
theorem bhd_nn {m B : Nat} {es : List Edt} (h : Mild m B es) : ∀ {n : Nat} {d : PyData} (p : List Nat), TrT n d → Tl.nn (bhd es p d) + B ≤ Tl.nn d + B * (2 * Tl.nn d)
  | 0, _, _, t => t.elim
  | n + 1, d, p, t => by
    obtain ⟨s, ks, rfl, hs, hk⟩ := t
    have := bhdR_nn h p 0 hk
    rw [bhd, Tl.nn, Tl.nn]
    have e : B * (2 * (1 + nnAll ks)) = B * (2 * nnAll ks) + B + B := by rw [Nat.mul_add 2, Nat.mul_add]; omega
    omega
theorem bhdR_nn {m B : Nat} {es : List Edt} (h : Mild m B es) : ∀ {n : Nat} {ks : List PyData} (p : List Nat) (i : Nat), (∀ k ∈ ks, TrT n k) → nnAll (bhdR es p i ks) ≤ nnAll ks + B * (2 * nnAll ks) + B
  | n, [], p, i, _ => by
    rw [bhdR, nnAll]
    have := h.nn p i
    omega
  | n, k :: ks, p, i, hk => by
    have h1 := h.nn p i
    have h2 := bhdR_nn h p (i + 1) fun y hy => hk y (.tail _ hy)
    have h3 := bhd_nn h (p ++ [i]) (hk k (.head _))
    have h4 := nn_pos k
    rw [bhdR, nnAll_app, nnAll_app, nnAll]
    have e : B * (2 * (Tl.nn k + nnAll ks)) = B * (2 * Tl.nn k) + B * (2 * nnAll ks) := by rw [Nat.mul_add 2, Nat.mul_add]
    have h5 : B ≤ B * (2 * Tl.nn k) := Nat.le_mul_of_pos_right _ (by omega)
    have h6 : nnAll (if outE es (p ++ [i]) then [] else [bhd es (p ++ [i]) k]) + B ≤ Tl.nn k + B * (2 * Tl.nn k) := by
      split
      · rw [nnAll]; omega
      · rw [nnAll, nnAll]; omega
    omega
end
theorem ph_len {es : List Edt} : ∀ {r p r' : List Nat}, phE es p r = some r' → r'.length = r.length
  | [], p, r', h => by rw [phE] at h; cases h; rfl
  | i :: r, p, r', h => by
    rw [phE] at h
    split at h
    · cases h
    · obtain ⟨r2, e, rfl⟩ := Option.map_eq_some_iff.mp h
      rw [List.length_cons, List.length_cons, ph_len e]
end Tl
set_option Elab.async false
set_option linter.all false
set_option maxRecDepth 100000
set_option maxHeartbeats 4000000
/-! Several except clauses, each with the same name behind 'as'. -/
set_option Elab.async false
set_option linter.all false
set_option maxRecDepth 100000
set_option maxHeartbeats 4000000
set_option Elab.async false
set_option linter.all false
set_option maxRecDepth 100000
set_option maxHeartbeats 4000000
/-! Dicts keyed by tuples of numbers: {}, d[k], d[k] = v, k in d. -/
namespace Tl
open PySem PySem.Spec PyProof.Rows L2
/-! ### as the hand layer asks -/
structure IsU (K : PySem.W.Frag) (H : Hp) (x : V) (a : Addr) (xs : List DU1) : Prop where
  e : x = .ref a
  h : H a = some (DU a xs)
  k : KeysU K H a xs
structure IsK (K : PySem.W.Frag) (H : Hp) (y : V) (b : Addr) (k : NestedKey) : Prop where
  e : y = .ref b
  h : KeyV K H (.ref b) k
  d : k.depth ≤ 8
def rInU (K : PySem.W.Frag) : R2 := fun y x H Q => ∃ a b xs k, IsU K H x a xs ∧ IsK K H y b k ∧ Q (.bl (findU xs k).isSome) H
def rNotInU (K : PySem.W.Frag) : R2 := fun y x H Q => ∃ a b xs k, IsU K H x a xs ∧ IsK K H y b k ∧ Q (.bl (!(findU xs k).isSome)) H
section
variable {X : Cx} {o i : Expr} {pos : Pos} {td ty : TE}
theorem op_inU (hu : X.A.units + 20 < cLine) : OpR X (compareOp .In) (rInU X.K) := by
  intro pins s σ H y x v u Q I ry rx h
  obtain ⟨a, b, xs, k, ⟨ex, ea, eu⟩, ⟨ey, ek, ed⟩, q⟩ := h
  subst ex ey
  obtain rfl : u = Value.ref a := rx
  obtain rfl : v = Value.ref b := ry
  exact u_in hu I ea eu ek ed fun s' I' => ⟨.bl _, H, I', rfl, q⟩
theorem op_notInU (hu : X.A.units + 20 < cLine) : OpR X (compareOp .NotIn) (rNotInU X.K) := by
  intro pins s σ H y x v u Q I ry rx h
  obtain ⟨a, b, xs, k, ⟨ex, ea, eu⟩, ⟨ey, ek, ed⟩, q⟩ := h
  subst ex ey
  obtain rfl : u = Value.ref a := rx
  obtain rfl : v = Value.ref b := ry
  exact u_notIn hu I ea eu ek ed fun s' I' => ⟨.bl _, H, I', rfl, q⟩
end
/-! ### as memory tells -/
def valU (kw : List (PyData × W)) (k : PyData) : Option W := (kw.find? fun x => decide (keyN x.1 = keyN k)).map (·.2)
def putW2 (kw : List (PyData × W)) (k : PyData) (w : W) : List (PyData × W) := if (valU kw k).isSome then kw.map (fun x => if keyN x.1 = keyN k then (x.1, w) else x) else kw ++ [(k, w)]
section
variable {K : PySem.W.Frag} {F H : Hp} {M : Mem}
theorem Rl.dT (h : Rl K F H M) {a : Addr} {kw : List (PyData × W)} (e : M a = some (.dT kw)) : ∃ xs, IsU K H (.ref a) a xs ∧ KeysU K F a xs ∧ xs.map (·.1) = kw.map (fun x => keyN x.1) ∧ (∀ x ∈ kw, keyOk x.1 = true) ∧ RWs K F (xs.map (·.2.2)) (kw.map (·.2)) := by
  obtain ⟨_, h1, xs, rfl, h2, h3, h4, h5⟩ := h.at_ a _ e
  exact ⟨xs, ⟨rfl, h1, h2.mono h.fh⟩, h2, h3, h4, h5⟩
theorem find_U {F : Hp} : ∀ {xs : List DU1} {kw : List (PyData × W)} (k : PyData), xs.map (·.1) = kw.map (fun x => keyN x.1) → RWs K F (xs.map (·.2.2)) (kw.map (·.2)) → (∀ w, valU kw k = some w → ∃ v, findU xs (keyN k) = some v ∧ RW K F v w) ∧ (valU kw k = none → findU xs (keyN k) = none)
  | [], [], k, _, _ => ⟨fun w h => (by simp [valU] at h), fun _ => rfl⟩
  | [], _ :: _, _, h, _ => by simp at h
  | _ :: _, [], _, h, _ => by simp at h
  | (kx, ax, vx) :: xs, (d, w) :: kw, k, h, r => by
    rw [List.map_cons, List.map_cons] at h r
    injection h with h1 h2
    simp only at h1
    cases r with
    | cons r1 r2 =>
      obtain ⟨i1, i2⟩ := find_U k h2 r2
      unfold valU findU at i1 i2 ⊢
      by_cases e : keyN d = keyN k
      · rw [List.find?_cons_of_pos (by simpa using e), List.find?_cons_of_pos (by simp only [decide_eq_true_eq]; exact h1.trans e)]
        exact ⟨fun w' hw => (by cases hw; exact ⟨vx, rfl, r1⟩), fun z => nomatch z⟩
      · rw [List.find?_cons_of_neg (by simpa using e), List.find?_cons_of_neg (by simp only [decide_eq_true_eq]; exact fun z => e (h1.symm.trans z))]
        exact ⟨i1, i2⟩
theorem some_U {F : Hp} {xs : List DU1} {kw : List (PyData × W)} (k : PyData) (h : xs.map (·.1) = kw.map (fun x => keyN x.1)) (r : RWs K F (xs.map (·.2.2)) (kw.map (·.2))) : (findU xs (keyN k)).isSome = (valU kw k).isSome := by
  obtain ⟨i1, i2⟩ := find_U k h r
  cases c : valU kw k with
  | none => rw [i2 c]; rfl
  | some w =>
    obtain ⟨v, e, _⟩ := i1 w c
    rw [e]
    rfl
theorem put_U {F : Hp} {xs : List DU1} {kw : List (PyData × W)} {k : PyData} {b : Addr} {v : V} {w : W} (h : xs.map (·.1) = kw.map (fun x => keyN x.1)) (r : RWs K F (xs.map (·.2.2)) (kw.map (·.2))) (rv : RW K F v w) :
    (putU xs (keyN k) b v).map (·.1) = (putW2 kw k w).map (fun x => keyN x.1) ∧ RWs K F ((putU xs (keyN k) b v).map (·.2.2)) ((putW2 kw k w).map (·.2)) := by
  have e := some_U k h r
  unfold putU putW2
  rw [e]
  split
  · rename_i hc
    clear hc e
    induction xs generalizing kw with
    | nil => cases kw with
      | nil => exact ⟨rfl, .nil⟩
      | cons y kw => simp at h
    | cons x xs ih => cases kw with
      | nil => simp at h
      | cons y kw =>
        obtain ⟨kx, ax, vx⟩ := x
        obtain ⟨d, w'⟩ := y
        rw [List.map_cons, List.map_cons] at h r
        injection h with h1 h2
        simp only at h1
        cases r with
        | cons r1 r2 =>
          obtain ⟨j1, j2⟩ := ih h2 r2
          subst h1
          simp only [List.map_cons]
          by_cases c : keyN d = keyN k
          · rw [if_pos c, if_pos c]
            exact ⟨by rw [j1], .cons rv j2⟩
          · rw [if_neg c, if_neg c]
            exact ⟨by rw [j1], .cons r1 j2⟩
  · rename_i hc
    clear hc e
    rw [List.map_append, List.map_append, List.map_append, List.map_append, h]
    refine ⟨rfl, ?_⟩
    generalize xs.map (·.2.2) = us at r
    generalize kw.map (·.2) = ws at r
    induction r with
    | nil => exact .cons rv .nil
    | cons a b ih => exact .cons a ih
theorem keys_put {F : Hp} {a : Addr} {xs : List DU1} {k : NestedKey} {b : Addr} {v : V} (h : KeysU K F a xs) (hk : KeyV K F (.ref b) k) (hd : k.depth ≤ 8) (hn : noTxt k = true) (hz : xs.length < sizeLine) : KeysU K F a (putU xs k b v) := by
  unfold putU
  split
  · refine ⟨h.sm, by rw [List.length_map]; exact h.sz, ?_, fun x hx => ?_⟩
    · have e : (xs.map fun x => if x.1 = k then (x.1, x.2.1, v) else x).map (·.1) = xs.map (·.1) := by
        rw [List.map_map]
        refine List.map_congr_left fun x _ => ?_
        show (if x.1 = k then (x.1, x.2.1, v) else x).1 = x.1
        split <;> rfl
      rw [e]
      exact h.nd
    · obtain ⟨y, hy, rfl⟩ := List.mem_map.mp hx
      have := h.ks y hy
      split
      · exact this
      · exact this
  · rename_i c
    refine ⟨h.sm, by rw [List.length_append]; exact hz, ?_, fun x hx => ?_⟩
    · rw [List.map_append, List.nodup_append]
      refine ⟨h.nd, by simp, fun x hx y hy e => ?_⟩
      simp only [List.map_cons, List.map_nil, List.mem_singleton] at hy
      subst hy
      subst e
      obtain ⟨z, hz, rfl⟩ := List.mem_map.mp hx
      refine c ?_
      unfold findU
      rw [Option.isSome_map]
      exact List.find?_isSome.mpr ⟨z, hz, by simp⟩
    · rcases List.mem_append.mp hx with hx | hx
      · exact h.ks x hx
      · rw [List.mem_singleton.mp hx]
        exact ⟨hk, hd, hn⟩
theorem ok_put {kw : List (PyData × W)} {k : PyData} {w : W} (h : ∀ x ∈ kw, keyOk x.1 = true) (hk : keyOk k = true) : ∀ x ∈ putW2 kw k w, keyOk x.1 = true := by
  unfold putW2
  intro x hx
  split at hx
  · obtain ⟨y, hy, rfl⟩ := List.mem_map.mp hx
    split
    · exact h y hy
    · exact h y hy
  · rcases List.mem_append.mp hx with hx | hx
    · exact h x hx
    · rw [List.mem_singleton.mp hx]; exact hk
end
/-- a key that is asked for -/
@[reducible] def gU (x : W) (k : PyData → Prop) : Prop := gT x fun ds => (keyOk (.tuple ds) = true ∧ (PyData.tuple ds).depth ≤ 8) ∧ k (.tuple ds)
section
variable {K : PySem.W.Frag} {Wx : WX} {RE : REx}
theorem gU_of {F H : Hp} {M : Mem} {v : V} {x : W} {k : PyData → Prop} (hr : Rl K F H M) (r : RW K F v x) (h : gU x k) : ∃ d b, x = .d d ∧ v = .ref b ∧ IsK K H v b (keyN d) ∧ KeyV K F (.ref b) (keyN d) ∧ (keyN d).depth ≤ 8 ∧ keyOk d = true ∧ k d := by
  obtain ⟨ds, rfl, ⟨h1, h2⟩, h3⟩ := gT_of h
  obtain ⟨b, xs, rfl, q1, q2⟩ := r.tup
  have kv := keyV_of (.tuple ds) _ (Dx.tup q1 q2) h1
  have kd := Nat.le_trans (keyN_depth (.tuple ds)) h2
  exact ⟨.tuple ds, b, rfl, rfl, ⟨rfl, KeyV.mono hr.fh _ _ kv, kd⟩, kv, kd, h1, h3⟩
/-- k in d -/
@[reducible] def fInU (neg : Bool) : F2 := fun i x M R => gR x fun a => gU i fun k => ∃ kw, M a = some (.dT kw) ∧ R (.d (.bool (ng neg (valU kw k).isSome))) M
theorem so_inU : SO K (rInU K) (fInU false) := fun F H M v u x y R Q hr rx ry hf k => by
  obtain ⟨a, rfl, q2⟩ := gR_of hf
  obtain ⟨d, b, rfl, rfl, ik, _, _, _, kw, e, q4⟩ := gU_of hr rx q2
  obtain ⟨xs, iu, _, e1, _, e2⟩ := hr.dT e
  rw [ry.ref]
  refine ⟨a, b, xs, keyN d, iu, ik, ?_⟩
  rw [some_U d e1 e2]
  exact k _ H F M _ hr .refl (.d (.bl _)) q4
theorem so_ninU : SO K (rNotInU K) (fInU true) := fun F H M v u x y R Q hr rx ry hf k => by
  obtain ⟨a, rfl, q2⟩ := gR_of hf
  obtain ⟨d, b, rfl, rfl, ik, _, _, _, kw, e, q4⟩ := gU_of hr rx q2
  obtain ⟨xs, iu, _, e1, _, e2⟩ := hr.dT e
  rw [ry.ref]
  refine ⟨a, b, xs, keyN d, iu, ik, ?_⟩
  rw [some_U d e1 e2]
  exact k _ H F M _ hr .refl (.d (.bl _)) q4
end
end Tl
set_option Elab.async false
set_option linter.all false
set_option maxRecDepth 100000
set_option maxHeartbeats 4000000
/-! Objects of own classes, as gen2 writes them: methods, makers, try .. finally, a suite that is never run. -/
namespace Tl
open PySem PySem.Spec PyProof.Rows L2
/-- a method that raises nothing -/
structure UseM (P : Program) (w : World) (K : PySem.W.Frag) (mg : Str → Option Value) (base : Heap) (C : Addr) (x : Str) (ps : List Str) (k : Nat) (sp : Sp) where
  f : Addr
  fd : FuncData
  ok : FnOk P w K mg base CX0 k f fd ps sp
  hm : L2.Meth K C x f
  b : Binds K fd ps []
/-- a class that is called; its __init__ may raise -/
structure UseC (P : Program) (w : World) (K : PySem.W.Frag) (mg : Str → Option Value) (base : Heap) (C : Addr) (x : Str) (ps : List Str) (k : Nat) (sp : Sp) where
  f : Addr
  fd : FuncData
  ok : FnOk P w K mg base (L2.CX P w) k f fd ps sp
  made : L2.Mk K C f
  m : mg x = some (.ref C)
  b : Binds K fd ps []
section
variable {X : Cx} {CX : CXT} {k : Nat} {f C : Addr} {fd : FuncData} {ps : List Str} {sp : Sp} {E : L2.St → XK} {x m : Str} {p pos apos : Pos} {e o : Expr} {es : List Expr} {ta : TE} {t : TA}
theorem run_makeS {pins : List (Addr × Obj)} {σ : L2.St} {H : Hp} {s : Shared} {Q : VK} {us : List Value} {vs : List V} (M : L2.Mk X.K C f) (F : FnOk X.prog X.w X.K X.mg X.base CX k f fd ps sp) (hr : Room (k + 1) X.A) (hb : Binds X.K fd ps []) (hx : PassesAt CX X σ (E σ)) (I : Inv X pins σ H s) (r : Vals vs us)
    (h : ∀ x dx, H x = none → H dx = none → dx ≠ x → sp (.ref x :: vs) (upd (upd H dx (.own x)) x (.ins C dx [])) (fun v H2 => v = .non ∧ Q (.ref x) H2) (E σ)) :
    wpAny (model X.prog X.w) X.A (call (.ref C) us) (EP X pins σ Q) X.xe s := by
  have hq := h (s.heap.objs.size + 1) s.heap.objs.size (I.hok.fresh (Nat.le_succ _)) (I.hok.fresh (Nat.le_refl _)) (Nat.ne_of_lt (Nat.lt_succ_self _))
  have I2 := Inv.made (C := C) I
  have r2 : Vals (V.ref (s.heap.objs.size + 1) :: vs) (Value.ref (s.heap.objs.size + 1) :: us) := .cons rfl r
  have hl : (Value.ref (s.heap.objs.size + 1) :: us).length = ps.length := by rw [← r2.length]; exact F.len _ _ _ _ hq
  have bd := hb _ (Value.ref (s.heap.objs.size + 1) :: us) I2.kIn (by rw [List.append_nil]; exact hl)
  rw [List.append_nil] at bd
  refine wpAny_call (make_map (f := f) I.kIn M.makes M.init (beq_iff_eq.mp M.fn) (codeAny_mono (F.run _ X.stack _ _ ⟨Value.ref (s.heap.objs.size + 1) :: us, []⟩ (Value.ref (s.heap.objs.size + 1) :: us) _ _ (E σ) (hr.make C us []) (I2.env0.make C us []) bd r2 hq) fun r s' hq' => ?_))
  cases r with
  | error e => exact hx pins _ _ e s' I2 hq'
  | ok fl =>
    cases fl with
    | ret u =>
      obtain ⟨v, H', I3, rv, ev, q3⟩ := I2.after hq'
      subst ev
      exact ⟨rv, ⟨V.ref (s.heap.objs.size + 1), H', I3, rfl, q3⟩⟩
    | next => exact False.elim hq'
    | brk => exact False.elim hq'
    | cont => exact False.elim hq'
theorem pe_makeE (M : L2.Mk X.K C f) (F : FnOk X.prog X.w X.K X.mg X.base CX k f fd ps sp) (hr : Room (k + 1) X.A) (hg : Gl X x) (hm : X.mg x = some (.ref C)) (hb : Binds X.K fd ps []) (hx : ∀ σ, PassesAt CX X σ (E σ))
    (ha : PA X (e :: es) t) (hdb : (x == ("__debug__" : Str)) = false := by decide) (he : starEach (e :: es) X.env = (false, eval e X.env) :: starEach es X.env := by rfl) (hpl : (backTo pos (starEach es X.env)).any (·.1) = false := by rfl) :
    PE X (.Call (.Name x p) (e :: es) [] pos) (tMakeS C sp E t) := by
  refine ⟨fun pins s σ H Q I h => ?_⟩
  refine wpAny_Call_Name_kw (ld_glob I hg hm ?_ hdb)
  refine PySem.W.callWith_K (h₀ := X.base) I.ok.mod.kin M.kp (thn (ha.run pos pins s σ H _ I h) fun us s1 ⟨vs, H1, I1, r, q⟩ => ⟨I1.kIn, ?_⟩) he hpl
  exact run_makeS M F hr hb (hx σ) I1 r q
end
/-! ### try .. finally of a suite that raises nothing and goes on behind -/
/-! ### a def that errors may leave; what is left over in the memory is dropped both ways -/
def laxX (RX : Ex → Mem → Prop) : Ex → Mem → Prop := fun x M => ∃ M0, (∀ a o, M0 a = some o → M a = some o) ∧ RX x M0
section
variable {P : Program} {w : World} {K : PySem.W.Frag} {mg : Str → Option Value} {base : Heap}
theorem okDXLL {f : Addr} {fd : FuncData} {k n : Nat} {x qual : Str} {st : Stmt} {N ps : List Str} {tf : TF} (F : Fun K x qual st f fd) (S : FnScope N ps (defScope st)) (hp : ps.length = n)
    (hb : ∀ (cdv : Value) (A : Around) (outer : List Env) (s : Shared) (H : Hp) (E : XK), Room k (A.deeper (PyProof.Rows.envOfC qual (defScope st) s.heap.objs.size f cdv)) →
      ∃ (t : TS) (T : REx → TDS), PSs (cxOf (L2.CX P w) P w K mg base N qual (defScope st) f cdv A outer s H E) (defBody st) t ∧ (∀ RE, SSt K (fun cls d _ H => E cls d H) RE t (T RE)) ∧
        ∀ ws M R RX, ws.length = n → tf ws M R RX → T (fun x _ M => laxX RX x M) (endD (lax R)) (start0 N.length ws) M) : FnOk P w K mg base (L2.CX P w) (k + 1) f fd ps (spD K n tf) := by
  refine F.okX S (fun vs H Q E h => ?_) (fun cdv A outer s H vs Q E hr h => ?_)
  · obtain ⟨F0, M, ws, R, RX, r, rs, hl, _⟩ := h
    rw [rs.len, hl, hp]
  · obtain ⟨F0, M, ws, R, RX, r, rs, hl, hf, hk, hx⟩ := h
    obtain ⟨t, T, h1, h2, h3⟩ := hb cdv A outer s H E hr
    refine ⟨t, h1, h2 (fun x _ M => laxX RX x M) F0 H M _ _ _ _ r (fun F' H' M' σ ρ cls d x g r' _ xr ⟨M0, e, z⟩ => hx cls d H' F' M0 x (r'.less e) ⟨g.ff, fun b u h1 h2 => ⟨(g.un b u h1 h2).1, none_less e (g.un b u h1 h2).2⟩, g.nf⟩ xr z) (rel_start rs) (h3 ws M R RX hl hf) (ek_def (kt_lax hk))⟩
end
/-! ### a statement that is never reached -/
section
variable {K : PySem.W.Frag} {Wx : WX} {RE : REx}
/-- x op= e -/
@[reducible] def augO (g : F2) (i : Nat) (T : TDE) : TDS := fun D ρ M => match slot ρ i with | some x => T ρ M fun y M1 => g x y M1 fun z M2 => D.nx (put ρ i (some z)) M2 | none => False
theorem ss_augO {rd : R2} {g : F2} {i : Nat} {t : TE} {T : TDE} (hg : SO K rd g) (h : SE K Wx RE t T) : SSt K Wx RE (tAug i t rd) (augO g i T) := fun F H M σ ρ D E hr hx hs ht k => by
  unfold augO at ht
  cases c : slot ρ i with
  | none => rw [c] at ht; exact ht.elim
  | some x =>
    rw [c] at ht
    obtain ⟨v, hv, rx⟩ := hs.at_ i x c
    refine ⟨v, hv, h F H M σ ρ _ _ hr hx hs ht fun u H1 F1 M1 y r1 g1 ry q1 => ?_⟩
    exact hg F1 H1 M1 v u x y _ _ r1 (rx.mono g1.ff) ry q1 fun z H2 F2 M2 zw r2 g2 rz q2 => k.nx _ _ _ _ _ r2 (g1.trans g2) ((hs.mono (g1.trans g2).ff).set rz i) q2
end
end Tl
set_option Elab.async false
set_option linter.all false
set_option maxRecDepth 100000
set_option maxHeartbeats 4000000
/-! dict(xs), xs a list of pairs (tuple of numbers, value). -/
namespace Tl
open PySem PySem.Spec PyProof.Rows L2
def foldU (acc xs : List DU1) : List DU1 := xs.foldl (fun a x => putU a x.1 x.2.1 x.2.2) acc
theorem Paired.foldU {xs : List DU1} {ys : List DU2} (h : Paired RelU xs ys) : ∀ {acc : List DU1} {bcc : List DU2}, Paired RelU acc bcc → Paired RelU (Tl.foldU acc xs) (storedAllH bcc ys) := by
  induction h with
  | nil => exact fun h0 => h0
  | @cons x y xs ys r t ih =>
    intro acc bcc h0
    obtain ⟨r1, r2, r3⟩ := r
    have := ih (Paired.putU h0 x.1 x.2.1 r3)
    rw [r1, r2] at this
    show Paired RelU (Tl.foldU (Tl.putU acc x.1 x.2.1 x.2.2) xs) (storedAllH (storedH bcc y.1 y.2.1 y.2.2) ys)
    rw [r1, r2]
    exact this
theorem noTxt_put {acc : List DU2} {k : NestedKey} {b : Addr} {v : Value} (h0 : ∀ y ∈ acc, noTxt y.1 = true) (hk : noTxt k = true) : ∀ y ∈ storedH acc k b v, noTxt y.1 = true := by
  intro y hy
  unfold storedH at hy
  split at hy
  · obtain ⟨z, hz, rfl⟩ := List.mem_map.mp hy
    unfold putAt
    split
    · exact h0 z hz
    · exact h0 z hz
  · rcases List.mem_append.mp hy with hy | hy
    · exact h0 y hy
    · rw [List.mem_singleton.mp hy]; exact hk
theorem noTxt_all : ∀ (ys acc : List DU2), (∀ y ∈ acc, noTxt y.1 = true) → (∀ y ∈ ys, noTxt y.1 = true) → ∀ y ∈ storedAllH acc ys, noTxt y.1 = true
  | [], _, h0, _ => h0
  | y :: ys, acc, h0, h1 => noTxt_all ys (storedH acc y.1 y.2.1 y.2.2) (noTxt_put h0 (h1 y (List.mem_cons_self ..))) fun z hz => h1 z (List.mem_cons_of_mem _ hz)
section
variable {X : Cx} {pins : List (Addr × Obj)} {σ : L2.St} {H : Hp} {s : Shared}
theorem pairs_ofU (I : Inv X pins σ H s) : ∀ {ps : List Addr} {kvs : List DU1}, Paired (fun p (x : DU1) => SqT X.K H p [.ref x.2.1, x.2.2]) ps kvs →
    ∃ ys : List DU2, Paired RelU kvs ys ∧ ys.length = ps.length ∧ ∀ (j : Nat) (y : DU2), ys[j]? = some y → ∃ b : Addr, ps[j]? = some b ∧ IsTup s.heap b #[.ref y.2.1, y.2.2]
  | _, _, .nil => ⟨[], .nil, rfl, fun j q e => by simp at e⟩
  | _, _, .cons (a := p) (b := x) h t => by
    obtain ⟨ys, r, hl, hp⟩ := pairs_ofU I t
    obtain ⟨its, rv, ht, _⟩ := I.tuple h
    obtain ⟨u, y, ei, ru, ry⟩ := vals2 rv
    subst ei
    obtain rfl : u = Value.ref x.2.1 := ru
    refine ⟨(x.1, x.2.1, y) :: ys, .cons ⟨rfl, rfl, ry⟩ r, by rw [List.length_cons, List.length_cons, hl], fun j q e => ?_⟩
    cases j with
    | zero =>
      have e' : (x.1, x.2.1, y) = q := Option.some.inj e
      subst e'
      exact ⟨p, rfl, ht⟩
    | succ j =>
      obtain ⟨b, e1, e2⟩ := hp j q (by simpa using e)
      exact ⟨b, by simpa using e1, e2⟩
def rDictU (K : PySem.W.Frag) : List V → Hp → VK → Prop := fun vs H Q => ∃ (a : Addr) (ps : List Addr) (kvs : List DU1), vs = [.ref a] ∧ SqL K H a (ps.map V.ref) ∧ Paired (fun p (x : DU1) => SqT K H p [.ref x.2.1, x.2.2]) ps kvs ∧
  (∀ x ∈ kvs, KeyV K H (.ref x.2.1) x.1 ∧ x.1.depth ≤ 8 ∧ noTxt x.1 = true) ∧ ∀ p, H p = none → (p == sysModules) = false → Q (.ref p) (upd H p (DU p (foldU [] kvs)))
theorem call_dictU (hcalm : X.calm = true) (hu : X.A.units + 20 < cLine) : CallR X (.type "dict") (rDictU X.K) := by
  intro pins s σ H vs us Q I r q
  obtain ⟨a, ps, kvs, ex, hq, hp, hk, q⟩ := q
  subst ex
  obtain ⟨u, eu, rx⟩ := vals1 r
  subst eu
  cases rx
  obtain ⟨its, rv, pl, hz⟩ := I.list hq
  have ei := refs_at rv
  subst ei
  rw [List.length_map] at hz
  obtain ⟨ys, rel, hl, hpr⟩ := pairs_ofU I hp
  obtain ⟨o, n, ho, hc, hd, hdat⟩ := pl
  have hks : ∀ y ∈ ys, (nestedKind X.prog X.w).is s.heap y.1 y.2.1 := fun y hy => by
    obtain ⟨x, hx, r1, r2, _⟩ := Paired.memU rel y hy
    obtain ⟨q1, q2, _⟩ := hk x hx
    rw [← r1, ← r2]
    exact ⟨q1.is I rfl, q2⟩
  have hnt : ∀ y ∈ ys, noTxt y.1 = true := fun y hy => by
    obtain ⟨x, hx, r1, r2, _⟩ := Paired.memU rel y hy
    rw [← r1]
    exact (hk x hx).2.2
  refine call_dict_pairsH (knd := nestedKind X.prog X.w) (ps := ys) (PairArg.list a (ps.map Value.ref).toArray (fun j => (ps[j]?).getD 0) (ys.map fun y => (Value.ref y.2.1, y.2.2))) (I.ok.hd hcalm)
    (show X.A.units + 1 + 1 + 8 < cLine by omega) ⟨⟨o, n, ho, hc, hd, hdat⟩, by simp [hl], fun j k v e => ?_⟩ ⟨by rw [List.length_map], fun i key v e => ?_⟩ ?_ (by rw [List.length_map, hl]; exact hz) fun h' tk hd' kk => ?_
  · rw [List.getElem?_map] at e
    obtain ⟨y, ey, e2⟩ := Option.map_eq_some_iff.mp e
    injection e2 with e3 e4
    obtain ⟨b, e5, e6⟩ := hpr j y ey
    refine ⟨?_, .inl ?_⟩
    · simp [e5]
    · show s.heap.IsTuple ((ps[j]?).getD 0) #[k, v]
      rw [e5, ← e3, ← e4]
      exact e6
  · rw [PairRel, List.getElem?_map] at e
    obtain ⟨y, ey, e2⟩ := Option.map_eq_some_iff.mp e
    injection e2 with e3 e4
    exact ⟨y.1, y.2.1, by rw [ey, ← e4], e3.symm⟩
  · intro h' hh x hx
    exact nestedKind_stays.stays (fun b o vs n e _ => hh b o (Nat.ne_of_lt (Heap.lt_size e)) (fun z => nomatch z) e) (hks x hx)
  · have hm : (s.heap.objs.size == sysModules) = false := beq_eq_false_iff_ne.mpr (Nat.ne_of_gt I.big)
    obtain ⟨o2, es, ep, g1, g2, g3, g4, g5, g6⟩ := hd'
    refine ⟨.ref s.heap.objs.size, upd H s.heap.objs.size (DU s.heap.objs.size (foldU [] kvs)), I.laid (t' := tk) (fun b o e => kk b o (fun z => nomatch z) e) (Nat.le_refl _) (phiU_ok ⟨storedAllH [] ys, o2, es, ep, Paired.foldU rel .nil, g1, g2, g3, fun w => ?_⟩), rfl, q _ (I.hok.fresh (Nat.le_refl _)) hm⟩
    rw [g4]
    refine List.map_congr_left fun y hy => ?_
    unfold entU
    show (⟨y.1.hash X.w, _, _⟩ : DictEntry) = _
    rw [hash_any y.1 X.w w (noTxt_all ys [] (fun _ z => nomatch z) hnt y hy)]
end
/-! ### as memory tells -/
/-- pairs as data -/
abbrev KD := List PyData × PyData
@[reducible] def dKD (x : KD) : PyData := .tuple [.tuple x.1, x.2]
def mergW (acc : List (PyData × W)) (xs : List KD) : List (PyData × W) := xs.foldl (fun a x => putW2 a (.tuple x.1) (.d x.2)) acc
section
variable {K : PySem.W.Frag} {F H : Hp}
theorem kd_of : ∀ {kvs : List KD} {vs : List V}, RWs K F vs (kvs.map fun x => .d (dKD x)) → (∀ x ∈ kvs, keyOk (.tuple x.1) = true ∧ (PyData.tuple x.1).depth ≤ 8) →
    ∃ (ps : List Addr) (us : List DU1), vs = ps.map V.ref ∧ Paired (fun p (x : DU1) => SqT K F p [.ref x.2.1, x.2.2]) ps us ∧ us.map (·.1) = kvs.map (fun x => keyN (.tuple x.1)) ∧ RWs K F (us.map (·.2.2)) (kvs.map fun x => .d x.2) ∧ ∀ x ∈ us, KeyV K F (.ref x.2.1) x.1 ∧ x.1.depth ≤ 8 ∧ noTxt x.1 = true
  | [], _, r, _ => by
    cases r
    exact ⟨[], [], rfl, .nil, rfl, .nil, fun x hx => by cases hx⟩
  | kv :: kvs, _, r, hk => by
    cases r with
    | cons r1 r2 =>
      obtain ⟨ps, us, rfl, h1, h2, h3, h4⟩ := kd_of r2 fun x hx => hk x (List.mem_cons_of_mem _ hx)
      obtain ⟨p, xs, rfl, q1, q2⟩ := r1.tup
      cases q2 with
      | cons d1 q3 =>
        cases q3 with
        | cons d2 q4 =>
          cases q4
          obtain ⟨ko, kd⟩ := hk kv (List.mem_cons_self ..)
          cases d1 with
          | tup e1 e2 =>
            rename_i b ys
            refine ⟨p :: ps, (keyN (.tuple kv.1), b, _) :: us, rfl, .cons q1 h1, by rw [List.map_cons, List.map_cons, h2], .cons (.d d2) h3, fun x hx => ?_⟩
            rcases List.mem_cons.mp hx with e | e
            · rw [e]
              exact ⟨keyV_of (.tuple kv.1) _ (Dx.tup e1 e2) ko, Nat.le_trans (keyN_depth (.tuple kv.1)) kd, keyN_noTxt (.tuple kv.1) ko⟩
            · exact h4 x e
theorem fold_U : ∀ {us : List DU1} {kvs : List KD}, us.map (·.1) = kvs.map (fun x => keyN (.tuple x.1)) → RWs K F (us.map (·.2.2)) (kvs.map fun x => .d x.2) → (∀ x ∈ us, KeyV K F (.ref x.2.1) x.1 ∧ x.1.depth ≤ 8 ∧ noTxt x.1 = true) → (∀ x ∈ kvs, keyOk (.tuple x.1) = true) →
    ∀ {a : Addr} {acc : List DU1} {bcc : List (PyData × W)}, acc.length + us.length ≤ sizeLine → KeysU K F a acc → acc.map (·.1) = bcc.map (fun x => keyN x.1) → RWs K F (acc.map (·.2.2)) (bcc.map (·.2)) → (∀ x ∈ bcc, keyOk x.1 = true) →
    KeysU K F a (foldU acc us) ∧ (foldU acc us).map (·.1) = (mergW bcc kvs).map (fun x => keyN x.1) ∧ RWs K F ((foldU acc us).map (·.2.2)) ((mergW bcc kvs).map (·.2)) ∧ ∀ x ∈ mergW bcc kvs, keyOk x.1 = true
  | [], [], _, _, _, _, _, _, _, _, k0, k1, k2, k3 => ⟨k0, k1, k2, k3⟩
  | [], _ :: _, h, _, _, _, _, _, _, _, _, _, _, _ => by simp at h
  | _ :: _, [], h, _, _, _, _, _, _, _, _, _, _, _ => by simp at h
  | u :: us, kv :: kvs, h, r, hu, hk, a, acc, bcc, hz, k0, k1, k2, k3 => by
    rw [List.map_cons, List.map_cons] at h r
    injection h with h1 h2
    cases r with
    | cons r1 r2 =>
      obtain ⟨q1, q2, q3⟩ := hu u (List.mem_cons_self ..)
      obtain ⟨p1, p2⟩ := put_U (k := .tuple kv.1) (b := u.2.1) k1 k2 r1
      rw [List.length_cons] at hz
      have kp := keys_put (v := u.2.2) k0 q1 q2 q3 (by omega)
      have hl : (putU acc u.1 u.2.1 u.2.2).length ≤ acc.length + 1 := by
        unfold putU
        split <;> simp
      have := fold_U h2 r2 (fun x hx => hu x (List.mem_cons_of_mem _ hx)) (fun x hx => hk x (List.mem_cons_of_mem _ hx)) (a := a) (acc := putU acc u.1 u.2.1 u.2.2) (bcc := putW2 bcc (.tuple kv.1) (.d kv.2)) (by omega) kp (by rw [h1]; exact p1) (by rw [h1]; exact p2) (ok_put k3 (hk kv (List.mem_cons_self ..)))
      exact this
end
theorem paired_mono {α β : Type} {R S : α → β → Prop} (h : ∀ a b, R a b → S a b) : ∀ {xs : List α} {ys : List β}, Paired R xs ys → Paired S xs ys
  | _, _, .nil => .nil
  | _, _, .cons a t => .cons (h _ _ a) (paired_mono h t)
theorem hu20 {k : Nat} {A : Around} (hr : Room k A) : A.units + 20 < cLine := by have := hr.un; omega
/-! ### xs.index(x), data -/
/-! ### ord(x) -/
end Tl
set_option Elab.async false
set_option linter.all false
set_option maxRecDepth 100000
set_option maxHeartbeats 4000000
/-! len of a dict keyed by tuples. -/
set_option Elab.async false
set_option linter.all false
set_option maxRecDepth 100000
set_option maxHeartbeats 4000000
/-! d.setdefault(k, x), d keyed by tuples. -/
namespace Tl
open PySem PySem.Spec PyProof.Rows L2
/-! ### methods of such a dict -/
def tUM (K : PySem.W.Frag) (r : V → List V → Hp → VK → Prop) (to : TE) (t : TA) : TE := fun σ H Q => to σ H fun x H1 => (∃ a xs, IsU K H1 x a xs) ∧ t σ H1 fun ys H2 => r x ys H2 Q
theorem pe_ubm {X : Cx} {o e : Expr} {es : List Expr} {to : TE} {t : TA} {name : Str} {apos cpos : Pos} {id : String} {r : V → List V → Hp → VK → Prop} (slot : Slot "dict" name id) (hty : typeOf (.builtin id) = pure (.type "method_descriptor")) (hm : MtR X id r) (ho : PE X o to) (ha : PA X (e :: es) t)
    (hbase : attributeBase o name X.env (eval o X.env) = eval o X.env := by rfl)
    (hfew : ((backTo cpos (starEach (e :: es) X.env)).all (fun x => !x.1) && (backToKw cpos (keywordEach [] X.env)).all (fun x => x.1.isSome)
      && decide ((e :: es).length + ([] : List Keyword).length + (if ([] : List Keyword).isEmpty then 0 else 1) < 30)) = true := by rfl)
    (hline : (apos.endLine == cpos.line) = true := by rfl) (hs : starEach (e :: es) X.env = (false, eval e X.env) :: starEach es X.env := by rfl) (hplain : (backTo cpos (starEach es X.env)).any (·.1) = false := by rfl) :
    PE X (.Call (.Attribute o name apos) (e :: es) [] cpos) (tUM X.K r to t) := by
  refine ⟨fun pins s σ H Q I h => ?_⟩
  refine wpAny_Call_method_late hbase hfew hline rfl (thn (ho.run pins s σ H _ I h) fun v s1 ⟨x, H1, I1, r1, ⟨a, xs, ⟨ex, ea, eu⟩⟩, q1⟩ => ?_)
  subst ex
  obtain ⟨zs, h1, dd, _⟩ := DU_of I1 ea eu
  have hA := ha.run cpos pins s1 σ H1 _ I1 q1
  obtain rfl : v = Value.ref a := r1
  have hob : ∀ b, Value.ref a = .ref b → ∃ ob, s1.heap.get? b = some ob ∧ ob.dict = none := fun b e => by
    cases e
    obtain ⟨ob, _, _, g1, g2, _⟩ := dd
    exact ⟨ob, g1, g2.2.1⟩
  refine ⟨"dict", id, PySem.F.plainAttrs_dict, slot, hty, dd.typeIs, hob, ?_⟩
  rw [hs] at hA ⊢
  refine Calls.callWith_builtin (by show (false || (backTo cpos (starEach es X.env)).any (·.1)) = false; rw [hplain] <;> rfl) (Calls.evalArgs_plain ?_)
  exact thn hA fun us s2 ⟨vs, H2, I2, r2, q2⟩ => hm pins s2 σ H2 (.ref a) vs (.ref a) us Q I2 rfl r2 q2
@[reducible] def umT (f : W → List W → Mem → (W → Mem → Prop) → Prop) (T : TDE) (U : TDA) : TDE := fun ρ M R => T ρ M fun x M1 => gR x fun a => (∃ kw, M1 a = some (.dT kw)) ∧ U ρ M1 fun xs M2 => f (.r a) xs M2 R
section
variable {K : PySem.W.Frag} {Wx : WX} {RE : REx}
theorem se_ubm {n : Nat} {r : V → List V → Hp → VK → Prop} {f : W → List W → Mem → (W → Mem → Prop) → Prop} {to : TE} {t : TA} {T : TDE} {U : TDA} (ho : SM K r f) (h1 : SE K Wx RE to T) (h2 : SAn K Wx RE n t U) :
    SE K Wx RE (tUM K r to t) (umT f T U) := fun F H M σ ρ R Q hr hx hs ht k =>
  h1 F H M σ ρ _ _ hr hx hs ht fun v H1 F1 M1 x r1 g1 rx q1 => by
    obtain ⟨a, rfl, ⟨kw, hw⟩, q2⟩ := gR_of q1
    rw [rx.ref]
    obtain ⟨ys, iu, _⟩ := r1.dT hw
    refine ⟨⟨a, ys, iu⟩, h2 F1 H1 M1 σ ρ _ _ r1 (hx.mono g1) (hs.mono g1.ff) q2 fun us H2 F2 M2 xs r2 g2 rxs hl q3 => ?_⟩
    exact ho F2 H2 M2 _ us _ xs R Q r2 (.r a) rxs q3 fun w H3 F3 M3 z r3 g3 rz hz => k w H3 F3 M3 z r3 ((g1.trans g2).trans g3) rz hz
end
/-! ### d.get(k) -/
def rGetU (K : PySem.W.Frag) : V → List V → Hp → VK → Prop := fun x ys H Q => ∃ a b xs k y, IsU K H x a xs ∧ ys = [y] ∧ IsK K H y b k ∧ Q ((findU xs k).getD .non) H
theorem mt_getU {X : Cx} (hu : X.A.units + 20 < cLine) : MtR X "dict.get" (rGetU X.K) := by
  intro pins s σ H x ys v us Q I rx rys h
  obtain ⟨a, b, xs, k, y, ⟨ex, ea, eu⟩, rfl, ⟨ey, ek, ed⟩, q1⟩ := h
  subst ex ey
  obtain rfl : v = Value.ref a := rx
  rcases rys with _ | ⟨ry, rt⟩
  cases rt
  rename_i uy
  obtain rfl : uy = Value.ref b := ry
  obtain ⟨zs, h1, dd, hnt⟩ := DU_of I ea eu
  have f := Paired.findU h1 k
  refine get_keyed (knd := nestedKind X.prog X.w) (k := k) (kvs := pairsH zs) (show X.A.units + 1 + 8 < cLine by omega) ⟨ek.is I rfl, ed⟩ eu.sm ⟨zs, dd, rfl⟩ ?_
  rw [valueAt_pairsH]
  refine ⟨_, H, I.tok _, ?_, q1⟩
  cases c : findU xs k with
  | none =>
    rw [c] at f
    cases c2 : (atKey zs k).map (·.2) with
    | none => exact rfl
    | some w => rw [c2] at f; exact f.elim
  | some w =>
    rw [c] at f
    cases c2 : (atKey zs k).map (·.2) with
    | none => rw [c2] at f; exact f.elim
    | some w2 => rw [c2] at f; exact f
@[reducible] def fGetU : W → List W → Mem → (W → Mem → Prop) → Prop := fun x xs M R => gR x fun a => g1 xs fun y => gU y fun k => ∃ kw, M a = some (.dT kw) ∧ R ((valU kw k).getD (.d .none)) M
section
variable {K : PySem.W.Frag}
theorem sm_getU : SM K (rGetU K) fGetU := fun F H M v vs x xs R Q hr rx rxs hf k => by
  obtain ⟨a, rfl, h1⟩ := gR_of hf
  obtain ⟨y, rfl, h2⟩ := g1_of h1
  obtain ⟨u1, rfl, ry⟩ := rxs.one
  obtain ⟨d, b, rfl, rfl, ik, kv, kd, ko, kw, e, q⟩ := gU_of hr ry h2
  obtain ⟨ys, iu, ku, e1, e3, e2⟩ := hr.dT e
  obtain ⟨f1, f2⟩ := find_U d e1 e2
  rw [rx.ref]
  refine ⟨a, b, ys, keyN d, _, iu, rfl, ik, ?_⟩
  cases c : valU kw d with
  | none =>
    rw [f2 c]
    rw [c] at q
    exact k _ H F M _ hr .refl (.d .non) q
  | some w' =>
    obtain ⟨v', h5, h6⟩ := f1 w' c
    rw [h5]
    rw [c] at q
    exact k _ H F M _ hr .refl h6 q
end
end Tl
set_option Elab.async false
set_option linter.all false
set_option maxRecDepth 100000
set_option maxHeartbeats 4000000
/-! list(d), d keyed by tuples of numbers: its keys, in order. -/
set_option Elab.async false
set_option linter.all false
set_option maxRecDepth 100000
set_option maxHeartbeats 4000000
/-! < and >= of data that are alike; x in a tuple of data; sorted(..) of a tuple. -/
namespace Tl
open PySem L2 PyProof.Rows
open PySem.W (alike alikeAll AllAlike dataLe dataLt SortsAt EachIs keyToks)
/-- data that may be compared by < -/
structure CmpOk (d e : PyData) : Prop where
  al : alike d e = true
  nn : d ≠ .none
  nd : d.hasDict = false ∧ e.hasDict = false
  dp : d.depth ≤ 60
def rCmp (K : PySem.W.Frag) (g : PyData → PyData → Bool) : R2 := fun x y H Q => ∃ d e, Dp K H x d ∧ Dp K H y e ∧ CmpOk d e ∧ Q (.bl (g d e)) H
section
variable {X : Cx}
theorem room60 {A : Around} {d e : PyData} (h : d.depth ≤ 60) (hu : A.units + 65 < cLine) : A.units + min d.depth e.depth < cLine :=
  Nat.lt_of_le_of_lt (Nat.add_le_add_left (Nat.le_trans (Nat.min_le_left _ _) (Nat.le_trans h (by decide : 60 ≤ 65))) _) hu
theorem op_geD (hu : X.A.units + 65 < cLine) : OpR X (compareOp .GtE) (rCmp X.K fun d e => !dataLt d e) := by
  intro pins s σ H x y v u Q I rx ry ⟨d, e, hd, he, c, q⟩
  obtain ⟨as, r1⟩ := Dp.reads I d x v hd rx
  obtain ⟨bs, r2⟩ := Dp.reads I e y u he ry
  exact PySem.W.ge_data r1 r2 c.al c.nn (room60 c.dp hu) ⟨.bl _, H, I, rfl, q⟩
end
section
variable {K : PySem.W.Frag}
@[reducible] def fCmp (g : PyData → PyData → Bool) : F2 := fun x y M R => gD x fun d => gD y fun e => CmpOk d e ∧ R (.d (.bool (g d e))) M
theorem so_cmp {g : PyData → PyData → Bool} : SO K (rCmp K g) (fCmp g) := fun F H M v u x y R Q hr rx ry hf k => by
  obtain ⟨d, rfl, h1⟩ := gD_of hf
  obtain ⟨e, rfl, c, h2⟩ := gD_of h1
  exact ⟨d, e, Dx.dp _ _ (Dx.mono hr.fh _ _ rx.dx) c.nd.1, Dx.dp _ _ (Dx.mono hr.fh _ _ ry.dx) c.nd.2, c, k _ H F M _ hr .refl (.d (.bl _)) h2⟩
end
end Tl
set_option Elab.async false
set_option linter.all false
set_option maxRecDepth 100000
set_option maxHeartbeats 4000000
/-! Dicts keyed by tuples of numbers: read while they are walked, walked, made by a comprehension. -/
namespace Tl
open PySem PySem.Spec PyProof.Rows L2
/-! ### there, walked or not -/
section
variable {X : Cx} {pins : List (Addr × Obj)} {σ : L2.St} {H : Hp} {s : Shared} {a b : Addr} {xs : List DU1} {k : NestedKey} {A : Around} {E : Value → Shared → Prop}
/-- d[k] = v by a comprehension -/
theorem d_dictSetU {v : V} {u : Value} {Q : Unit → Shared → Prop} (hu : A.units + 20 < cLine) (I : Inv X pins σ H s) (e : H a = some (DU a xs)) (ku : KeysU X.K H a xs) (hk : KeyV X.K H (.ref b) k) (hd : k.depth ≤ 8) (hn : noTxt k = true) (hz : xs.length < sizeLine) (r : RelV v u) (h : ∀ s', Inv X pins σ (upd H a (DU a (putU xs k b v))) s' → Q () s') :
    wpAny (model X.prog X.w) A (dictSet a (.ref b) u) Q E s := by
  obtain ⟨ys, h1, dd, hnt⟩ := DU_of I e ku
  have hz2 : ys.length ≤ sizeLine := by rw [← Paired.length h1]; omega
  refine wpAny_dictSet_heap (knd := nestedKind X.prog X.w) (k := k) (hsz := hz2) (show A.units + 8 < cLine by omega) ⟨hk.is I rfl, hd⟩ dd fun h' dd' hs => h _ ?_
  obtain ⟨o, es, ep, g1, g2, g3, g4, g5, g6⟩ := dd'
  refine d_write I (by rw [e]; exact True.intro) hs ⟨o, g1⟩ (phiU_ok ⟨_, o, es, ep, Paired.putU h1 k b r, g1, g2, g3, fun w => ?_⟩)
  rw [g4]
  refine List.map_congr_left fun y hy => ?_
  have hy2 : noTxt y.1 = true := by
    unfold storedH at hy
    split at hy
    · obtain ⟨z, hz, rfl⟩ := List.mem_map.mp hy
      unfold putAt
      split
      · exact hnt z hz
      · exact hnt z hz
    · rcases List.mem_append.mp hy with hy | hy
      · exact hnt y hy
      · rw [List.mem_singleton.mp hy]; exact hn
  unfold entU
  show (⟨y.1.hash X.w, _, _⟩ : DictEntry) = _
  rw [hash_any y.1 X.w w hy2]
end
/-! ### {k: v for x in ..} -/
def tDcU (K : PySem.W.Frag) (wi : TI) (g : TG) (tt : TT) (tk tv : TE) (vs : List Nat) : TE := fun σ H Q => wi σ H fun J H1 => ∀ D, H1 D = none → (D == sysModules) = false → ∃ W : Nat → Nat → Hp → Prop, (∃ m, W 0 m (upd H1 D (DU D []))) ∧ ∀ i m H, W i m H →
  (J.stop i H ∧ Q (.ref D) H) ∨ (J.go i H ∧ ∃ Nx : Hp → Prop, (∀ H', Nx H' → ∃ m', m' < m ∧ W (i + 1) m' H') ∧ ∀ x H', J.yld i H x H' → g x (wipe σ vs) H' fun σ2 H2 => wipe σ2 vs = wipe σ vs ∧ tt σ2 H2 fun b H3 =>
    if b = true then tk σ2 H3 fun y H4 => tv σ2 H4 fun z H5 => ∃ b kvs k, IsK K H5 y b k ∧ noTxt k = true ∧ H5 D = some (DU D kvs) ∧ KeysU K H5 D kvs ∧ kvs.length < sizeLine ∧ Nx (upd H5 D (DU D (putU kvs k b z))) else Nx H3)
section
variable {X : Cx}
theorem dcU_core {pins : List (Addr × Obj)} {s : Shared} {σ : L2.St} {H : Hp} {Q : VK} {kx vx tg iter : Expr} {ifs : List Expr} {scope : Scope} {own : List (Str × Nat)} {pos pos' : Pos} {wi : TI} {g : TG} {tt : TT} {tk tv : TE} {use : Option (Value → Sem Unit)} {Qf : Value → Shared → Prop}
    (hu : X.A.units + 20 < cLine) (hc : X.calm = true) (hN : X.N.Nodup) (I : Inv X pins σ H s) (hi : PI X tg iter wi) (ok : BlkOk X.N X.env.scope scope own)
    (hg : ∀ (s : Shared) (H : Hp) (C : Addr) (cl : List (Str × Addr)) (fp : List Addr), PG (X.blk s H scope (compEnvC scope cl C X.env) fp) tg g) (ht : ∀ (s : Shared) (H : Hp) (C : Addr) (cl : List (Str × Addr)) (fp : List Addr), PTs (X.blk s H scope (compEnvC scope cl C X.env) fp) ifs tt)
    (hk : ∀ (s : Shared) (H : Hp) (C : Addr) (cl : List (Str × Addr)) (fp : List Addr), PE (X.blk s H scope (compEnvC scope cl C X.env) fp) kx tk)
    (he : ∀ (s : Shared) (H : Hp) (C : Addr) (cl : List (Str × Addr)) (fp : List Addr), PE (X.blk s H scope (compEnvC scope cl C X.env) fp) vx tv) (hs : ∀ x, foldedSetIterable iter X.env x = pure x)
    (h : tDcU X.K wi g tt tk tv (own.map (·.2)) σ H Q)
    (hRR : ∀ D C s' m H', Inv X pins σ H' s' → Q (.ref D) H' → s'.heap.Ns C m → FpOk X pins H' C → compPost (model X.prog X.w) X.A X.xe use Qf (.ref D) C (.ok .next) s') :
    wpAny (model X.prog X.w) X.A (comprehension (.DictComp kx vx [⟨tg, iter, ifs, 0⟩] scope pos) scope X.env pos' newDict false (eval iter X.env) use) Qf X.xe s := by
  have hfree : ∀ y ∈ scope.names, y.2 = .free → ∃ c, X.env.cells.lookup y.1 = some c := fun y hy e => by
    rcases ok.free y hy e with k | k
    · exact I.ok.has _ (.inl k)
    · exact I.ok.has _ (.inr k)
  refine wpAny_comprehension_free (use := use) rfl hs (closure_ok hfree) ok.kind (fun y hy e => by rw [ok.uniq y hy, e])
    (thn (hi.run pins s σ H _ I h) fun xv s1 hx => thn hx fun itv s2 h2 => ?_)
  obtain ⟨it, fp, tn, J, H2, e, I2, T, st2, f2, q⟩ := h2
  subst e
  refine wpAny_newObj_type (newEnv_comp ?_)
  generalize hD : s2.heap.objs.size = D
  have hDn : H2 D = none := I2.hok.fresh (Nat.le_of_eq hD)
  have hDs : (D == sysModules) = false := by
    rw [← hD]
    exact beq_eq_false_iff_ne.mpr (Ne.symm (Nat.ne_of_lt I2.big))
  obtain ⟨W, ⟨m0, w0⟩, turn⟩ := q D hDn hDs
  -- the new list
  generalize hs3 : ({ s2 with heap := s2.heap.push { cls := .type "dict", data := .dict #[] } } : Shared) = s3
  have I3 : Inv X pins σ (upd H2 D (DU D [])) s3 := by
    rw [← hs3]
    refine I2.laid (t' := s2.toks) (fun b o e => Heap.get?_push_of_some _ e) (Nat.le_of_eq hD) ?_
    rw [← hD]
    exact du_empty s2.heap
  have h3 : s3.heap = s2.heap.push { cls := .type "dict", data := .dict #[] } := by rw [← hs3]
  have sz : ∀ b ∈ fp, b < s2.heap.objs.size := fun b hb => by
    obtain ⟨o, e, _⟩ := T.obj _ _ st2 b hb
    exact Heap.lt_size e
  have f3 : ∀ b ∈ fp, FpOk X pins (upd H2 D (DU D [])) b ∧ b < s3.heap.objs.size := fun b hb => by
    have hlt := sz b hb
    refine ⟨⟨?_, (f2 b hb).2⟩, by rw [h3, Heap.size_push]; exact Nat.lt_succ_of_lt hlt⟩
    rw [upd_ne (by rw [← hD]; exact Nat.ne_of_lt hlt)]
    exact (f2 b hb).1
  have st3 : tn 0 s3.heap := T.keep _ _ _ st2 fun b _ o e => by rw [h3]; exact Heap.get?_push_of_some _ e
  have I4 := block_start I3 ok hN f3
  have pg := hg s3 (upd H2 D (DU D [])) s3.heap.objs.size (cellsFrom (s3.heap.objs.size + 1) scope.names (cloFrom X.env.cells scope.names [])) fp
  have pt := ht s3 (upd H2 D (DU D [])) s3.heap.objs.size (cellsFrom (s3.heap.objs.size + 1) scope.names (cloFrom X.env.cells scope.names [])) fp
  have pk := hk s3 (upd H2 D (DU D [])) s3.heap.objs.size (cellsFrom (s3.heap.objs.size + 1) scope.names (cloFrom X.env.cells scope.names [])) fp
  have pe := he s3 (upd H2 D (DU D [])) s3.heap.objs.size (cellsFrom (s3.heap.objs.size + 1) scope.names (cloFrom X.env.cells scope.names [])) fp
  show codeAny _ _ (.compStart (.DictComp kx vx [⟨tg, iter, ifs, 0⟩] scope pos) 0 (.ref it) (.ref D) (compEnvC scope (cellsFrom (s3.heap.objs.size + 1) scope.names (cloFrom X.env.cells scope.names [])) s3.heap.objs.size X.env)) (compPost (model X.prog X.w) X.A X.xe use Qf (.ref D) s3.heap.objs.size) { s3 with heap := pushCells (s3.heap.push { cls := .type "dict", data := .dict #[] }) scope.names }
  have nfp : ∀ b ∈ fp, (upd H2 D (DU D [])) b = none := fun b hb => (f3 b hb).1.1
  generalize hce : compEnvC scope (cellsFrom (s3.heap.objs.size + 1) scope.names (cloFrom X.env.cells scope.names [])) s3.heap.objs.size X.env = ce at I4 pg pt pk pe ⊢
  have cL : ce.locals = s3.heap.objs.size := by subst hce; rfl
  generalize hH3 : upd H2 D (DU D []) = H3 at I3 I4 pg pt pk pe w0 nfp f3
  generalize hs4 : ({ s3 with heap := pushCells (s3.heap.push { cls := .type "dict", data := .dict #[] }) scope.names } : Shared) = s4 at I4 ⊢
  have st4 : tn 0 s4.heap := T.keep _ _ _ st3 fun b _ o e => by rw [← hs4]; exact pushCells_keeps _ _ _ _ (Heap.get?_push_of_some _ e)
  have stat : ∀ {σ' : L2.St} {H' : Hp} {s' : Shared}, Inv (X.blk s3 H3 scope ce fp) [] σ' H' s' → (∀ b ∈ fp, H' b = none) → ∀ b ∈ fp, FpOk (X.blk s3 H3 scope ce fp) [] H' b := fun {σ' H' s'} I' hn b hb =>
    ⟨hn b hb, (I'.ok.exf b hb).1, I'.ok.exfs b hb, .inl hb, fun x c e => (I'.ok.exf b hb).2 x c e, fun p hp => absurd (show p ∈ ([] : List (Addr × Obj)) ++ [] from hp) (by simp)⟩
  have loop : codeAny (model X.prog X.w) X.A (.compLoop (.DictComp kx vx [⟨tg, iter, ifs, 0⟩] scope pos) 0 (.ref it) (.ref D) ce) (compPost (model X.prog X.w) X.A X.xe use Qf (.ref D) s3.heap.objs.size) s4 := by
    refine compLoop_anyD (fun n s' => ∃ i H', Inv (X.blk s3 H3 scope ce fp) [] (wipe σ (own.map (·.2))) H' s' ∧ tn i s'.heap ∧ (∀ b ∈ fp, H' b = none) ∧ W i n H') ?_ m0 ⟨0, H3, I4, st4, nfp, w0⟩
    rintro n s5 ⟨i, H5, I5, st5, n5, w5⟩
    rcases turn i n H5 w5 with ⟨stop, qq⟩ | ⟨go, Nx, hNx, step⟩
    · have td := T.done (X.blk s3 H3 scope ce fp) rfl rfl rfl hc i [] s5 _ H5 (fun _ _ => False) I5 (stat I5 n5) st5 stop
      refine thnF td fun r s6 ⟨hr, I6⟩ => ?_
      subst hr
      -- back in the def's context
      have I7 : Inv X pins σ H5 s6 := I3.call' (ch := fp) I6.os I6.base I6.hok I6.bare fun b hb => ⟨(f3 b hb).1.2.2.2.1, (f3 b hb).1.2.1, (f3 b hb).1.2.2.2.2.1, (f3 b hb).1.2.2.2.2.2⟩
      have nC : H5 s3.heap.objs.size = none := by
        have z : H5 ce.locals = none := I6.free
        rw [cL] at z
        exact z
      obtain ⟨m, hn, _⟩ := I6.loc
      have hn : s6.heap.Ns ce.locals m := hn
      rw [cL] at hn
      exact hRR D s3.heap.objs.size s6 m H5 I7 qq hn (I3.fpOk (Nat.le_refl _) nC)
    · have ti := T.item (X.blk s3 H3 scope ce fp) rfl rfl rfl hc i [] s5 _ H5 (fun _ _ => False) I5 (stat I5 n5) st5 go
      refine thnF ti fun r s6 ⟨u, hr, h6⟩ => ?_
      subst hr
      refine thnF h6 fun _ s7 ⟨x, H7, I7, r7, y7, st7, n7⟩ => ?_
      have I7' := I7.pinned (stat I7 n7) (T.obj _ _ st7)
      refine thnF (pg.run _ s7 _ H7 x u _ I7' r7 (step x H7 y7)) fun _ s8 ⟨σ8, H8, I8, hw8, q8⟩ => ?_
      refine thnF (pt.run _ s8 σ8 H8 _ I8 q8) fun b s9 ⟨H9, I9, q9⟩ => ?_
      -- the turn's end
      have fin : ∀ {s' : Shared} {H' : Hp}, Inv (X.blk s3 H3 scope ce fp) ([] ++ pinsAt fp s7.heap) σ8 H' s' → Nx H' → ∃ m, m < n ∧ ∃ i H', Inv (X.blk s3 H3 scope ce fp) [] (wipe σ (own.map (·.2))) H' s' ∧ tn i s'.heap ∧ (∀ b ∈ fp, H' b = none) ∧ W i m H' := fun {s' H'} I' nx => by
        obtain ⟨m', hm, w'⟩ := hNx H' nx
        have pin' : ∀ b ∈ fp, ∀ o, s7.heap.get? b = some o → s'.heap.get? b = some o ∧ H' b = none := fun b hb o e =>
          let z := I'.pin (b, o) (List.mem_append_right _ (List.mem_append_right _ (mem_pinsAt hb e)))
          ⟨z.1, z.2.1⟩
        have hl : (wipe σ (own.map (·.2))).length = σ8.length := by rw [← hw8, wipe_length]
        refine ⟨m', hm, i + 1, H', (I'.unpinned (pins := [])).weak hl (fun j v e => ?_), T.keep _ _ _ st7 fun b hb o e => (pin' b hb o e).1, fun b hb => ?_, w'⟩
        · rw [← hw8] at e
          exact (wipe_some e).1
        · obtain ⟨o, e, _⟩ := T.obj _ _ st7 b hb
          exact (pin' b hb o e).2
      cases b with
      | false =>
        simp only [Bool.false_eq_true, if_false] at q9 ⊢
        exact fin I9 q9
      | true =>
        simp only [if_true] at q9 ⊢
        refine thnF (pk.run _ s9 σ8 H9 _ I9 q9) fun z s10 ⟨yk, H10, I10, r10, q10⟩ => ?_
        refine thnF (pe.run _ s10 σ8 H10 _ I10 q10) fun z2 s11 ⟨yv, H11, I11, r11, b, kvs, k, ⟨ek, kv11, kd11⟩, hn11, hD11, ku11, hz11, nx⟩ => ?_
        subst ek
        obtain rfl : z = Value.ref b := r10
        exact d_dictSetU (X := X.blk s3 H3 scope ce fp) hu I11 hD11 ku11 kv11 kd11 hn11 hz11 r11 fun s12 I12 => fin I12 nx
  exact codeAny_compStart_dict loop (T.self X.A 0 _ _ _ st4 loop)
theorem pe_dcU {kx vx tg iter : Expr} {ifs : List Expr} {scope : Scope} {own : List (Str × Nat)} {pos : Pos} {wi : TI} {g : TG} {tt : TT} {tk tv : TE} (hu : X.A.units + 20 < cLine) (hc : X.calm = true) (hN : X.N.Nodup) (hi : PI X tg iter wi) (ok : BlkOk X.N X.env.scope scope own)
    (hg : ∀ (s : Shared) (H : Hp) (C : Addr) (cl : List (Str × Addr)) (fp : List Addr), PG (X.blk s H scope (compEnvC scope cl C X.env) fp) tg g) (ht : ∀ (s : Shared) (H : Hp) (C : Addr) (cl : List (Str × Addr)) (fp : List Addr), PTs (X.blk s H scope (compEnvC scope cl C X.env) fp) ifs tt)
    (hk : ∀ (s : Shared) (H : Hp) (C : Addr) (cl : List (Str × Addr)) (fp : List Addr), PE (X.blk s H scope (compEnvC scope cl C X.env) fp) kx tk)
    (he : ∀ (s : Shared) (H : Hp) (C : Addr) (cl : List (Str × Addr)) (fp : List Addr), PE (X.blk s H scope (compEnvC scope cl C X.env) fp) vx tv) (hs : ∀ x, foldedSetIterable iter X.env x = pure x := by intro _; rfl) :
    PE X (.DictComp kx vx [⟨tg, iter, ifs, 0⟩] scope pos) (tDcU X.K wi g tt tk tv (own.map (·.2))) := by
  refine ⟨fun pins s σ H Q I h => ?_⟩
  rw [arm_eval_DictComp]
  refine dcU_core hu hc hN I hi ok hg ht hk he hs h fun D C s' m H' I' q hn f => ⟨m, hn, fun h'' sb => ?_⟩
  obtain ⟨f0, f1, f2, f3, f4, f5⟩ := f
  exact ⟨.ref D, H', I'.turned (t' := s'.toks) (fun b o hb e => (sb.2 b hb).trans e) f0 f1 f3 f4 f5, rfl, q⟩
/-! ### for k in d -/
/-! ### d[k], d.get(k), d walked or not -/
end
/-! ### as memory tells -/
section
variable {K : PySem.W.Frag} {Wx : WX} {RE : REx}
theorem _root_.Tl.Rl.lkT {F H : Hp} {M : Mem} (h : Rl K F H M) {a : Addr} {od : Obj} {xs : List DU1} {kw : List (PyData × W)} (e : M a = some (.lkT od xs kw)) : H a = some (.frz od (DU a xs)) ∧ KeysU K F a xs ∧ xs.map (·.1) = kw.map (fun x => keyN x.1) ∧ (∀ x ∈ kw, keyOk x.1 = true) ∧ RWs K F (xs.map (·.2.2)) (kw.map (·.2)) := by
  obtain ⟨_, h1, rfl, h2⟩ := h.at_ a _ e
  exact ⟨h1, h2⟩
end
/-! ### a comprehension's dict, as memory tells -/
section
variable {J : It} {n : Nat} {G : Hp → Prop} {Y : Nat → Hp → V → Hp → Prop}
theorem dcU_it {K : PySem.W.Frag} (w : Walk J n G Y) {g : TG} {tt : TT} {tk tv : TE} {vs : List Nat} {σ : L2.St} {H1 : Hp} {D : Addr} {Qd : Hp → Prop} (Pv : Nat → Hp → Prop) (h0 : Pv 0 (upd H1 D (DU D []))) (hG : ∀ i H, i ≤ n → Pv i H → G H)
    (hs : ∀ i x H H', i < n → Pv i H → Y i H x H' → g x (wipe σ vs) H' fun σ2 H2 => wipe σ2 vs = wipe σ vs ∧ tt σ2 H2 fun b H3 =>
      if b = true then tk σ2 H3 fun y H4 => tv σ2 H4 fun z H5 => ∃ b kvs k, IsK K H5 y b k ∧ noTxt k = true ∧ H5 D = some (DU D kvs) ∧ KeysU K H5 D kvs ∧ kvs.length < sizeLine ∧ Pv (i + 1) (upd H5 D (DU D (putU kvs k b z))) else Pv (i + 1) H3) (hd : ∀ H, Pv n H → Qd H) :
    ∃ W : Nat → Nat → Hp → Prop, (∃ m, W 0 m (upd H1 D (DU D []))) ∧ ∀ i m H, W i m H →
      (J.stop i H ∧ Qd H) ∨ (J.go i H ∧ ∃ Nx : Hp → Prop, (∀ H', Nx H' → ∃ m', m' < m ∧ W (i + 1) m' H') ∧ ∀ x H', J.yld i H x H' → g x (wipe σ vs) H' fun σ2 H2 => wipe σ2 vs = wipe σ vs ∧ tt σ2 H2 fun b H3 =>
        if b = true then tk σ2 H3 fun y H4 => tv σ2 H4 fun z H5 => ∃ b kvs k, IsK K H5 y b k ∧ noTxt k = true ∧ H5 D = some (DU D kvs) ∧ KeysU K H5 D kvs ∧ kvs.length < sizeLine ∧ Nx (upd H5 D (DU D (putU kvs k b z))) else Nx H3) := by
  refine ⟨fun i m H => m = n - i ∧ i ≤ n ∧ Pv i H, ⟨n, by simp, Nat.zero_le _, h0⟩, ?_⟩
  rintro i m H ⟨rfl, hi, p⟩
  have q := hG i H hi p
  by_cases hlt : i < n
  · refine .inr ⟨w.goes i H hlt q, Pv (i + 1), fun H' p' => ⟨n - (i + 1), by omega, rfl, hlt, p'⟩, fun x H' y => hs i x H H' hlt p (w.yields i H x H' hlt q y)⟩
  · have e : i = n := by omega
    subst e
    exact .inl ⟨w.stops H q, hd H p⟩
end
/-! ### <= and > of data -/
end Tl
set_option Elab.async false
set_option linter.all false
set_option maxRecDepth 100000
set_option maxHeartbeats 4000000
/-! {k: v for x in .. if ..}; d.get(k, x). -/
namespace Tl
open PySem PySem.Spec PyProof.Rows L2
section
variable {K : PySem.W.Frag} {Wx : WX} {RE : REx}
/-- one after another, some of them; behind all the new dict -/
def dcGoT (b : TDG) (keep : Mem → Prop) (tt : TDT) (tk tv : TDE) (ρ : EnvD) (fin : List (PyData × W) → Mem → Prop) : List (List W) → List (PyData × W) → Mem → Prop
  | [], kw, M => keep M ∧ fin kw M
  | row :: rest, kw, M => keep M ∧ b row ρ M fun ρ1 M1 => tt ρ1 M1 fun c M0 => IfB c (tk ρ1 M0 fun y M2 => tv ρ1 M2 fun z M3 => gU y fun k => kw.length < sizeLine ∧ dcGoT b keep tt tk tv ρ fin rest (putW2 kw k z) M3) (dcGoT b keep tt tk tv ρ fin rest kw M0)
@[reducible] def dcT (it : TDI) (b : TDG) (tt : TDT) (tk tv : TDE) (vs : List Nat) : TDE := fun ρ M R => it ρ M fun rows keep M1 => dcGoT b keep tt tk tv (hide ρ vs) (fun kw M2 => ∀ p, M2 p = none → R (.r p) (mset M2 p (.dT kw))) rows [] M1
theorem se_dcT {wi : TI} {g : TG} {tt : TT} {tk tv : TE} {vs : List Nat} {pair : Bool} {it : TDI} {b : TDG} {Tt : TDT} {Tk Tv : TDE} (hi : SI K Wx RE wi pair it) (hg : SG K g pair vs b) (ht : ST K (fun _ _ _ _ => False) (fun _ _ _ => False) tt Tt) (hk : SE K (fun _ _ _ _ => False) (fun _ _ _ => False) tk Tk) (he : SE K (fun _ _ _ _ => False) (fun _ _ _ => False) tv Tv) (hv : vs.length ≤ 2 := by decide) :
    SE K Wx RE (tDcU K wi g tt tk tv vs) (dcT it b Tt Tk Tv vs) := fun F H M σ ρ R Q hr hx hs hT k =>
  hi F H M σ ρ _ _ hr hx hs hT fun J H1 F1 M1 rows keep r1 g1 iok h1 D hD hsm => by
    obtain ⟨G, Y, wk, hG, hY⟩ := iok
    have x0 : ∀ (F H : Hp) (M : Mem), XOk K F H M (fun _ _ _ _ => False) (fun _ _ _ => False) := fun F H M F' H' M' σ ρ cls d x _ _ _ _ z => z
    refine dcU_it wk (fun i H2 => ∃ F2 M2 kw xs, Rl K F2 H2 M2 ∧ Gr F1 H1 M1 F2 H2 M2 ∧ H2 D = some (DU D xs) ∧ F2 D = none ∧ M2 D = none ∧ (KeysU K F2 D xs ∧ xs.map (·.1) = kw.map (fun x => keyN x.1) ∧ (∀ x ∈ kw, keyOk x.1 = true) ∧ RWs K F2 (xs.map (·.2.2)) (kw.map (·.2))) ∧ dcGoT b keep Tt Tk Tv (hide ρ vs) (fun kw M2 => ∀ p, M2 p = none → R (.r p) (mset M2 p (.dT kw))) (rows.drop i) kw M2)
      ⟨F1, M1, [], [], (r1.hid (u := DU D []) (r1.fh.free hD) (r1.new hD)), ⟨Same.refl _, fun c u q n => ⟨by rw [upd_ne (ne_of_none q hD)]; exact q, n⟩, fun _ _ _ _ f => f⟩, upd_same, r1.fh.free hD, r1.new hD, ⟨⟨hsm, Nat.zero_le _, List.nodup_nil, fun x hx => (by cases hx)⟩, rfl, (fun x hx => by cases hx), .nil⟩, h1⟩
      (fun i H2 hi2 ⟨F2, M2, kw, xs, r2, g2, d1, d2, d3, d4, q⟩ => ?_) (fun i x H2 H3 hi2 ⟨F2, M2, kw, xs, r2, g2, d1, d2, d3, ⟨ku, e1, e3, e2⟩, q⟩ y => ?_) (fun H2 ⟨F2, M2, kw, xs, r2, g2, d1, d2, d3, d4, q⟩ => ?_)
    · have hk : keep M2 := by
        cases hd : rows.drop i with
        | nil => rw [hd] at q; exact q.1
        | cons a b => rw [hd] at q; exact q.1
      exact hG F2 H2 M2 r2 g2 hk
    · rw [List.drop_eq_getElem_cons hi2] at q
      obtain ⟨hkk, q⟩ := q
      have hrow : rows[i]? = some rows[i] := List.getElem?_eq_getElem hi2
      have yd := hY i x H2 H3 F2 M2 _ hrow r2 g2 hkk y
      have rel := (hs.mono (g1.trans g2).ff)
      refine hg F2 H2 M2 x H3 _ (wipe σ vs) (hide ρ vs) _ _ r2 yd (hide_rel rel vs) q fun σ4 H4 F4 M4 ρ4 r4 g4 s4 w4 q4 => ⟨by rw [w4]; exact wipe_wipe vs σ hv, ?_⟩
      have D4 := g4.un D _ d1 d3
      have F4D : F4 D = none := g4.nf D _ d1 d3 d2
      refine ht F4 H4 M4 σ4 ρ4 _ _ r4 (x0 _ _ _) s4 q4 fun c H7 F7 M7 r7 g7 q7 => ?_
      have D7 := g7.un D _ D4.1 D4.2
      have F7D := g7.nf D _ D4.1 D4.2 F4D
      have q7 := q7.ite
      by_cases hc : c = true
      · rw [if_pos hc] at q7 ⊢
        refine hk F7 H7 M7 σ4 ρ4 _ _ r7 (x0 _ _ _) (s4.mono g7.ff) q7 fun v5 H5 F5 M5 z5 r5 g5 rz5 q5 => ?_
        have D5 := g5.un D _ D7.1 D7.2
        have F5D := g5.nf D _ D7.1 D7.2 F7D
        refine he F5 H5 M5 σ4 ρ4 _ _ r5 (x0 _ _ _) ((s4.mono g7.ff).mono g5.ff) q5 fun v6 H6 F6 M6 z6 r6 g6 rz6 q6 => ?_
        have D6 := g6.un D _ D5.1 D5.2
        have F6D := g6.nf D _ D5.1 D5.2 F5D
        have gg := (((g4.trans g7).trans g5).trans g6)
        obtain ⟨d, bk, rfl, rfl, ik, kv, kd, ko, hl, q8⟩ := gU_of r6 (rz5.mono g6.ff) q6
        have hn := keyN_noTxt d ko
        have hz : xs.length < sizeLine := by
          have := congrArg List.length e1
          rw [List.length_map, List.length_map] at this
          omega
        have ku6 := ku.mono gg.ff
        obtain ⟨p1, p2⟩ := put_U (k := d) (b := bk) e1 (e2.mono gg.ff) rz6
        refine ⟨bk, xs, keyN d, ik, hn, D6.1, ku6.mono r6.fh, hz, F6, M6, putW2 kw d z6, putU xs (keyN d) bk v6, r6.hid F6D D6.2, ?_, upd_same, F6D, D6.2, ⟨keys_put ku6 kv kd hn hz, p1, ok_put e3 ko, p2⟩, q8⟩
        have g8 := g2.trans gg
        refine ⟨g8.ff, fun c u q n => ?_, g8.nf⟩
        have z : c ≠ D := ne_of_none q hD
        rw [upd_ne z]
        exact g8.un c u q n
      · rw [if_neg hc] at q7 ⊢
        have gg := g4.trans g7
        exact ⟨F7, M7, kw, xs, r7, g2.trans gg, D7.1, F7D, D7.2, ⟨ku.mono gg.ff, e1, e3, e2.mono gg.ff⟩, q7⟩
    · rw [List.drop_length] at q
      have r' : Rl K F2 H2 (mset M2 D (.dT kw)) := by
        refine ⟨r2.fh, fun a o c => ?_, fun a o c => ?_⟩
        · by_cases z : a = D
          · rw [z]; exact d2
          · rw [mset_ne z] at c; exact r2.mf a o c
        · by_cases z : a = D
          · subst z
            rw [mset_same] at c
            cases c
            exact ⟨_, d1, xs, rfl, d4⟩
          · rw [mset_ne z] at c; exact r2.at_ a o c
      refine k _ H2 _ _ _ r' (g1.trans ⟨g2.ff, fun b u q n => ?_, g2.nf⟩) (.r D) (q.2 D d3)
      rw [mset_ne (ne_of_none q hD)]
      exact g2.un b u q n
/-- such a dict, all keys told by data alone -/
theorem dcGoT_all {α : Type} {i : Nat} {f : α → W} {keep : Mem → Prop} {tt : TDT} {tk tv : TDE} {ρ : EnvD} {fin : List (PyData × W) → Mem → Prop} {M : Mem} (g : α → Option (PyData × W)) (hk : keep M) : ∀ {xs : List α} {kw : List (PyData × W)}
    (hb : ∀ a ∈ xs, ∀ Rk : Bool → Mem → Prop, Rk (g a).isSome M → tt (put ρ i (some (f a))) M Rk)
    (hc : ∀ a ∈ xs, ∀ k z, g a = some (k, z) → ∀ Rk : W → Mem → Prop, (∃ ds, k = .tuple ds ∧ keyOk k = true ∧ k.depth ≤ 8) → Rk (.d k) M → tk (put ρ i (some (f a))) M Rk)
    (he : ∀ a ∈ xs, ∀ k z, g a = some (k, z) → ∀ Rk : W → Mem → Prop, Rk z M → tv (put ρ i (some (f a))) M Rk)
    (hg : ∀ a ∈ xs, ∀ k z, g a = some (k, z) → ∃ ds, k = .tuple ds ∧ keyOk k = true ∧ k.depth ≤ 8)
    (hl : kw.length + xs.length ≤ sizeLine) (h : fin ((xs.filterMap g).foldl (fun kw x => putW2 kw x.1 x.2) kw) M), dcGoT (bName i) keep tt tk tv ρ fin (rows1 (xs.map f)) kw M
  | [], kw, _, _, _, _, _, h => ⟨hk, h⟩
  | a :: xs, kw, hb, hc, he, hg, hl, h => by
    refine ⟨hk, ?_⟩
    show tt (put ρ i (some (f a))) M _
    refine hb a (.head _) _ ?_
    have ih := @dcGoT_all α i f keep tt tk tv ρ fin M g hk xs
    rw [List.length_cons] at hl
    cases e : g a with
    | none =>
      refine IfB.f rfl ?_
      rw [List.filterMap_cons, e] at h
      exact ih (fun z hz => hb z (.tail _ hz)) (fun z hz => hc z (.tail _ hz)) (fun z hz => he z (.tail _ hz)) (fun z hz => hg z (.tail _ hz)) (by omega) h
    | some p =>
      obtain ⟨k, z⟩ := p
      refine IfB.t rfl ?_
      obtain ⟨ds, rfl, ko, kd⟩ := hg a (.head _) k z e
      refine hc a (.head _) _ z e _ ⟨ds, rfl, ko, kd⟩ (he a (.head _) _ z e _ ?_)
      rw [List.filterMap_cons, e, List.foldl_cons] at h
      refine ⟨⟨ko, kd⟩, by omega, ih (fun z hz => hb z (.tail _ hz)) (fun z hz => hc z (.tail _ hz)) (fun z hz => he z (.tail _ hz)) (fun z hz => hg z (.tail _ hz)) ?_ h⟩
      have : (putW2 kw (.tuple ds) z).length ≤ kw.length + 1 := by
        unfold putW2
        split
        · rw [List.length_map]; omega
        · rw [List.length_append, List.length_singleton]; exact Nat.le_refl _
      omega
end
/-! ### d.get(k, x) -/
def rGetU2 (K : PySem.W.Frag) : V → List V → Hp → VK → Prop := fun x ys H Q => ∃ a b xs k y z, IsU K H x a xs ∧ ys = [y, z] ∧ IsK K H y b k ∧ Q ((findU xs k).getD z) H
theorem mt_getU2 {X : Cx} (hu : X.A.units + 20 < cLine) : MtR X "dict.get" (rGetU2 X.K) := by
  intro pins s σ H x ys v us Q I rx rys h
  obtain ⟨a, b, xs, k, y, z, ⟨ex, ea, eu⟩, rfl, ⟨ey, ek, ed⟩, q1⟩ := h
  subst ex ey
  obtain rfl : v = Value.ref a := rx
  obtain ⟨uy, uz, rfl, ry, rz⟩ := rys.two
  obtain rfl : uy = Value.ref b := ry
  obtain ⟨zs, h1, dd, hnt⟩ := DU_of I ea eu
  have f := Paired.findU h1 k
  refine getOr_keyed (knd := nestedKind X.prog X.w) (k := k) (kvs := pairsH zs) (show X.A.units + 1 + 8 < cLine by omega) ⟨ek.is I rfl, ed⟩ eu.sm ⟨zs, dd, rfl⟩ ?_
  rw [valueAt_pairsH]
  refine ⟨_, H, I.tok _, ?_, q1⟩
  cases c : findU xs k with
  | none =>
    rw [c] at f
    cases c2 : (atKey zs k).map (·.2) with
    | none => exact rz
    | some w => rw [c2] at f; exact f.elim
  | some w =>
    rw [c] at f
    cases c2 : (atKey zs k).map (·.2) with
    | none => rw [c2] at f; exact f.elim
    | some w2 => rw [c2] at f; exact f
@[reducible] def fGetU2 : W → List W → Mem → (W → Mem → Prop) → Prop := fun x xs M R => gR x fun a => g2 xs fun y z => gU y fun k => ∃ kw, M a = some (.dT kw) ∧ R ((valU kw k).getD z) M
section
variable {K : PySem.W.Frag}
theorem sm_getU2 : SM K (rGetU2 K) fGetU2 := fun F H M v vs x xs R Q hr rx rxs hf k => by
  obtain ⟨a, rfl, h1⟩ := gR_of hf
  obtain ⟨y, z, rfl, h2⟩ := g2_of h1
  obtain ⟨u1, u2, rfl, ry, rz⟩ := rxs.two
  obtain ⟨d, b, rfl, rfl, ik, kv, kd, ko, kw, e, q⟩ := gU_of hr ry h2
  obtain ⟨ys, iu, ku, e1, e3, e2⟩ := hr.dT e
  obtain ⟨f1, f2⟩ := find_U d e1 e2
  rw [rx.ref]
  refine ⟨a, b, ys, keyN d, _, _, iu, rfl, ik, ?_⟩
  cases c : valU kw d with
  | none =>
    rw [f2 c]
    rw [c] at q
    exact k _ H F M _ hr .refl rz q
  | some w' =>
    obtain ⟨v', h5, h6⟩ := f1 w' c
    rw [h5]
    rw [c] at q
    exact k _ H F M _ hr .refl h6 q
end
section
variable {K : PySem.W.Frag}
@[reducible] def fAny : FL := fun xs M R => g1 xs fun x => gW M x fun ws => gBs ws fun bs => R (.d (.bool (bs.any id))) M
theorem sc_any : SC K (rAny K) fAny := fun F H M vs xs R Q hr rx hf k => by
  obtain ⟨x, rfl, h1⟩ := g1_of hf
  obtain ⟨v, rfl, r⟩ := rx.one
  obtain ⟨a, us, ws, rfl, h2, h3, h4⟩ := gW_of hr r h1
  obtain ⟨bs, rfl, h5⟩ := gBs_of h4
  refine ⟨a, bs, rfl, ?_, k _ H F M _ hr .refl (.d (.bl _)) h5⟩
  rw [← rws_bl h3]
  exact SqL.of h2
end
/-! ### x += y of tuples -/
theorem in_catA {X : Cx} : InOp X .Add (rCatA X.K) := by
  intro pins s σ H x y v u Q I rx ry h
  obtain ⟨a, b, xs, ys, rfl, rfl, ha, hb, hz, q0, q1, q2⟩ := h
  obtain rfl : v = Value.ref a := rx
  obtain rfl : u = Value.ref b := ry
  obtain ⟨its, r1, ⟨o, ho, hc, n, hd⟩, h1⟩ := I.tuple ha
  obtain ⟨its2, r2, ⟨o2, ho2, hc2, n2, hd2⟩, h2⟩ := I.tuple hb
  obtain ⟨cls, dd, data, sl⟩ := o
  obtain ⟨cls2, dd2, data2, sl2⟩ := o2
  dsimp only at hc hd hc2 hd2
  subst hc hd hc2 hd2
  refine PySem.wpAny_inplaceOp_concat (T := "tuple") ⟨_, ho, rfl⟩ ⟨_, ho2, rfl⟩ rfl noFill_tuple_add seq_tuple_add ?_
  by_cases hx : xs = []
  · subst hx
    cases r1
    exact call_meets F.slot_tuple_add ⟨_, ho, rfl⟩ F.entry_tuple_add (F.args_tuple_add_2 _ _) (PyProof.Rows.tuple_addW0 a b #[] its2.toArray n n2 dd dd2 sl sl2 rfl) ⟨ho, ho2, .ref b, H, I, rfl, q0 rfl⟩
  have hv : ¬ its.toArray.isEmpty = true := fun z => hx ((Vals.nil_iff r1).mp (by simpa using z))
  by_cases hy : ys = []
  · have hw : its2.toArray.isEmpty = true := by
      have := (Vals.nil_iff r2).mpr hy
      subst this
      rfl
    exact call_meets F.slot_tuple_add ⟨_, ho, rfl⟩ F.entry_tuple_add (F.args_tuple_add_2 _ _) (PyProof.Rows.tuple_addW1 a b its.toArray its2.toArray n n2 dd dd2 sl sl2 hv hw) ⟨ho, ho2, .ref a, H, I, rfl, q1 hx hy⟩
  have hw : ¬ its2.toArray.isEmpty = true := fun z => hy ((Vals.nil_iff r2).mp (by simpa using z))
  have hs : its.toArray.size + its2.toArray.size ≤ sizeLine := by
    rw [List.size_toArray, List.size_toArray, ← Vals.length r1, ← Vals.length r2]
    exact hz
  refine call_meets F.slot_tuple_add ⟨_, ho, rfl⟩ F.entry_tuple_add (F.args_tuple_add_2 _ _) (PyProof.Rows.tuple_addW2 a b its.toArray its2.toArray n n2 dd dd2 sl sl2 hv hw hs) ⟨ho, ho2, .ref s.heap.objs.size, upd H s.heap.objs.size (.tup (xs ++ ys)), ?_, rfl, q2 hx hy _ (I.hok.fresh (Nat.le_refl _))⟩
  have e : its.toArray ++ its2.toArray = (its ++ its2).toArray := by simp
  rw [e]
  exact I.laid (t' := s.toks) (fun b ob q => Heap.get?_push_of_some _ q) (Nat.le_refl _) ⟨by rw [List.length_append]; exact hz, its ++ its2, Vals.append r1 r2, PyProof.Rows.IsTup.new s.heap _⟩
/-! ### dict(pairs), the pairs a list that is data or not -/
@[reducible] def fDictF : FL := fun xs M R => g1 xs fun x => gW M x fun ws => gDs ws fun ds => ∃ kvs : List KD, ds = kvs.map dKD ∧ kvs.length ≤ sizeLine ∧ (∀ x ∈ kvs, keyOk (.tuple x.1) = true ∧ (PyData.tuple x.1).depth ≤ 8) ∧ ∀ p, M p = none → R (.r p) (mset M p (.dT (mergW [] kvs)))
theorem sc_dictF {K : PySem.W.Frag} : SC K (rDictU K) fDictF := fun F H M vs xs R Q hr rx hf k => by
  obtain ⟨x, rfl, h1⟩ := g1_of hf
  obtain ⟨v, rfl, r⟩ := rx.one
  obtain ⟨a, vs', ws, rfl, e1, e2, h2⟩ := gW_of hr r h1
  obtain ⟨ds, rfl, kvs, rfl, hz, h3, h4⟩ := gDs_of h2
  rw [List.map_map] at e2
  obtain ⟨ps, us, rfl, p1, p2, p3, p4⟩ := kd_of e2 h3
  refine ⟨a, ps, us, rfl, .inl (.inl e1), paired_mono (fun p x h => same_t hr.fh h) p1, fun x hx => ⟨KeyV.mono hr.fh _ _ (p4 x hx).1, (p4 x hx).2⟩, fun p hp hsm => ?_⟩
  have hl : us.length ≤ sizeLine := by
    have := congrArg List.length p2
    rw [List.length_map, List.length_map] at this
    omega
  obtain ⟨q1, q2, q3, q4⟩ := fold_U p2 p3 p4 (fun x hx => (h3 x hx).1) (a := p) (acc := []) (bcc := []) (by simpa using hl) ⟨hsm, Nat.zero_le _, List.nodup_nil, fun x hx => (by cases hx)⟩ rfl .nil (fun x hx => by cases hx)
  obtain ⟨r1, g1⟩ := hr.born (u := DU p (foldU [] us)) (o := .dT (mergW [] kvs)) hp ⟨_, rfl, q1, q2, q4, q3⟩
  exact k _ _ _ _ _ r1 g1 (.r p) (h4 p (hr.new hp))
end Tl
set_option Elab.async false
set_option linter.all false
set_option maxRecDepth 100000
set_option maxHeartbeats 4000000
/-! The dicts of a side's edits. -/
namespace Tl
open PySem L2
theorem valU_put (kw : List (PyData × W)) (k k' : PyData) (w : W) : valU (putW2 kw k w) k' = if keyN k = keyN k' then some w else valU kw k' := by
  have app : ∀ (a b : List (PyData × W)), valU (a ++ b) k' = (valU a k').or (valU b k') := fun a b => by
    unfold valU
    rw [List.find?_append]
    cases List.find? (fun x => decide (keyN x.1 = keyN k')) a <;> rfl
  unfold putW2
  split
  · rename_i h
    obtain ⟨w0, hw⟩ := Option.isSome_iff_exists.mp h
    clear app h
    induction kw with
    | nil => cases hw
    | cons x kw ih =>
      unfold valU at hw ih ⊢
      rw [List.find?_cons] at hw
      rw [List.map_cons, List.find?_cons, List.find?_cons]
      by_cases c : keyN x.1 = keyN k
      · rw [if_pos c]
        by_cases c2 : keyN k = keyN k'
        · rw [if_pos c2]
          simp [c, c2]
        · rw [if_neg c2]
          have c3 : ¬ keyN x.1 = keyN k' := fun z => c2 (c ▸ z)
          simp only [c3, decide_false]
          clear hw
          have : ∀ l : List (PyData × W), List.find? (fun x => decide (keyN x.1 = keyN k')) (l.map fun x => if keyN x.1 = keyN k then (x.1, w) else x) = List.find? (fun x => decide (keyN x.1 = keyN k')) l := fun l => by
            induction l with
            | nil => rfl
            | cons y l ih2 =>
              rw [List.map_cons, List.find?_cons, List.find?_cons, ih2]
              by_cases d : keyN y.1 = keyN k
              · rw [if_pos d]
                have d3 : ¬ keyN y.1 = keyN k' := fun z => c2 (d ▸ z)
                simp only [d3, decide_false]
              · rw [if_neg d]
          rw [this]
      · rw [if_neg c]
        simp only [c, decide_false] at hw
        by_cases c2 : keyN x.1 = keyN k'
        · have c3 : ¬ keyN k = keyN k' := fun z => c (c2.trans z.symm)
          rw [if_neg c3]
          simp only [c2, decide_true]
        · simp only [c2, decide_false]
          exact ih hw
  · rename_i h
    rw [app]
    have e : valU [(k, w)] k' = if keyN k = keyN k' then some w else none := by
      unfold valU
      rw [List.find?_cons]
      by_cases c : keyN k = keyN k' <;> simp [c]
    rw [e]
    by_cases c : keyN k = keyN k'
    · have : valU kw k' = none := by
        have h2 : valU kw k = none := by cases z : valU kw k with
          | none => rfl
          | some v => rw [z] at h; exact absurd rfl h
        unfold valU at h2 ⊢
        rw [← c]
        exact h2
      rw [if_pos c, this, if_pos c]
      rfl
    · rw [if_neg c, if_neg c, Option.or_none]
theorem val_fold (k : PyData) : ∀ (l kw : List (PyData × W)), valU (l.foldl (fun kw x => putW2 kw x.1 x.2) kw) k = (l.reverse.findSome? fun x => if keyN x.1 = keyN k then some x.2 else none).or (valU kw k)
  | [], kw => rfl
  | x :: l, kw => by
    rw [List.foldl_cons, val_fold k l, valU_put, List.reverse_cons, List.findSome?_append]
    cases (l.reverse.findSome? fun x => if keyN x.1 = keyN k then some x.2 else none) with
    | some v => rfl
    | none =>
      rw [List.findSome?_singleton]
      by_cases c : keyN x.1 = keyN k
      · rw [if_pos c, if_pos c]; rfl
      · rw [if_neg c, if_neg c]; rfl
theorem ok_path' (q : List Nat) : keyOk (pathD q) = true := by
  unfold pathD
  rw [keyOk]
  induction q with
  | nil => rfl
  | cons i q ih => rw [List.map_cons, keyOks, ih]; rfl
theorem ok_pathN (q : List Nat) (n : Nat) : keyOk (.tuple [pathD q, .int (n : Nat)]) = true := by
  rw [keyOk, keyOks, ok_path' q]
  rfl
theorem pathD_inj' {p q : List Nat} (h : pathD p = pathD q) : p = q := by
  unfold pathD at h
  injection h with h
  induction p generalizing q with
  | nil => cases q with
    | nil => rfl
    | cons j q => cases h
  | cons i p ih => cases q with
    | nil => cases h
    | cons j q =>
      rw [List.map_cons, List.map_cons, List.cons.injEq] at h
      obtain ⟨h1, h2⟩ := h
      injection h1 with h1
      rw [ih h2, show i = j by omega]
theorem keyN_path (p q : List Nat) : keyN (pathD p) = keyN (pathD q) ↔ p = q := ⟨fun h => pathD_inj' (keyN_inj _ _ (ok_path' p) (ok_path' q) h), fun h => by rw [h]⟩
theorem keyN_pathN (p q : List Nat) (m n : Nat) : keyN (.tuple [pathD p, .int (m : Nat)]) = keyN (.tuple [pathD q, .int (n : Nat)]) ↔ p = q ∧ m = n := by
  constructor
  · intro h
    have e := keyN_inj _ _ (ok_pathN p m) (ok_pathN q n) h
    injection e with e
    simp only [List.cons.injEq, and_true] at e
    obtain ⟨e1, e2⟩ := e
    injection e2 with e2
    exact ⟨pathD_inj' e1, by omega⟩
  · rintro ⟨rfl, rfl⟩; rfl
theorem pathD_depth (q : List Nat) : (pathD q).depth ≤ 2 := by
  unfold pathD
  rw [PyData.depth]
  have : PyData.depthAll (q.map fun n : Nat => PyData.int (n : Int)) ≤ 1 := by
    induction q with
    | nil => exact Nat.zero_le _
    | cons i q ih =>
      rw [List.map_cons, PyData.depthAll]
      have : (PyData.int (i : Int)).depth ≤ 1 := by rw [PyData.depth]; omega
      omega
  omega
theorem pathN_depth (q : List Nat) (n : Nat) : (PyData.tuple [pathD q, .int (n : Nat)]).depth ≤ 8 := by
  have := pathD_depth q
  simp only [PyData.depth, PyData.depthAll]
  omega
/-! ### the three dicts -/
def gNm : Edt → Option (PyData × W)
  | .name q t => some (pathD q, .d (.str t))
  | _ => none
def gOt : Edt → Option (PyData × W)
  | .out q => some (pathD q, .d (.bool true))
  | _ => none
def gPt : Edt → Option (PyData × W)
  | .put q n ts => some (.tuple [pathD q, .int (n : Nat)], .d (.tuple ts))
  | _ => none
@[reducible] def kwE (g : Edt → Option (PyData × W)) (es : List Edt) : List (PyData × W) := (es.filterMap g).foldl (fun kw x => putW2 kw x.1 x.2) []
theorem val_kwE (g : Edt → Option (PyData × W)) (k : PyData) (es : List Edt) : valU (kwE g es) k = es.reverse.findSome? fun e => (g e).bind fun x => if keyN x.1 = keyN k then some x.2 else none := by
  unfold kwE
  rw [val_fold, show valU [] k = none from rfl, Option.or_none, ← List.filterMap_reverse]
  generalize es.reverse = l
  induction l with
  | nil => rfl
  | cons e l ih =>
    rw [List.filterMap_cons, List.findSome?_cons]
    cases c : g e with
    | none => rw [ih]; rfl
    | some x =>
      rw [List.findSome?_cons, ih, Option.bind_some]
theorem find_map {α β γ : Type} (f : α → Option β) (g : β → γ) (l : List α) : (l.findSome? f).map g = l.findSome? fun x => (f x).map g := by
  induction l with
  | nil => rfl
  | cons a l ih =>
    rw [List.findSome?_cons, List.findSome?_cons]
    cases f a with
    | none => exact ih
    | some b => rfl
theorem val_nm (es : List Edt) (p : List Nat) : valU (kwE gNm es) (pathD p) = (nmE es p).map fun t => W.d (.str t) := by
  rw [val_kwE, nmE, find_map]
  congr 1
  funext e
  cases e with
  | name q t =>
    show (if keyN (pathD q) = keyN (pathD p) then _ else _) = Option.map _ (if q = p then _ else _)
    by_cases c : q = p
    · rw [if_pos ((keyN_path q p).mpr c), if_pos c]; rfl
    · rw [if_neg (fun z => c ((keyN_path q p).mp z)), if_neg c]; rfl
  | _ => rfl
theorem val_pt (es : List Edt) (p : List Nat) (n : Nat) : valU (kwE gPt es) (.tuple [pathD p, .int (n : Nat)]) = (ptE es p n).map fun ts => W.d (.tuple ts) := by
  rw [val_kwE, ptE, find_map]
  congr 1
  funext e
  cases e with
  | put q m ts =>
    show (if keyN (.tuple [pathD q, .int (m : Nat)]) = keyN (.tuple [pathD p, .int (n : Nat)]) then _ else _) = Option.map _ (if q = p ∧ m = n then _ else _)
    by_cases c : q = p ∧ m = n
    · rw [if_pos ((keyN_pathN q p m n).mpr c), if_pos c]; rfl
    · rw [if_neg (fun z => c ((keyN_pathN q p m n).mp z)), if_neg c]; rfl
  | _ => rfl
theorem val_ot (es : List Edt) (p : List Nat) : (valU (kwE gOt es) (pathD p)).isSome = outE es p := by
  rw [val_kwE, outE, ← List.any_reverse]
  generalize es.reverse = l
  induction l with
  | nil => rfl
  | cons e l ih =>
    rw [List.findSome?_cons, List.any_cons]
    cases e with
    | out q =>
      simp only [gOt, Option.bind_some]
      by_cases c : q = p
      · rw [if_pos ((keyN_path q p).mpr c)]
        simp [c]
      · rw [if_neg (fun z => c ((keyN_path q p).mp z)), decide_eq_false c, Bool.false_or]
        exact ih
    | name q t => exact ih
    | put q n ts => exact ih
theorem g_key {e : Edt} {k : PyData} {z : W} (h : gNm e = some (k, z) ∨ gOt e = some (k, z) ∨ gPt e = some (k, z)) : ∃ ds, k = .tuple ds ∧ keyOk k = true ∧ k.depth ≤ 8 := by
  have hp : ∀ q : List Nat, ∃ ds, pathD q = .tuple ds ∧ keyOk (pathD q) = true ∧ (pathD q).depth ≤ 8 := fun q => ⟨_, rfl, ok_path' q, Nat.le_trans (pathD_depth q) (by decide)⟩
  cases e with
  | name q t =>
    rcases h with h | h | h
    · cases h; exact hp q
    · cases h
    · cases h
  | out q =>
    rcases h with h | h | h
    · cases h
    · cases h; exact hp q
    · cases h
  | put q n ts =>
    rcases h with h | h | h
    · cases h
    · cases h
    · cases h; exact ⟨_, rfl, ok_pathN q n, pathN_depth q n⟩
/-- the fields of a side's edits, in memory -/
def edF (a b c : Addr) : List (Str × W) := [("new_tags", .r a), ("outs", .r b), ("puts", .r c)]
theorem lk_nt {a b c : Addr} : List.lookup ("new_tags" : Str) (edF a b c) = some (.r a) := by
  unfold edF
  rw [List.lookup, show (("new_tags" : Str) == "new_tags") = true by decide +kernel]
theorem lk_ou {a b c : Addr} : List.lookup ("outs" : Str) (edF a b c) = some (.r b) := by
  unfold edF
  rw [List.lookup, show (("outs" : Str) == "new_tags") = false by decide +kernel, List.lookup, show (("outs" : Str) == "outs") = true by decide +kernel]
theorem lk_pu {a b c : Addr} : List.lookup ("puts" : Str) (edF a b c) = some (.r c) := by
  unfold edF
  rw [List.lookup, show (("puts" : Str) == "new_tags") = false by decide +kernel, List.lookup, show (("puts" : Str) == "outs") = false by decide +kernel, List.lookup, show (("puts" : Str) == "puts") = true by decide +kernel]
theorem lk_tr {a b c : Addr} : List.lookup ("trees_at" : Str) (edF a b c) = none := by
  unfold edF
  rw [List.lookup, show (("trees_at" : Str) == "new_tags") = false by decide +kernel, List.lookup, show (("trees_at" : Str) == "outs") = false by decide +kernel, List.lookup, show (("trees_at" : Str) == "puts") = false by decide +kernel, List.lookup]
structure EdsAt (C : Addr) (M : Mem) (x : Addr) (es : List Edt) : Prop where
  ex : ∃ dx a b c, M x = some (.ins C dx (edF a b c)) ∧ M a = some (.dT (kwE gNm es)) ∧ M b = some (.dT (kwE gOt es)) ∧ M c = some (.dT (kwE gPt es))
structure EdC (K : PySem.W.Frag) (C : Addr) : Prop where
  cls : L2.Cls K C
  n1 : NoAttr K C "new_tags"
  n2 : NoAttr K C "outs"
  n3 : NoAttr K C "puts"
end Tl
set_option Elab.async false
set_option linter.all false
set_option maxRecDepth 100000
set_option maxHeartbeats 4000000
/-! sorted(xs, key=len), xs tuples: stably by their lengths. -/
set_option Elab.async false
set_option linter.all false
set_option maxRecDepth 100000
set_option maxHeartbeats 4000000
/-! sorted(xs, key=f), f a def that changes nothing and tells data, lists too. -/
namespace Tl
open PySem PySem.Spec L2 PyProof.Rows
open PySem.W (KeyPure AllAlike Sortable dataLe dataLt SortsAt EachIs KeepsBut KeyedOut)
/-- as things are called from within a builtin's builtin -/
def inn (X : Cx) : Cx := { X with A := X.A.in1.in1, xe := fun _ _ => False }
theorem inv_inn {X : Cx} {pins : List (Addr × Obj)} {σ : L2.St} {H : Hp} {s : Shared} (I : Inv X pins σ H s) : Inv (inn X) pins σ H s :=
  ⟨⟨I.ok.mod, I.ok.kind, I.ok.glob, I.ok.blt, I.ok.above, I.ok.inj, I.ok.has, I.ok.cab, I.ok.hd, I.ok.frames, I.ok.stk, I.ok.exf, I.ok.bs, I.ok.bsz, I.ok.noex, I.ok.exfs, I.ok.funs, I.ok.frf⟩, I.os, I.bare, I.base, I.loc, I.cell, I.free, I.freeC, I.pin, I.hok, I.len⟩
theorem inv_out {X : Cx} {pins : List (Addr × Obj)} {σ : L2.St} {H : Hp} {s : Shared} (I : Inv (inn X) pins σ H s) : Inv X pins σ H s :=
  ⟨⟨I.ok.mod, I.ok.kind, I.ok.glob, I.ok.blt, I.ok.above, I.ok.inj, I.ok.has, I.ok.cab, I.ok.hd, I.ok.frames, I.ok.stk, I.ok.exf, I.ok.bs, I.ok.bsz, I.ok.noex, I.ok.exfs, I.ok.funs, I.ok.frf⟩, I.os, I.bare, I.base, I.loc, I.cell, I.free, I.freeC, I.pin, I.hok, I.len⟩
/-- an object taken off -/
def off (h : Heap) (a : Addr) : Heap := h.update a fun o => { o with data := .freed }
theorem off_at (h : Heap) (a : Addr) : (off h a).get? a = none := by
  unfold off Heap.get? Heap.update
  rw [Array.getElem?_modify, if_pos rfl]
  cases h.objs[a]? <;> rfl
theorem off_ne {h : Heap} {a b : Addr} (n : b ≠ a) : (off h a).get? b = h.get? b := Heap.get?_update_ne _ _ _ _ n
/-- what stands there, with pins, is let go and known -/
theorem inv_known {X : Cx} {pins : List (Addr × Obj)} {σ : L2.St} {H : Hp} {s : Shared} {D : Addr} {o : HO} (I : Inv X pins σ H s) (f : FpOk X pins H D) (new : ObjOk X.prog X.w (upd H D o) s.heap D o) : Inv X pins σ (upd H D o) s := by
  obtain ⟨f0, f1, f2, f3, f4, f5⟩ := f
  have ne : ∀ {b : Addr} {u : HO}, H b = some u → b ≠ D := fun h z => by rw [z, f0] at h; cases h
  have hk := I.hok.laidN (fun _ _ e => e) f0 new
  refine I.call' (s' := s) (ch := [D]) rfl ⟨fun b u e _ _ _ => e, fun b u e _ _ _ => ⟨u.slots, e⟩, fun b u e h n => ?_, fun b u e _ => ⟨u, e⟩, fun b xs h => ?_, fun b u v h => ?_, fun b ps h => ⟨#[], ?_⟩⟩ hk I.bare fun b hb => ?_
  · rw [upd_ne (fun z => n (by rw [z]; exact List.mem_singleton.mpr rfl))]
    exact h
  · rw [upd_ne (ne h)]; exact h
  · rw [upd_ne (ne h)]; exact h
  · rw [upd_ne (ne h), Array.append_empty]; exact h
  · obtain rfl := List.mem_singleton.mp hb
    exact ⟨f3, f1, f4, f5⟩
/-- stably, by a key -/
def byF (key : PyData → PyData) (zs : List (V × PyData)) : List (V × PyData) := zs.mergeSort (dataLe false fun p => key p.2)
def srtF (key : PyData → PyData) (ds : List PyData) : List PyData := ds.mergeSort (dataLe false key)
theorem byF_snd (key : PyData → PyData) (zs : List (V × PyData)) : (byF key zs).map (·.2) = srtF key (zs.map (·.2)) := by
  unfold byF srtF
  exact List.map_mergeSort (f := fun z : V × PyData => z.2) (r := dataLe false fun p : V × PyData => key p.2) (s := dataLe false key) (fun a _ b _ => rfl)
structure KeysF (key : PyData → PyData) (ds : List PyData) : Prop where
  al : AllAlike (ds.map key)
  so : Sortable (ds.map key)
  dp : ∀ d ∈ ds, (key d).depth ≤ 60 ∧ (key d).hasDict = false
def rSortedFn (K : PySem.W.Frag) (sp : Sp) (key : PyData → PyData) : List V → Hp → VK → Prop := fun vs H Q => ∃ (a : Addr) (zs : List (V × PyData)), vs = [.ref a] ∧ SqL K H a (zs.map (·.1)) ∧ KeysF key (zs.map (·.2)) ∧
  ∃ J : Nat → Hp → List V → Prop, J 0 H [] ∧ (∀ i H1 ks z, zs[i]? = some z → J i H1 ks → sp [z.1] H1 (fun v H2 => J (i + 1) H2 (ks ++ [v])) fun _ _ _ => False) ∧ (∀ i H1 ks, J i H1 ks → DpAll K H1 ks (((zs.map (·.2)).take i).map key)) ∧
    ∀ H1 ks, J zs.length H1 ks → ∀ p : Addr, H1 p = none → Q (.ref p) (upd H1 p (.lst ((byF key zs).map (·.1))))
theorem each_zip {X : Cx} {pins : List (Addr × Obj)} {σ : L2.St} {H : Hp} {s : Shared} (I : Inv X pins σ H s) : ∀ {us : List Value} {ds : List PyData} {vs : List V}, Vals vs us → DpAll X.K H vs ds → EachIs (fun v d => ∃ as, Reads s.heap v d as) us ds
  | us, [], vs, r, h => by
    cases h
    cases r
    exact .nil
  | us, d :: ds, vs, r, h => by
    cases h with
    | cons h1 h2 =>
      rcases r with _ | ⟨r1, r2⟩
      exact .cons (Dp.reads I _ _ _ h1 r1) (each_zip I r2 h2)
theorem pins_two {X : Cx} {pins : List (Addr × Obj)} {σ : L2.St} {H : Hp} {s : Shared} {a b : Addr} {oa ob : Obj} (I : Inv X (pins ++ [(a, oa), (b, ob)]) σ H s) : s.heap.get? a = some oa ∧ s.heap.get? b = some ob :=
  ⟨(I.pin (a, oa) (List.mem_append_right _ (List.mem_append_right _ (.head _)))).1, (I.pin (b, ob) (List.mem_append_right _ (List.mem_append_right _ (.tail _ (.head _))))).1⟩
theorem vals_get {us : List Value} : ∀ {vs : List V} {j : Nat} {u : Value}, Vals vs us → us[j]? = some u → ∃ v, vs[j]? = some v ∧ RelV v u := by
  induction us with
  | nil => intro vs j u h e; simp at e
  | cons x us ih =>
    intro vs j u h e
    rcases h with _ | ⟨r1, r2⟩
    cases j with
    | zero => cases e; exact ⟨_, rfl, r1⟩
    | succ j =>
      obtain ⟨v, h1, h2⟩ := ih (vs := _) (j := j) r2 (by simpa using e)
      exact ⟨v, h1, h2⟩
theorem vals_snoc {vs : List V} {us : List Value} {v : V} {u : Value} (h : Vals vs us) (r : RelV v u) : Vals (vs ++ [v]) (us ++ [u]) := by
  induction h with
  | nil => exact .cons r .nil
  | cons h1 _ ih => exact .cons h1 ih
/-- the walk over the items, and what stands behind it -/
theorem rest_F {X : Cx} {pins : List (Addr × Obj)} {s : Shared} {σ : L2.St} {H : Hp} {f : Addr} {fd : FuncData} {ps : List Str} {k : Nat} {sp : Sp} {key : PyData → PyData} {zs : List (V × PyData)} {its : List Value} {D kS : Addr} {e1 : Nat} {J : Nat → Hp → List V → Prop} {P : Fin → Shared → Prop} {E : Value → Shared → Prop}
    (F : FnOk X.prog X.w X.K X.mg X.base CX0 k f fd ps sp) (hr : Room k X.A.in1.in1) (hb : Binds X.K fd ps []) (hu : X.A.units + 62 < cLine) (hd : kS ≠ D)
    (I : Inv (inn X) (pins ++ [(D, seqObj "list" #[] e1), (kS, seqObj "list" #[] 0)]) σ H s) (fD : FpOk (inn X) pins H D) (fK : FpOk (inn X) pins H kS) (rv : Vals (zs.map (·.1)) its) (hz : its.length ≤ sizeLine) (kf : KeysF key (zs.map (·.2)))
    (j0 : J 0 H []) (js : ∀ i H1 ks z, zs[i]? = some z → J i H1 ks → sp [z.1] H1 (fun v H2 => J (i + 1) H2 (ks ++ [v])) fun _ _ _ => False) (jd : ∀ i H1 ks, J i H1 ks → DpAll X.K H1 ks (((zs.map (·.2)).take i).map key))
    (go : ∀ H1 ks s1, J zs.length H1 ks → H1 D = none → Inv X pins σ (upd H1 D (.lst ((byF key zs).map (·.1)))) s1 → P (.done (.ret .none)) s1) :
    wpAny (model X.prog X.w) X.A.in1.in1 (ksk_rest D (.ref f) false its.toArray e1 (.ref kS)) P E s := by
  unfold ksk_rest
  refine wpAny_bind (wpAny_rule ?_)
  refine wpAny_bind ?_
  rw [List.forIn_toArray]
  have hl : its.length = zs.length := by rw [← rv.length, List.length_map]
  refine ksk_fold (Q := fun _ s' => wpAny (model X.prog X.w) X.A.in1.in1 (do let keys ← Builtin.List.listItems (.ref kS); ksk_end D false its.toArray e1 (.ref kS) keys) P E s') (fun i s' => ∃ (H1 : Hp) (ks : List V) (us : List Value) (n : Nat), Inv (inn X) (pins ++ [(D, seqObj "list" #[] e1), (kS, seqObj "list" us.toArray n)]) σ H1 s' ∧ J i H1 ks ∧ Vals ks us ∧ us.length = i ∧ FpOk (inn X) pins H1 D ∧ FpOk (inn X) pins H1 kS) its 0 s
    ⟨H, [], [], 0, I, j0, .nil, rfl, fD, fK⟩ (fun j x s' hx ⟨H1, ks, us, n, I1, q1, r1, hn, f1, f2⟩ => ?_) fun s' ⟨H1, ks, us, n, I1, q1, r1, hn, f1, f2⟩ => ?_
  · obtain ⟨v, hv, rx⟩ := vals_get rv hx
    rw [List.getElem?_map] at hv
    obtain ⟨z, hz2, rfl⟩ := Option.map_eq_some_iff.mp hv
    rw [Nat.zero_add] at q1 hn ⊢
    have hj : j < its.length := (List.getElem?_eq_some_iff.mp hx).1
    refine wpAny_bind (wpAny_attempt ?_)
    have run := run_fn (X := inn X) (CX := CX0) (E := fun _ _ _ => False) (us := [x]) (vs := [z.1]) (dvs := []) (ds := []) F hr hb .nil (fun _ _ _ _ _ _ _ h => h.elim) I1 (.cons rx .nil) (js j H1 ks z hz2 q1)
    refine wpAny_mono run (fun u s2 ⟨w2, H2, I2, rw2, q2⟩ => ?_) fun _ _ h => h.elim
    obtain ⟨p1, p2⟩ := pins_two I2
    have pn : ∀ b ob, (b, ob) ∈ [(D, seqObj "list" #[] e1), (kS, seqObj "list" us.toArray n)] → H2 b = none := fun b ob hb2 => (I2.pin (b, ob) (List.mem_append_right _ (List.mem_append_right _ hb2))).2.1
    have f1' : FpOk (inn X) pins H2 D := ⟨pn _ _ (.head _), f1.2⟩
    have f2' : FpOk (inn X) pins H2 kS := ⟨pn _ _ (.tail _ (.head _)), f2.2⟩
    refine wpAny_bind (listUpdate_at p2 rfl (wpAny_pure ⟨rfl, H2, ks ++ [w2], us ++ [u], if (us.toArray.push u).size == us.toArray.size then n else n + 1, ?_, q2, vals_snoc r1 rw2, by rw [List.length_append, hn]; rfl, f1', f2'⟩) (by simp only [List.size_toArray]; omega) (by simp only [Array.size_push, List.size_toArray]; omega))
    have upk : (s2.heap.update kS (Obj.mapSeq fun x => x.push u)).get? kS = some (seqObj "list" (us ++ [u]).toArray (if (us.toArray.push u).size == us.toArray.size then n else n + 1)) := by
      have := Heap.get?_update_self (f := Obj.mapSeq fun x => x.push u) p2 rfl
      rw [this]
      show some (Obj.mapSeq _ _) = _
      unfold seqObj Obj.mapSeq
      simp
    have upn : ∀ b, b ≠ kS → (s2.heap.update kS (Obj.mapSeq fun x => x.push u)).get? b = s2.heap.get? b := fun b n => Heap.get?_update_ne _ _ _ _ n
    have I3 : Inv (inn X) pins σ H2 { s2 with heap := s2.heap.update kS (Obj.mapSeq fun x => x.push u) } := (I2.unpinned).turned (t' := s2.toks) (fun b o hb e => (upn b hb).trans e) f2'.1 f2'.2.1 f2'.2.2.2.1 f2'.2.2.2.2.1 f2'.2.2.2.2.2
    have I4 := I3.pinned (fp := [D, kS]) (fun b hb => by
      rcases List.mem_cons.mp hb with rfl | hb
      · exact f1'
      · obtain rfl := List.mem_singleton.mp hb
        exact f2') (fun b hb => by
      rcases List.mem_cons.mp hb with rfl | hb
      · exact ⟨_, (upn _ hd.symm).trans p1, fun v z => by cases z⟩
      · obtain rfl := List.mem_singleton.mp hb
        exact ⟨_, upk, fun v z => by cases z⟩)
    have e : pinsAt [D, kS] (s2.heap.update kS (Obj.mapSeq fun x => x.push u)) = [(D, seqObj "list" #[] e1), (kS, seqObj "list" (us ++ [u]).toArray (if (us.toArray.push u).size == us.toArray.size then n else n + 1))] := by
      unfold pinsAt
      rw [List.filterMap_cons, (upn _ hd.symm).trans p1]
      show (D, _) :: List.filterMap _ [kS] = _
      rw [List.filterMap_cons, upk]
      rfl
    rw [show ({ s2 with heap := s2.heap.update kS (Obj.mapSeq fun x => x.push u) } : Shared).heap = s2.heap.update kS (Obj.mapSeq fun x => x.push u) from rfl, e] at I4
    exact I4
  · obtain ⟨p1, p2⟩ := pins_two I1
    rw [Nat.zero_add] at q1 hn
    refine wpAny_bind (listItems_at p2 rfl ?_)
    have ez := jd _ _ _ q1
    rw [hl, ← List.length_map (f := (·.2)) (as := zs), List.take_length] at ez
    rw [hl] at q1
    have er := each_zip I1 r1 ez
    have ek : (zs.map (·.2)).map key = zs.map fun z => key z.2 := by rw [List.map_map]; rfl
    refine PySem.W.keyH_end (h₁ := off s'.heap kS) (κ := PySem.W.dataKind s'.heap ((zs.map (·.2)).map key)) (fun b o n e => ?_) (off_at _ _) p2 p1 hd (SortsAt.data (show EachIs _ us.toArray.toList _ from er) kf.al kf.so fun d hd2 => ?_) (by rw [List.size_toArray, hn]) hz fun h' tk c kb e => ?_
    · by_cases z : b = kS
      · rw [z, off_at] at e; cases e
      · rw [off_ne z] at e; exact e
    · obtain ⟨z, hz2, rfl⟩ := List.mem_map.mp hd2
      have := (kf.dp z hz2).1
      show X.A.units + 1 + 1 + _ < cLine
      omega
    · have Ia := (I1.unpinned).turned (t' := s'.toks) (h' := off s'.heap kS) (fun b o n e => (off_ne n).trans e) f2.1 f2.2.1 f2.2.2.2.1 f2.2.2.2.2.1 f2.2.2.2.2.2
      have Ib := Ia.turned (t' := tk) (h' := h') (it := D) (fun b o n e => kb b o n e) f1.1 f1.2.1 f1.2.2.2.1 f1.2.2.2.2.1 f1.2.2.2.2.2
      have eo : EachIs (fun v (z : V × PyData) => RelV z.1 v) (PySem.W.sortVals (PySem.W.dataKind s'.heap ((zs.map (·.2)).map key)) false us its) (byF key zs) := PySem.W.keyedOut_each (fun z : V × PyData => key z.2) ⟨s'.heap, us, by rw [← ek]; exact kf.al, by rw [← ek], by rw [← ek]; exact er⟩ (each_vals rv)
      refine go H1 ks _ q1 f1.1 (inv_out (inv_known Ib f1 ⟨?_, _, c, vals_each eo, e⟩))
      rw [List.length_map, byF, List.length_mergeSort, ← hl]
      exact hz
theorem run_sortedFn {X : Cx} {pins : List (Addr × Obj)} {s : Shared} {σ : L2.St} {H : Hp} {vs : List V} {us : List Value} {Q : VK} {f : Addr} {fd : FuncData} {ps : List Str} {k : Nat} {sp : Sp} {key : PyData → PyData}
    (F : FnOk X.prog X.w X.K X.mg X.base CX0 k f fd ps sp) (hr : Room k X.A.in1.in1) (hb : Binds X.K fd ps []) (hu : X.A.units + 62 < cLine) (I : Inv X pins σ H s) (r : Vals vs us) (h : rSortedFn X.K sp key vs H Q) :
    wpAny (model X.prog X.w) X.A (call (.builtin "sorted") us [(Str.ofString "key", .ref f)]) (EP X pins σ Q) X.xe s := by
  obtain ⟨a, zs, rfl, hs, kf, J, j0, js, jd, jq⟩ := h
  obtain ⟨its, rv, hl, hsz⟩ := I.list hs
  rw [Vals.ref1 r]
  have hz : its.length ≤ sizeLine := by rw [← rv.length]; exact hsz
  have e1 : ((s.heap.push (seqObj "list" #[] 0)).update s.heap.objs.size (Obj.mapSeq (· ++ its.toArray))).objs.size = s.heap.objs.size + 1 := by rw [Heap.size_update, size_push']
  refine call_function_entry_kw kind_sorted plain_sorted entry_sorted (ksk_s1 _ _) (show wpAny _ _ (Builtin.«sorted» _) _ _ _ from ?_)
  unfold Builtin.«sorted»
  refine wpAny_bind (m := checkCount "sorted" 1 1 _) (wpAny_pure (wpAny_bind (collect_list hl.isList (wpAny_bind (wpAny_newList (?_) hz)) hz)))
  show wpAny _ _ _ _ _ { s with heap := PySem.W.copyHeap s.heap its }
  rw [e1]
  have hc := PySem.W.copyHeap_at s.heap its
  have hcs : (PySem.W.copyHeap s.heap its).objs.size = s.heap.objs.size + 2 := by
    unfold PySem.W.copyHeap
    rw [size_push', e1]
  refine wpAny_bind (wpAny_holding (wpAny_call_entry_kw slot_list_sort ⟨_, hc, rfl⟩ entry_list_sort (?_) (ksk_l1 _ _)))
  show wpAny (model X.prog X.w) X.A.in1.in1 (Builtin.«list.sort» ⟨[.ref (s.heap.objs.size + 1)], [(Str.ofString "key", .ref f)]⟩) _ _ _
  rw [ksk_t1]
  generalize hD : s.heap.objs.size + 1 = D at hc ⊢
  unfold ksk_tree
  refine wpAny_mono (Q := fun fi s' => fi = .done (.ret .none) ∧ EP X pins σ Q (.ref D) s') (E := fun _ _ => False) ?_ (fun fi s2 ⟨hf, hq⟩ => by
    subst hf
    exact ⟨_, rfl, wpAny_pure ⟨_, rfl, hq⟩⟩) fun _ _ e => e.elim
  refine wpAny_bind (listItems_at hc rfl (wpAny_bind (listUpdate_at hc rfl ?_ (by simp only [List.size_toArray]; exact hz) (Nat.zero_le _))))
  generalize hh2 : (PySem.W.copyHeap s.heap its).update D (Obj.mapSeq fun _ => #[]) = h2
  have hn2 : h2.objs.size = s.heap.objs.size + 2 := by rw [← hh2, Heap.size_update, hcs]
  obtain ⟨ep, h2D⟩ : ∃ ep, h2.get? D = some (seqObj "list" #[] ep) := by
    rw [← hh2]
    have := Heap.get?_update_self (f := Obj.mapSeq fun _ => #[]) hc rfl
    rw [this]
    exact ⟨_, rfl⟩
  have old2 : ∀ b o, s.heap.get? b = some o → h2.get? b = some o := fun b o e => by
    have bl := Heap.lt_size e
    rw [← hh2, Heap.get?_update_ne _ _ _ _ (fun z => absurd bl (by rw [z, ← hD]; exact Nat.not_lt.mpr (Nat.le_succ _)))]
    exact PySem.W.copyHeap_old e
  show wpAny _ _ _ _ _ { s with heap := h2 }
  refine wpAny_bind (seqEpoch_at h2D rfl (wpAny_bind (wpAny_newTuple ?_ hz)))
  refine wpAny_bind (wpAny_newList ?_ (Nat.zero_le _))
  show wpAny _ _ _ _ _ { s with heap := (h2.push { cls := .type "tuple", data := .seq its.toArray }).push { cls := .type "list", data := .seq #[] } }
  rw [show ({ s with heap := h2.push { cls := Value.type "tuple", data := Data.seq its.toArray } } : Shared).heap.objs.size = s.heap.objs.size + 3 by rw [show ({ s with heap := h2.push { cls := Value.type "tuple", data := Data.seq its.toArray } } : Shared).heap = h2.push _ from rfl, size_push', hn2]]
  generalize hh4 : (h2.push { cls := .type "tuple", data := .seq its.toArray }).push { cls := .type "list", data := .seq #[] } = h4
  have old4 : ∀ b o, h2.get? b = some o → h4.get? b = some o := fun b o e => by
    rw [← hh4]
    exact Heap.get?_push_of_some _ (Heap.get?_push_of_some _ e)
  have h4K : h4.get? (s.heap.objs.size + 3) = some (seqObj "list" #[] 0) := by
    have e3 : s.heap.objs.size + 3 = (h2.push { cls := .type "tuple", data := .seq its.toArray }).objs.size := by rw [size_push', hn2]
    rw [← hh4, e3]
    exact Heap.get?_push_size _ rfl
  have I4 : Inv X pins σ H { s with heap := h4 } := I.kept (t' := s.toks) fun b o e => old4 _ _ (old2 _ _ e)
  have fD : FpOk (inn X) pins H D := (inv_inn I).fpOk (by omega) (I.hok.fresh (by omega))
  have fK : FpOk (inn X) pins H (s.heap.objs.size + 3) := (inv_inn I).fpOk (by omega) (I.hok.fresh (by omega))
  have I5 := (inv_inn I4).pinned (fp := [D, s.heap.objs.size + 3]) (fun b hb => by
    rcases List.mem_cons.mp hb with rfl | hb
    · exact fD
    · obtain rfl := List.mem_singleton.mp hb
      exact fK) (fun b hb => by
    rcases List.mem_cons.mp hb with rfl | hb
    · exact ⟨_, old4 _ _ h2D, fun v z => by cases z⟩
    · obtain rfl := List.mem_singleton.mp hb
      exact ⟨_, h4K, fun v z => by cases z⟩)
  have e : pinsAt [D, s.heap.objs.size + 3] h4 = [(D, seqObj "list" #[] ep), (s.heap.objs.size + 3, seqObj "list" #[] 0)] := by
    unfold pinsAt
    rw [List.filterMap_cons, old4 _ _ h2D]
    show (D, _) :: List.filterMap _ [_] = _
    rw [List.filterMap_cons, h4K]
    rfl
  rw [show ({ s with heap := h4 } : Shared).heap = h4 from rfl, e] at I5
  refine wpAny_holding (rest_F F hr hb hu (Nat.ne_of_gt (by rw [← hD]; exact Nat.add_lt_add_left (by decide) _)) I5 fD fK rv hz kf j0 js jd fun H1 ks s1 q1 hn I6 => ⟨rfl, .ref D, _, I6, rfl, jq H1 ks q1 D hn⟩)
def tSortedFn (sp : Sp) (key : PyData → PyData) (t : TA) (K : PySem.W.Frag) : TE := fun σ H Q => t σ H fun vs H1 => rSortedFn K sp key vs H1 Q
theorem room_in2 {k : Nat} {A : Around} (hr : Room (k + 1) A) : Room k A.in1.in1 := ⟨hr.hd, Nat.lt_of_le_of_lt (show A.depth + 3 * k + 5 ≤ A.depth + 3 * (k + 1) + 5 by omega) hr.dp, Nat.lt_of_le_of_lt (show A.units + 1 + 1 + 16 * k + 200 ≤ A.units + 16 * (k + 1) + 200 by omega) hr.un⟩
theorem pe_sortedFn {X : Cx} {e : Expr} {t : TA} {f : Addr} {fd : FuncData} {y : Str} {ps : List Str} {k : Nat} {sp : Sp} {key : PyData → PyData} {p1 p2 kpos pos : Pos} (F : FnOk X.prog X.w X.K X.mg X.base CX0 k f fd ps sp) (hb : Binds X.K fd ps []) (hr : Room (k + 1) X.A) (hg : Gl X "sorted") (hm : X.mg "sorted" = none) (hgy : Gl X y) (hmy : X.mg y = some (.ref f)) (ha : PA X [e] t)
    (hd : (y == ("__debug__" : Str)) = false := by decide) (hcd : (y == ("__classdict__" : Str)) = false := by decide)
    (he : backTo pos (starEach [e] X.env) = (false, eval e X.env) :: backTo pos (starEach [] X.env) := by rfl) (hpl : (backTo pos (starEach [e] X.env)).any (·.1) = false := by rfl) :
    PE X (.Call (.Name "sorted" p1) [e] [⟨some "key", .Name y p2, kpos⟩] pos) (tSortedFn sp key t X.K) := by
  have hu : X.A.units + 62 < cLine := by have := hr.un; omega
  refine ⟨fun pins s σ H Q I h => ?_⟩
  refine wpAny_Call_Name_kw (ld_blt I hg hm PyProof.Rows.boot_sorted ?_)
  refine PyProof.Rows.callWith_kw (thn (ha.run pos pins s σ H _ I h) fun us s1 ⟨vs, H1, I1, r1, q1⟩ => ?_) he hpl rfl rfl
  show wpAny _ _ (evalAll ((do let v ← eval (.Name y p2) X.env; standAt pos; pure v) :: [])) _ _ s1
  refine wpAny_evalAll_cons (wpAny_bind (ld_glob (hd := hd) I1 hgy hmy (wpAny_bind (wpAny_standAt (wpAny_pure ?_)))))
  refine wpAny_evalAll_nil ?_
  exact run_sortedFn F (room_in2 hr) hb hu I1 r1 q1
section
variable {K : PySem.W.Frag} {Wx : WX} {RE : REx}
/-- sorted(xs, key=f), as data -/
@[reducible] def fSortedFn (tf : TF) (key : PyData → PyData) : FL := fun xs M R => g1 xs fun x => gW M x fun ws => gDs ws fun ds => (KeysF key ds ∧ ∀ d ∈ ds, ∀ R' RX : _ → Mem → Prop, R' (.d (key d)) M → tf [.d d] M R' RX) ∧ R (.d (.list (srtF key ds))) M
theorem sc_sortedFn {tf : TF} {key : PyData → PyData} : SC K (rSortedFn K (spD K 1 tf) key) (fSortedFn tf key) := fun F H M vs xs R Q hr rx hf k => by
  obtain ⟨x, rfl, h1⟩ := g1_of hf
  obtain ⟨v, rfl, r⟩ := rx.one
  obtain ⟨a, us, ws, rfl, h2, h3, h4⟩ := gW_of hr r h1
  obtain ⟨ds, rfl, ⟨hp, h5⟩, h6⟩ := gDs_of h4
  obtain ⟨zs, rfl, rfl, hz⟩ := h3.undat.zip
  refine ⟨a, zs, rfl, SqL.of h2, hp, fun i H1 ks => ∃ F1, Rl K F1 H1 M ∧ Gr F H M F1 H1 M ∧ DxL K F1 ks (((zs.map (·.2)).take i).map key), ⟨F, hr, .refl, by rw [List.take_zero]; exact .nil⟩, fun i H1 ks z hi ⟨F1, r1, g1, d1⟩ => ?_, fun i H1 ks ⟨F1, r1, g1, d1⟩ => ?_, fun H1 ks ⟨F1, r1, g1, d1⟩ p hp1 => ?_⟩
  · have hm := List.mem_of_getElem? hi
    refine ⟨F1, M, [.d z.2], fun w M2 => w = .d (key z.2) ∧ M2 = M, fun _ _ => False, r1, .cons (.d (Dx.mono g1.ff _ _ (hz z hm))) .nil, rfl, h5 z.2 (List.mem_map.mpr ⟨z, hm, rfl⟩) _ _ ⟨rfl, rfl⟩, fun v H2 F2 M2 x r2 g2 rx2 q2 => ?_, fun _ _ _ _ _ _ _ _ _ h => h.elim⟩
    obtain ⟨rfl, rfl⟩ := q2
    refine ⟨F2, r2, g1.trans g2, ?_⟩
    have e : (((zs.map (·.2)).take (i + 1)).map key) = ((zs.map (·.2)).take i).map key ++ [key z.2] := by
      rw [List.take_add_one, List.getElem?_map, hi, List.map_append]
      rfl
    rw [e]
    exact DxL.app (DxL.mono g2.ff _ _ d1) (.cons rx2.dx .nil)
  · refine DxL.dp _ _ (DxL.mono r1.fh _ _ d1) ?_
    have : ∀ ds : List PyData, (∀ d ∈ ds, (key d).hasDict = false) → PyData.hasDictAll (ds.map key) = false := fun ds => by
      induction ds with
      | nil => intro _; rfl
      | cons d ds ih =>
        intro h
        rw [List.map_cons, PyData.hasDictAll, h d (.head _), ih fun e he => h e (.tail _ he)]
        rfl
    exact this _ fun d hd => (hp.dp d (List.mem_of_mem_take hd)).2
  · have h7 : DxL K F1 ((byF key zs).map (·.1)) (srtF key (zs.map (·.2))) := by
      rw [← byF_snd]
      exact DxL.unzip fun z m => Dx.mono g1.ff _ _ (hz z ((List.mergeSort_perm _ _).mem_iff.mp m))
    obtain ⟨r2, g2, rz⟩ := r1.list hp1 h7
    exact k _ _ _ _ _ r2 (g1.trans g2) rz h6
theorem se_sortedFn {n : Nat} {tf : TF} {key : PyData → PyData} {t : TA} {T : TDA} (h : SAn K Wx RE n t T) : SE K Wx RE (tSortedFn (spD K 1 tf) key t K) (cbT (fSortedFn tf key) T) := se_cb (sc_sortedFn (K := K)) h
end
end Tl
set_option Elab.async false
set_option linter.all false
set_option maxRecDepth 100000
set_option maxHeartbeats 4000000
/-! Matchings: pairs of places, their order, what stands in step. -/
namespace Tl
open PySem L2
open PySem.W (alike alikeAll AllAlike dataLe dataLt rowLt dataLt_tuple dataLt_cons)
abbrev PPr := List Nat × List Nat
/-! ### order -/
theorem alike_path (a b : List Nat) : alike (pathD a) (pathD b) = true := by
  unfold pathD
  rw [alike]
  exact alike_paths a b
theorem path_nd (a : List Nat) : (pathD a).hasDict = false := (eqOk_of (eqOk_path a)).1
/-! ### rows, each behind each -/
/-! ### what stands in step -/
def step1 (x y : PPr) : Bool := ltN x.1 y.1 && ltN x.2 y.2 && decide (pre x.1 y.1 = pre x.2 y.2)
theorem ltN_ne {a b : List Nat} (h : ltN a b = true) : a ≠ b := fun e => by rw [e, ltN_irr] at h; cases h
/-- a matching of two trees -/
structure Mat (t u : PyData) (ps : List PPr) : Prop where
  at_ : ∀ x ∈ ps, x.1 ∈ plc t ∧ x.2 ∈ plc u
  hd : ps.head? = some ([], [])
  st : ps.Pairwise fun x y => step1 x y = true
theorem up_len : ∀ {a b : List (List Nat)}, Up a → (∀ x ∈ a, x ∈ b) → a.length ≤ b.length
  | [], _, _, _ => Nat.zero_le _
  | x :: r, b, h, hs => by
    unfold Up at h
    rw [List.pairwise_cons] at h
    have h2 := up_len (b := b.erase x) h.2 fun y hy => (List.mem_erase_of_ne (fun e => ltN_ne (h.1 y hy) e.symm)).mpr (hs y (.tail _ hy))
    have hx := hs x (.head _)
    have := List.length_pos_of_mem hx
    rw [List.length_erase_of_mem hx] at h2
    rw [List.length_cons]
    omega
theorem Mat.len {t u : PyData} {ps : List PPr} (h : Mat t u ps) : ps.length ≤ (plc t).length := by
  have e : Up (ps.map (·.1)) := by
    unfold Up
    rw [List.pairwise_map]
    refine h.st.imp fun {x y} k => ?_
    unfold step1 at k
    rw [Bool.and_eq_true, Bool.and_eq_true] at k
    exact k.1.1
  have := up_len e (b := plc t) fun x hx => by
    obtain ⟨y, hy, rfl⟩ := List.mem_map.mp hx
    exact (h.at_ y hy).1
  rwa [List.length_map] at this
/-! ### places and pairs among all things -/
/-! ### what a matching costs -/
end Tl
set_option Elab.async false
set_option linter.all false
set_option maxRecDepth 100000
set_option maxHeartbeats 8000000
namespace Tl
open PySem L2 RZ
local macro_rules
  | `(tactic| decreasing_trivial) => `(tactic| ((with_reducible (conv => whnf)); (repeat ((first | (with_reducible refine gDs_c ?_) | (with_reducible refine gDs_n ?_) | (with_reducible refine gNs_c ?_) | (with_reducible refine gNs_n ?_) | (with_reducible refine gO_i tyAny_lt ?_) | (with_reducible refine gIs_c ?_) | (with_reducible refine gIs_n ?_) | (with_reducible refine gBs_c ?_) | (with_reducible refine gBs_n ?_) | (with_reducible refine gSs_c ?_) | (with_reducible refine gSs_n ?_) | (with_reducible refine gO_i tyIs_int ?_) | (with_reducible refine gO_i tyIs_bool ?_) | (with_reducible refine gO_i tyIs_str ?_) | (with_reducible refine gO_i tyIs_tuple ?_) | (with_reducible refine gO_i tyIs_list ?_) | (with_reducible refine gDs_i ?_) | (with_reducible refine gO_i (Eq.refl _) ?_) | (with_reducible refine gO_i (by assumption) ?_) | (with_reducible refine gO_i at_0 ?_) | (with_reducible refine gO_i at_m0 ?_) | (with_reducible refine gO_i at_1 ?_) | (with_reducible refine gO_i at_m1 ?_) | (with_reducible refine gO_i at_2 ?_) | (with_reducible refine gO_i at_m2 ?_) | (with_reducible refine gO_i at_3 ?_) | (with_reducible refine gO_i at_m3 ?_) | (with_reducible refine gO_i at_4 ?_) | (with_reducible refine gO_i at_m4 ?_) | (with_reducible refine gO_i at_5 ?_) | (with_reducible refine gO_i at_m5 ?_) | (with_reducible refine gO_i at_6 ?_) | (with_reducible refine gO_i at_m6 ?_) | (with_reducible refine gO_i at_7 ?_) | (with_reducible refine gO_i at_m7 ?_) | (with_reducible refine IfB.ngf ?_) | (with_reducible refine IfB.ngt ?_) | (with_reducible refine IfB.not ?_) | (with_reducible refine IfB.nil ?_) | (with_reducible refine IfB.nilT ?_) | (with_reducible refine IfB.f isE_c ?_) | (with_reducible refine IfB.t isE_n ?_) | (with_reducible refine IfB.t ?gha ?_; (case gha => rfl)) | (with_reducible refine IfB.f ?gha ?_; (case gha => rfl)) | (with_reducible refine IfB.t ?gha ?_; (case gha => assumption)) | (with_reducible refine IfB.f ?gha ?_; (case gha => assumption)) | (with_reducible refine IfB.yes (Eq.refl _) ?_) | (with_reducible refine IfB.yes ?gha ?_; (case gha => (first | omega | (simp only [len_c, len_n, List.length_map]; omega)))) | (with_reducible refine IfB.no ?gha ?_; (case gha => (first | omega | (simp only [len_c, len_n, List.length_map]; omega)))) | (with_reducible refine IfB.t ?gha ?_; (case gha => decide +kernel)) | (with_reducible refine IfB.f ?gha ?_; (case gha => decide +kernel))); (with_reducible (conv => whnf))))))
local macro_rules
  | `(tactic| decreasing_trivial_pre_omega) => `(tactic| (decreasing_trivial; (repeat ((first | ((with_reducible refine And.intro ?gha ?_); (case gha => (first | assumption | omega | exact rfl | (exact mset_same) | (exact ⟨_, mset_same⟩) | (exact Exists.intro _ (by first | exact mset_same | assumption | (rw [mset_ne (by assumption)]; first | exact mset_same | assumption))) | (exact sm_of (by omega) (by omega)) | (exact sz1000 (by first | omega | (simp; done) | (simp; omega))) | (exact Or.inl ⟨by decide, by decide⟩) | decide | (simp; done) | (refine ⟨?_, ?_⟩ <;> (first | assumption | omega | exact rfl | (exact mset_same) | (exact ⟨_, mset_same⟩) | (exact Exists.intro _ (by first | exact mset_same | assumption | (rw [mset_ne (by assumption)]; first | exact mset_same | assumption))) | (exact sm_of (by omega) (by omega)) | (exact sz1000 (by first | omega | (simp; done) | (simp; omega))) | (exact Or.inl ⟨by decide, by decide⟩) | decide | (simp; done))) | (refine ⟨?_, ?_, ?_⟩ <;> (first | assumption | omega | exact rfl | (exact mset_same) | (exact ⟨_, mset_same⟩) | (exact Exists.intro _ (by first | exact mset_same | assumption | (rw [mset_ne (by assumption)]; first | exact mset_same | assumption))) | (exact sm_of (by omega) (by omega)) | (exact sz1000 (by first | omega | (simp; done) | (simp; omega))) | (exact Or.inl ⟨by decide, by decide⟩) | decide | (simp; done))) | (refine ⟨?_, ?_, ?_, ?_⟩ <;> (first | assumption | omega | exact rfl | (exact mset_same) | (exact ⟨_, mset_same⟩) | (exact Exists.intro _ (by first | exact mset_same | assumption | (rw [mset_ne (by assumption)]; first | exact mset_same | assumption))) | (exact sm_of (by omega) (by omega)) | (exact sz1000 (by first | omega | (simp; done) | (simp; omega))) | (exact Or.inl ⟨by decide, by decide⟩) | decide | (simp; done)))))) | (with_reducible refine exW (by first | exact mset_same | assumption | (rw [mset_ne (by assumption)]; first | exact mset_same | assumption)) ?_)); decreasing_trivial))))
def pathOf : PyData → List Nat
  | .tuple ds => ds.map fun
    | .int i => i.toNat
    | _ => 0
  | _ => []
theorem pathOf_D (q : List Nat) : pathOf (pathD q) = q := by
  show List.map _ (q.map fun n : Nat => PyData.int (n : Int)) = q
  rw [List.map_map]
  exact List.map_id q
/-- the number of a thing -/
def intN : PyData → Nat
  | .int i => i.toNat
  | _ => 0
/-- a row of trees, one at least -/
def rowT : PyData → Bool
  | .tuple es => decide (0 < es.length) && es.all isTreeD
  | _ => false
def rowsOf : PyData → List PyData
  | .tuple es => es
  | _ => []
def edOf (w : PyData) (q : List Nat) (e : PyData) (r : List PyData) : Option Edt :=
  if PyData.eqv w (.str "name") then (match r with
    | [t] => if isTag t then some (.name q (tagS t)) else none
    | _ => none)
  else if PyData.eqv w (.str "out") then (if r = [] ∧ q ≠ [] then some (.out q) else none)
  else if PyData.eqv w (.str "put") then (match r with
    | [n, ts] => if isNum ((kidsD e).length : Nat) n && rowT ts then some (.put q (intN n) (rowsOf ts)) else none
    | _ => none)
  else none
/-- the edit that a thing is -/
def asEdit (d : PyData) : PyData → Option Edt
  | .tuple (w :: p :: r) => if isPath p then (match sub d (pathOf p) with
    | some e => edOf w (pathOf p) e r
    | none => none) else none
  | _ => none
/-- few in a row -/
def Slim (x : PyData) : Prop := (∀ w r, x = .tuple (w :: r) → eqOk w = true) ∧ ∀ w p n es, x = .tuple [w, p, n, .tuple es] → es.length ≤ 1000
@[reducible] def tfIsEdit : TF := fun ws M R _ => ∃ (d x : PyData) (n : Nat), ws = [.d d, .d x] ∧ (TrT n d ∧ nn d ≤ 200 ∧ txt x = true ∧ Slim x) ∧ R (.d (.bool (asEdit d x).isSome)) M
@[reducible] def tfRowT : TF := fun ws M R _ => g1 ws fun x => gD x fun d => (txt d = true ∧ ∀ es, d = .tuple es → es.length ≤ 1000) ∧ R (.d (.bool (rowT d))) M
@[reducible] def tfKey : TF := fun ws M R _ => ∃ e : Edt, ws = [.d e.d] ∧ R (.d e.kT) M
@[reducible] def tfTakes : TF := fun ws M R _ => ∃ e o : Edt, ws = [.d e.d, .d o.d] ∧ (e.q.length ≤ 100 ∧ o.q.length ≤ 100) ∧ R (.d (.bool (takesE e o))) M
@[reducible] def tfGoes : TF := fun ws M R _ => ∃ (es : List Edt) (e : Edt), ws = [.d (.tuple (es.map Edt.d)), .d e.d] ∧ (es.length ≤ 100 ∧ (∀ x ∈ es, x.q.length ≤ 100) ∧ e.q.length ≤ 100) ∧ R (.d (.bool (goesE es e))) M
section
variable {P : Program} {w : World} {K : PySem.W.Frag} {mg : Str → Option Value} {base : Heap}
abbrev sRowT : Stmt := top 30
theorem scRowT : FnScope ["thing", "tree"] ["thing"] (defScope sRowT) := ⟨rfl, rfl, rfl, by decide +kernel, rfl, by decide +kernel, by decide +kernel⟩
theorem ok_rowT {f : Addr} {fd : FuncData} {k j : Nat} (F : Fun K "is_row_of_trees" "is_row_of_trees" sRowT f fd) (Uis_tree : Use P w K mg base "is_tree" ["thing"] j (spD K 1 (tfB isTreeD))) (hj : j ≤ k) (T : Bl mg) : FnOk P w K mg base CX0 (k + 1) f fd ["thing"] (spD K 1 tfRowT) := by
  refine okD F scRowT rfl fun cdv A outer s H E hr => ?_
  refine ⟨_, _, (pss_one (ps_ret (pe_and (pe_callB (r := rIsi K) call_isi (by rfl) T.isi PyProof.Rows.boot_isinstance (pa_cons (pv 0) (pa_cons (b_tuple T) pa_nil))) (pe_and (pe_cmpR op_gt (pe_callB call_len_seq (by rfl) T.len PySem.boot_len (pa_cons (pv 0) pa_nil)) pe_int (nomark _)) (pe_one (pe_callB (cr_all rfl) (by rfl) T.all PyProof.Rows.boot_all (pa_cons (pe_lc (own := [("tree", 1)]) (g := gName 1) (tt := tYes) (by rfl) scRowT.nd (pi_tup (pv 0)) (blkOk_by (N := ["thing", "tree"]) (sc := defScope sRowT) (own := [("tree", 1)]) (by decide +kernel)) (fun _ _ _ _ _ => pg_name (i := 1) scRowT.nd rfl (Or.inl rfl)) (fun _ _ _ _ _ => pts_nil) (fun _ _ _ _ _ => (pe_call Uis_tree.ok (hr.mono (by omega)) rfl Uis_tree.m Uis_tree.kp Uis_tree.b .nil pass0 (pa_cons (pv 1) pa_nil)))) pa_nil))))))),
    (ss_ret (se_and (se_cb sc_isi (sa_cons se_nm (sa_cons se_o sa_nil))) (se_and (se_op so_gt (se_cb sc_len (sa_cons se_nm sa_nil)) se_int) (se_cb sc_all (sa_cons (se_lcF (si_tup se_nm) sg_name st_yes (se_call (sa_cons se_nm sa_nil))) sa_nil))))), fun ws M R RX hl h => ?_⟩
  obtain ⟨x, rfl, h1⟩ := g1_of h
  obtain ⟨d, rfl, ⟨ht, hz⟩, h2⟩ := gD_of h1
  cases d with
  | tuple ds =>
    have htd : txtAll ds = true := by rw [txt] at ht; exact ht
    have hl := hz ds rfl
    rw [rowT] at h2
    simp only [start0, len_c, len_n, map_c, map_n, app_c, app_n, rep_0, rep_s, Nat.reduceAdd, Nat.reduceSub]
    decreasing_trivial_pre_omega
    refine IfB.d (fun c => ?_) (fun c => ?_)
    · rw [decide_eq_true (p := 0 < ds.length) (by omega), Bool.true_and] at h2
      decreasing_trivial_pre_omega
      refine lc1F (k := fun _ => True) (b := bName 1) (fun d => .bool (isTreeD d)) trivial (fun d hm Rk q => ?_) (sz1000 (by omega)) ?_
      · obtain ⟨i, hi⟩ := List.getElem?_of_mem hm
        have := txtAll_get htd hi
        decreasing_trivial_pre_omega
        exact q
      · decreasing_trivial_pre_omega
        rw [List.map_map]
        show gBs (ds.map fun d => W.d (.bool (isTreeD d))) _
        rw [gBs_map]
        rw [List.all_map]
        exact h2
    · rw [decide_eq_false (p := 0 < ds.length) (by omega), Bool.false_and] at h2
      decreasing_trivial_pre_omega
      exact h2
  | _ => simp only [start0, len_c, len_n, map_c, map_n, app_c, app_n, rep_0, rep_s, Nat.reduceAdd, Nat.reduceSub]; decreasing_trivial_pre_omega; exact h2
abbrev sKeyOf : Stmt := top 31
theorem scKeyOf : FnScope ["edit"] ["edit"] (defScope sKeyOf) := ⟨rfl, rfl, rfl, by decide +kernel, rfl, by decide +kernel, by decide +kernel⟩
theorem ok_key {f : Addr} {fd : FuncData} {k : Nat} (F : Fun K "key_of" "key_of" sKeyOf f fd) (T : Bl mg) : FnOk P w K mg base CX0 (k + 1) f fd ["edit"] (spD K 1 tfKey) := by
  refine okD F scKeyOf rfl fun cdv A outer s H E hr => ?_
  refine ⟨_, _, (pss_one (ps_ret (pe_tup (pa_cons (pe_ix ix_tup (pv 0) pe_int (fun _ _ => rfl)) (pa_cons (pe_ix ix_tup (pv 0) pe_int (fun _ _ => rfl)) (pa_cons (pe_ifExp (pt_cmpR op_eq (pe_ix ix_tup (pv 0) pe_int (fun _ _ => rfl)) pe_str (nomark _)) (pe_ix ix_tup (pv 0) pe_int (fun _ _ => rfl)) pe_int) pa_nil)))))),
    (ss_ret (se_tup (sa_cons (se_op so_ixT se_nm se_int) (sa_cons (se_op so_ixT se_nm se_int) (sa_cons (se_if (st_test (se_op so_eqS (se_op so_ixT se_nm se_int) se_str)) (se_op so_ixT se_nm se_int) se_int) sa_nil))))), fun ws M R RX hl h => ?_⟩
  obtain ⟨e, rfl, h2⟩ := h
  cases e <;> (unfold Edt.d; simp only [start0, len_c, len_n, map_c, map_n, app_c, app_n, rep_0, rep_s, Nat.reduceAdd, Nat.reduceSub]; decreasing_trivial_pre_omega; exact h2)
abbrev sTakes : Stmt := top 32
theorem scTakes : FnScope ["edit", "other"] ["edit", "other"] (defScope sTakes) := ⟨rfl, rfl, rfl, by decide +kernel, rfl, by decide +kernel, by decide +kernel⟩
theorem ok_takes {f : Addr} {fd : FuncData} {k j : Nat} (F : Fun K "takes_with" "takes_with" sTakes f fd) (Uis_within : Use P w K mg base "is_within" ["path", "top"] j (spD K 2 tfWithin)) (hj : j ≤ k) (T : Bl mg) : FnOk P w K mg base CX0 (k + 1) f fd ["edit", "other"] (spD K 2 tfTakes) := by
  refine okD F scTakes rfl fun cdv A outer s H E hr => ?_
  refine ⟨_, _, (pss_one (ps_ret (pe_and (pe_cmpR op_eq (pe_ix ix_tup (pv 0) pe_int (fun _ _ => rfl)) pe_str (nomark _)) (pe_one (pe_call Uis_within.ok (hr.mono (by omega)) rfl Uis_within.m Uis_within.kp Uis_within.b .nil pass0 (pa_cons (pe_ix ix_tup (pv 1) pe_int (fun _ _ => rfl)) (pa_cons (pe_ix ix_tup (pv 0) pe_int (fun _ _ => rfl)) pa_nil))))))),
    (ss_ret (se_and (se_op so_eqS (se_op so_ixT se_nm se_int) se_str) (se_call (sa_cons (se_op so_ixT se_nm se_int) (sa_cons (se_op so_ixT se_nm se_int) sa_nil))))), fun ws M R RX hl h => ?_⟩
  obtain ⟨e, o, rfl, ⟨h0, h1⟩, h2⟩ := h
  have e2 : takesE e o = (e.isOut && pre e.q o.q) := by
    unfold takesE pre
    congr 1
    exact decide_eq_decide.mpr (by rw [List.prefix_iff_eq_take]; exact eq_comm)
  rw [e2] at h2
  have key : ∃ w r, o.d = .tuple (w :: pathD o.q :: r) := by cases o <;> exact ⟨_, _, rfl⟩
  obtain ⟨wo, ro, eo⟩ := key
  rw [eo]
  cases e with
  | out q => unfold Edt.d; simp only [start0, len_c, len_n, map_c, map_n, app_c, app_n, rep_0, rep_s, Nat.reduceAdd, Nat.reduceSub]; decreasing_trivial_pre_omega; refine ⟨o.q, q, rfl, ⟨by omega, (by have : q.length ≤ 100 := h0; omega)⟩, ?_⟩; exact h2
  | name q t => unfold Edt.d; simp only [start0, len_c, len_n, map_c, map_n, app_c, app_n, rep_0, rep_s, Nat.reduceAdd, Nat.reduceSub]; decreasing_trivial_pre_omega; exact h2
  | put q n ts => unfold Edt.d; simp only [start0, len_c, len_n, map_c, map_n, app_c, app_n, rep_0, rep_s, Nat.reduceAdd, Nat.reduceSub]; decreasing_trivial_pre_omega; exact h2
theorem kT_cmp (a b : Edt) (h : a.q.length ≤ 100) : CmpOk a.kT b.kT where
  al := by simp [Edt.kT, PySem.W.alike, PySem.W.alikeAll, alike_path]
  nn := fun z => by cases z
  nd := by constructor <;> simp [Edt.kT, pathD, PyData.hasDict, PyData.hasDictAll, show PyData.hasDictAll (List.map (fun n : Nat => PyData.int (n : Int)) a.q) = false by have := path_nd a.q; unfold pathD at this; rwa [PyData.hasDict] at this, show PyData.hasDictAll (List.map (fun n : Nat => PyData.int (n : Int)) b.q) = false by have := path_nd b.q; unfold pathD at this; rwa [PyData.hasDict] at this]
  dp := by
    have := pathD_depth a.q
    simp only [Edt.kT, PyData.depth, PyData.depthAll]
    omega
theorem at_lastE {α : Type} (r : List α) (l : α) : atI (r ++ [l]) (-1) = some l := by
  have e : ixN (r ++ [l]).length (-1) = some r.length := by
    unfold ixN
    rw [List.length_append, List.length_singleton, if_neg (by omega), if_pos (by omega)]
    congr 1
    omega
  show (ixN (r ++ [l]).length (-1)).bind _ = _
  rw [e, Option.bind_some, List.getElem?_append_right (Nat.le_refl _), Nat.sub_self]
  rfl
abbrev sGoes : Stmt := top 33
theorem scGoes : FnScope ["side", "edit", "elder"] ["side", "edit"] (defScope sGoes) := ⟨rfl, rfl, rfl, by decide +kernel, rfl, by decide +kernel, by decide +kernel⟩
theorem ok_goes {f : Addr} {fd : FuncData} {k j : Nat} (F : Fun K "goes_on" "goes_on" sGoes f fd) (Ukey_of : Use P w K mg base "key_of" ["edit"] j (spD K 1 tfKey)) (Utakes_with : Use P w K mg base "takes_with" ["edit", "other"] j (spD K 2 tfTakes)) (hj : j ≤ k) (T : Bl mg) (mAny : mg "any" = none) : FnOk P w K mg base CX0 (k + 1) f fd ["side", "edit"] (spD K 2 tfGoes) := by
  refine okD F scGoes rfl fun cdv A outer s H E hr => ?_
  refine ⟨_, _, (pss_cons (ps_if (PW.pt (pw_and (pt_cmpR op_gt (pe_callB call_len_seq (by rfl) T.len PySem.boot_len (pa_cons (pv 0) pa_nil)) pe_int (nomark _)) (pw_and1 (pt_cmpR (op_geD (room65 hr)) (pe_call Ukey_of.ok (hr.mono (by omega)) rfl Ukey_of.m Ukey_of.kp Ukey_of.b .nil pass0 (pa_cons (pe_ix ix_tup (pv 0) (pe_un un_neg pe_int) (fun _ _ => rfl)) pa_nil)) (pe_call Ukey_of.ok (hr.mono (by omega)) rfl Ukey_of.m Ukey_of.kp Ukey_of.b .nil pass0 (pa_cons (pv 1) pa_nil)) (nomark _))))) (pss_one (ps_ret pe_bl)) pss_nil)
    (pss_one (ps_ret (pe_not (pe_callB (cr_any rfl) (by rfl) mAny PyProof.Rows.boot_any (pa_cons (pe_lc (own := [("elder", 2)]) (g := gName 2) (tt := tYes) (by rfl) scGoes.nd (pi_tup (pv 0)) (blkOk_by (N := ["side", "edit", "elder"]) (sc := defScope sGoes) (own := [("elder", 2)]) (by decide +kernel)) (fun _ _ _ _ _ => pg_name (i := 2) scGoes.nd rfl (Or.inl rfl)) (fun _ _ _ _ _ => pts_nil) (fun _ _ _ _ _ => (pe_or (pe_call Utakes_with.ok (hr.mono (by omega)) rfl Utakes_with.m Utakes_with.kp Utakes_with.b .nil pass0 (pa_cons (pv 2) (pa_cons (pv 1) pa_nil))) (pe_one (pe_call Utakes_with.ok (hr.mono (by omega)) rfl Utakes_with.m Utakes_with.kp Utakes_with.b .nil pass0 (pa_cons (pv 1) (pa_cons (pv 2) pa_nil))))))) pa_nil)))))),
    (ss_cons (ss_if (st_and (st_test (se_op so_gt (se_cb sc_len (sa_cons se_nm sa_nil)) se_int)) (st_test (se_op so_cmp (se_call (sa_cons (se_op so_ixT se_nm (se_un su_neg se_int)) sa_nil)) (se_call (sa_cons se_nm sa_nil))))) (ss_ret se_bl) ss_nil)
    (ss_ret (se_not (se_cb sc_any (sa_cons (se_lcF (si_tup se_nm) sg_name st_yes (se_or (se_call (sa_cons se_nm (sa_cons se_nm sa_nil))) (se_call (sa_cons se_nm (sa_cons se_nm sa_nil))))) sa_nil))))), fun ws M R RX hl h => ?_⟩
  obtain ⟨es, e, rfl, ⟨h0, h1, h3⟩, h2⟩ := h
  unfold goesE at h2
  rcases List.eq_nil_or_concat es with rfl | ⟨r, l, rfl⟩
  · simp only [start0, len_c, len_n, map_c, map_n, app_c, app_n, rep_0, rep_s, Nat.reduceAdd, Nat.reduceSub]
    decreasing_trivial_pre_omega
    refine ⟨trivial, ?_⟩
    decreasing_trivial_pre_omega
    exact gBs_n h2
  rw [List.concat_eq_append] at *
  rw [List.getLast?_concat] at h2
  have tl : (r ++ [l]).map Edt.d = r.map Edt.d ++ [l.d] := by rw [List.map_append]; rfl
  have hl1 := h1 l (List.mem_append_right _ (.head _))
  simp only [start0, len_c, len_n, map_c, map_n, app_c, app_n, rep_0, rep_s, Nat.reduceAdd, Nat.reduceSub]
  decreasing_trivial_pre_omega
  refine IfB.yes (by simp) ?_
  decreasing_trivial_pre_omega
  rw [tl]
  refine gO_i (at_lastE _ _) ?_
  decreasing_trivial_pre_omega
  refine ⟨l, rfl, ?_⟩
  decreasing_trivial_pre_omega
  refine ⟨e, rfl, ?_⟩
  refine ⟨kT_cmp l e hl1, ?_⟩
  decreasing_trivial_pre_omega
  have el : ltE l e = PySem.W.dataLt l.kT e.kT := rfl
  dsimp only at h2
  cases c : PySem.W.dataLt l.kT e.kT
  · rw [el, c, Bool.false_and] at h2
    refine IfB.f rfl ?_
    decreasing_trivial_pre_omega
    exact h2
  rw [el, c, Bool.true_and] at h2
  refine IfB.t rfl ?_
  decreasing_trivial_pre_omega
  rw [← tl]
  have mw : (((r ++ [l]).map Edt.d).map W.d) = (r ++ [l]).map fun x => W.d x.d := by rw [List.map_map]; rfl
  rw [mw]
  refine lc1F (k := fun _ => True) (b := bName 2) (fun x => .bool (takesE x e || takesE e x)) trivial (fun x hm Rk q => ?_) (sz1000 (by omega)) ?_
  · have hx := h1 x hm
    decreasing_trivial_pre_omega
    refine ⟨x, e, rfl, ⟨hx, h3⟩, ?_⟩
    cases c1 : takesE x e
    · rw [c1, Bool.false_or] at q
      decreasing_trivial_pre_omega
      exact ⟨e, x, rfl, ⟨h3, hx⟩, q⟩
    · rw [c1, Bool.true_or] at q
      decreasing_trivial_pre_omega
      exact q
  · decreasing_trivial_pre_omega
    rw [List.map_map]
    show gBs ((r ++ [l]).map fun x => W.d (.bool (takesE x e || takesE e x))) _
    rw [gBs_map]
    rw [List.any_map]
    exact h2
abbrev sIsEdit : Stmt := top 29
theorem scIsEdit : FnScope ["tree", "thing", "part", "word", "path"] ["tree", "thing"] (defScope sIsEdit) := ⟨rfl, rfl, rfl, by decide +kernel, rfl, by decide +kernel, by decide +kernel⟩
theorem ok_isEdit {f : Addr} {fd : FuncData} {k j : Nat} (F : Fun K "is_edit" "is_edit" sIsEdit f fd) (Uis_path : Use P w K mg base "is_path" ["thing"] j (spD K 1 (tfB isPath))) (Upart_at : Use P w K mg base "part_at" ["tree", "path"] j (spD K 2 tfPartAt)) (Uis_tag : Use P w K mg base "is_tag" ["thing"] j (spD K 1 (tfB isTag))) (Uis_number : Use P w K mg base "is_number" ["thing", "most"] j (spD K 2 (tfB2 isNum))) (Uis_row_of_trees : Use P w K mg base "is_row_of_trees" ["thing"] j (spD K 1 tfRowT)) (hj : j ≤ k) (T : Bl mg) : FnOk P w K mg base CX0 (k + 1) f fd ["tree", "thing"] (spD K 2 tfIsEdit) := by
  refine okD F scIsEdit rfl fun cdv A outer s H E hr => ?_
  refine ⟨_, _, (pss_cons (ps_if (PW.pt (pw_or (pt_not (pt_val (pe_callB (r := rIsi K) call_isi (by rfl) T.isi PyProof.Rows.boot_isinstance (pa_cons (pv 1) (pa_cons (b_tuple T) pa_nil))))) (pw_or (pt_cmpR op_lt (pe_callB call_len_seq (by rfl) T.len PySem.boot_len (pa_cons (pv 1) pa_nil)) pe_int (nomark _)) (pw_or1 (pt_not (pt_val (pe_call Uis_path.ok (hr.mono (by omega)) rfl Uis_path.m Uis_path.kp Uis_path.b .nil pass0 (pa_cons (pe_ix ix_tup (pv 1) pe_int (fun _ _ => rfl)) pa_nil)))))))) (pss_one (ps_ret pe_bl)) pss_nil)
    (pss_cons (ps_asg (pe_slice sl_tupA (pv 1) po_none (po_some pe_int)) (pg_tup rfl (pgs_cons (pg_name (i := 3) scIsEdit.nd rfl (.inl rfl)) (pgs_cons (pg_name (i := 4) scIsEdit.nd rfl (.inl rfl)) pgs_nil))))
    (pss_cons (ps_set (i := 2) scIsEdit.nd rfl (.inl rfl) (pe_call Upart_at.ok (hr.mono (by omega)) rfl Upart_at.m Upart_at.kp Upart_at.b .nil pass0 (pa_cons (pv 0) (pa_cons (pv 4) pa_nil))))
    (pss_cons (ps_if (pt_cmpR op_isN (pv 2) pe_non (nomark _)) (pss_one (ps_ret pe_bl)) pss_nil)
    (pss_cons (ps_if (pt_cmpR (op_eqD hr.units) (pv 3) pe_str (nomark _)) (pss_one (ps_ret (pe_and (pe_cmpR op_eq (pe_callB call_len_seq (by rfl) T.len PySem.boot_len (pa_cons (pv 1) pa_nil)) pe_int (nomark _)) (pe_one (pe_call Uis_tag.ok (hr.mono (by omega)) rfl Uis_tag.m Uis_tag.kp Uis_tag.b .nil pass0 (pa_cons (pe_ix ix_tup (pv 1) pe_int (fun _ _ => rfl)) pa_nil)))))) pss_nil)
    (pss_cons (ps_if (pt_cmpR (op_eqD hr.units) (pv 3) pe_str (nomark _)) (pss_one (ps_ret (pe_and (pe_cmpR op_eq (pe_callB call_len_seq (by rfl) T.len PySem.boot_len (pa_cons (pv 1) pa_nil)) pe_int (nomark _)) (pe_one (pe_cmpR (op_neD hr.units) (pv 4) (pe_tup pa_nil) (nomark _)))))) pss_nil)
    (pss_one (ps_ret (pe_and (pe_cmpR (op_eqD hr.units) (pv 3) pe_str (nomark _)) (pe_and (pe_cmpR op_eq (pe_callB call_len_seq (by rfl) T.len PySem.boot_len (pa_cons (pv 1) pa_nil)) pe_int (nomark _)) (pe_and (pe_call Uis_number.ok (hr.mono (by omega)) rfl Uis_number.m Uis_number.kp Uis_number.b .nil pass0 (pa_cons (pe_ix ix_tup (pv 1) pe_int (fun _ _ => rfl)) (pa_cons (pe_callB call_len_seq (by rfl) T.len PySem.boot_len (pa_cons (pe_ix ix_tup (pv 2) pe_int (fun _ _ => rfl)) pa_nil)) pa_nil))) (pe_one (pe_call Uis_row_of_trees.ok (hr.mono (by omega)) rfl Uis_row_of_trees.m Uis_row_of_trees.kp Uis_row_of_trees.b .nil pass0 (pa_cons (pe_ix ix_tup (pv 1) pe_int (fun _ _ => rfl)) pa_nil)))))))))))))),
    (ss_cons (ss_if (st_or (st_not (st_val (se_cb sc_isi (sa_cons se_nm (sa_cons se_o sa_nil))))) (st_or (st_test (se_op so_lt (se_cb sc_len (sa_cons se_nm sa_nil)) se_int)) (st_not (st_val (se_call (sa_cons (se_op so_ixT se_nm se_int) sa_nil)))))) (ss_ret se_bl) ss_nil)
    (ss_cons (ss_unp sg_tup2 (se_sl sl_T se_nm sp_no (sp_some se_int)))
    (ss_cons (ss_set (se_call (sa_cons se_nm (sa_cons se_nm sa_nil))))
    (ss_cons (ss_if (st_test (se_op so_isN se_nm se_non)) (ss_ret se_bl) ss_nil)
    (ss_cons (ss_if (st_test (se_op so_eqD se_nm se_str)) (ss_ret (se_and (se_op so_eqS (se_cb sc_len (sa_cons se_nm sa_nil)) se_int) (se_call (sa_cons (se_op so_ixT se_nm se_int) sa_nil)))) ss_nil)
    (ss_cons (ss_if (st_test (se_op so_eqD se_nm se_str)) (ss_ret (se_and (se_op so_eqS (se_cb sc_len (sa_cons se_nm sa_nil)) se_int) (se_op so_neD se_nm (se_tup sa_nil)))) ss_nil)
    (ss_ret (se_and (se_op so_eqD se_nm se_str) (se_and (se_op so_eqS (se_cb sc_len (sa_cons se_nm sa_nil)) se_int) (se_and (se_call (sa_cons (se_op so_ixT se_nm se_int) (sa_cons (se_cb sc_len (sa_cons (se_op so_ixT se_nm se_int) sa_nil)) sa_nil))) (se_call (sa_cons (se_op so_ixT se_nm se_int) sa_nil)))))))))))), fun ws M R RX hl h => ?_⟩
  obtain ⟨d, x, n, rfl, ⟨ht, hn, hx, hs1, hs2⟩, h2⟩ := h
  cases x with
  | tuple ds =>
    have htd : txtAll ds = true := by rw [txt] at hx; exact hx
    cases ds with
    | nil => simp only [start0, len_c, len_n, map_c, map_n, app_c, app_n, rep_0, rep_s, Nat.reduceAdd, Nat.reduceSub]; decreasing_trivial_pre_omega; exact h2
    | cons w r =>
      cases r with
      | nil => simp only [start0, len_c, len_n, map_c, map_n, app_c, app_n, rep_0, rep_s, Nat.reduceAdd, Nat.reduceSub]; decreasing_trivial_pre_omega; exact h2
      | cons p r =>
        have hp : txt p = true := txtAll_get (i := 1) htd rfl
        simp only [start0, len_c, len_n, map_c, map_n, app_c, app_n, rep_0, rep_s, Nat.reduceAdd, Nat.reduceSub]
        decreasing_trivial_pre_omega
        cases c1 : isPath p
        · rw [asEdit, c1] at h2
          refine IfB.f rfl ?_
          decreasing_trivial_pre_omega
          exact h2
        obtain ⟨q, rfl, hq⟩ := path_of c1
        rw [asEdit, c1, if_pos rfl, pathOf_D] at h2
        refine IfB.t rfl ?_
        have hl4 : (cut (w :: pathD q :: r) none (some 2)) = [w, pathD q] := by
          rw [show (2 : Int) = ((2 : Nat) : Int) from rfl, cut_to]
          rfl
        decreasing_trivial_pre_omega
        rw [hl4]
        decreasing_trivial_pre_omega
        refine ⟨d, q, n, rfl, ht, ?_⟩
        cases c2 : sub d q with
        | none =>
          rw [c2] at h2
          rw [show optP none = .none from rfl]
          decreasing_trivial_pre_omega
          exact h2
        | some e =>
          rw [c2] at h2
          dsimp only at h2
          rw [show ∀ e, optP (some e) = e from fun _ => rfl]
          have hn1 := isN_no (tr_some ht c2)
          obtain ⟨s0, ks, rfl, _, hkn, _⟩ := node_at ht c2
          have ew : eqOk w = true := hs1 _ _ rfl
          have hkl : ks.length ≤ 200 := by have := len_nn ks; omega
          unfold edOf at h2
          rw [kidsD_node] at h2
          decreasing_trivial_pre_omega
          refine ⟨⟨ew, by decide +kernel⟩, ?_⟩
          cases c3 : PyData.eqv w (.str "name")
          · rw [c3, if_neg (by decide)] at h2
            decreasing_trivial_pre_omega
            refine ⟨⟨ew, by decide +kernel⟩, ?_⟩
            cases c4 : PyData.eqv w (.str "out")
            · rw [c4, if_neg (by decide)] at h2
              decreasing_trivial_pre_omega
              refine ⟨⟨ew, by decide +kernel⟩, ?_⟩
              cases c5 : PyData.eqv w (.str "put")
              · rw [c5, if_neg (by decide)] at h2
                decreasing_trivial_pre_omega
                exact h2
              · rw [c5, if_pos rfl] at h2
                decreasing_trivial_pre_omega
                match r, htd, hs2, h2 with
                | [], _, _, h2 => decreasing_trivial_pre_omega; exact h2
                | [_], _, _, h2 => decreasing_trivial_pre_omega; exact h2
                | [n, ts], htd, hs2, h2 =>
                  have tn : txt n = true := txtAll_get (i := 2) htd rfl
                  have tt : txt ts = true := txtAll_get (i := 3) htd rfl
                  dsimp only at h2
                  decreasing_trivial_pre_omega
                  cases c6 : isNum (ks.length : Nat) n
                  · rw [c6, Bool.false_and] at h2
                    decreasing_trivial_pre_omega
                    exact h2
                  · rw [c6, Bool.true_and] at h2
                    decreasing_trivial_pre_omega
                    refine ⟨⟨tt, fun es he => hs2 w (pathD q) n es (by rw [he])⟩, ?_⟩
                    cases c7 : rowT ts <;> (rw [c7] at h2; exact h2)
                | _ :: _ :: _ :: _, _, _, h2 => decreasing_trivial_pre_omega; exact h2
            · rw [c4, if_pos rfl] at h2
              decreasing_trivial_pre_omega
              match r, h2 with
              | [], h2 =>
                decreasing_trivial_pre_omega
                refine ⟨⟨eqOk_path q, by decide +kernel⟩, ?_⟩
                rw [show PyData.tuple [] = pathD [] from rfl, eqv_path]
                by_cases cq : q = []
                · rw [if_neg (fun z => z.2 cq)] at h2
                  rw [decide_eq_true cq]
                  exact h2
                · rw [if_pos ⟨rfl, cq⟩] at h2
                  rw [decide_eq_false cq]
                  exact h2
              | _ :: _, h2 =>
                rw [if_neg (fun z => nomatch z.1)] at h2
                decreasing_trivial_pre_omega
                exact h2
          · rw [c3, if_pos rfl] at h2
            decreasing_trivial_pre_omega
            match r, htd, h2 with
            | [], _, h2 => decreasing_trivial_pre_omega; exact h2
            | [t], htd, h2 =>
              have tn : txt t = true := txtAll_get (i := 2) htd rfl
              dsimp only at h2
              decreasing_trivial_pre_omega
              cases c6 : isTag t <;> (rw [c6] at h2; exact h2)
            | _ :: _ :: _, _, h2 => decreasing_trivial_pre_omega; exact h2
  | _ => simp only [start0, len_c, len_n, map_c, map_n, app_c, app_n, rep_0, rep_s, Nat.reduceAdd, Nat.reduceSub]; decreasing_trivial_pre_omega; exact h2
end
end Tl
set_option Elab.async false
set_option linter.all false
set_option maxRecDepth 100000
set_option maxHeartbeats 8000000
namespace Tl
open PySem L2 RZ
local macro_rules
  | `(tactic| decreasing_trivial) => `(tactic| ((with_reducible (conv => whnf)); (repeat ((first | (with_reducible refine exI (by first | exact mset_same | assumption | (rw [mset_ne (by assumption)]; first | exact mset_same | assumption)) ?_) | (with_reducible refine exI2 (by first | exact mset_same | assumption | (rw [mset_ne (by assumption)]; first | exact mset_same | assumption)) ?_) | (with_reducible refine gPut_n ?_) | (with_reducible refine gPut_0 ?_) | (with_reducible refine (gPut_s (by decide +kernel)) ?_) | (with_reducible refine (gO_i lk_nt) ?_) | (with_reducible refine (gO_i lk_ou) ?_) | (with_reducible refine (gO_i lk_pu) ?_) | (with_reducible refine gDs_c ?_) | (with_reducible refine gDs_n ?_) | (with_reducible refine gNs_c ?_) | (with_reducible refine gNs_n ?_) | (with_reducible refine gO_i tyAny_lt ?_) | (with_reducible refine gIs_c ?_) | (with_reducible refine gIs_n ?_) | (with_reducible refine gBs_c ?_) | (with_reducible refine gBs_n ?_) | (with_reducible refine gSs_c ?_) | (with_reducible refine gSs_n ?_) | (with_reducible refine gO_i tyIs_int ?_) | (with_reducible refine gO_i tyIs_bool ?_) | (with_reducible refine gO_i tyIs_str ?_) | (with_reducible refine gO_i tyIs_tuple ?_) | (with_reducible refine gO_i tyIs_list ?_) | (with_reducible refine gDs_i ?_) | (with_reducible refine gO_i (Eq.refl _) ?_) | (with_reducible refine gO_i (by assumption) ?_) | (with_reducible refine gO_i at_0 ?_) | (with_reducible refine gO_i at_m0 ?_) | (with_reducible refine gO_i at_1 ?_) | (with_reducible refine gO_i at_m1 ?_) | (with_reducible refine gO_i at_2 ?_) | (with_reducible refine gO_i at_m2 ?_) | (with_reducible refine gO_i at_3 ?_) | (with_reducible refine gO_i at_m3 ?_) | (with_reducible refine gO_i at_4 ?_) | (with_reducible refine gO_i at_m4 ?_) | (with_reducible refine gO_i at_5 ?_) | (with_reducible refine gO_i at_m5 ?_) | (with_reducible refine gO_i at_6 ?_) | (with_reducible refine gO_i at_m6 ?_) | (with_reducible refine gO_i at_7 ?_) | (with_reducible refine gO_i at_m7 ?_) | (with_reducible refine IfB.ngf ?_) | (with_reducible refine IfB.ngt ?_) | (with_reducible refine IfB.not ?_) | (with_reducible refine IfB.nil ?_) | (with_reducible refine IfB.nilT ?_) | (with_reducible refine IfB.f isE_c ?_) | (with_reducible refine IfB.t isE_n ?_) | (with_reducible refine IfB.t ?gha ?_; (case gha => rfl)) | (with_reducible refine IfB.f ?gha ?_; (case gha => rfl)) | (with_reducible refine IfB.t ?gha ?_; (case gha => assumption)) | (with_reducible refine IfB.f ?gha ?_; (case gha => assumption)) | (with_reducible refine IfB.yes (Eq.refl _) ?_) | (with_reducible refine IfB.yes ?gha ?_; (case gha => (first | omega | (simp only [len_c, len_n, List.length_map]; omega)))) | (with_reducible refine IfB.no ?gha ?_; (case gha => (first | omega | (simp only [len_c, len_n, List.length_map]; omega)))) | (with_reducible refine IfB.t ?gha ?_; (case gha => decide +kernel)) | (with_reducible refine IfB.f ?gha ?_; (case gha => decide +kernel))); (with_reducible (conv => whnf))))))
local macro_rules
  | `(tactic| decreasing_trivial_pre_omega) => `(tactic| (decreasing_trivial; (repeat ((first | ((with_reducible refine And.intro ?gha ?_); (case gha => (first | assumption | omega | exact rfl | (exact mset_same) | (exact ⟨_, mset_same⟩) | (exact Exists.intro _ (by first | exact mset_same | assumption | (rw [mset_ne (by assumption)]; first | exact mset_same | assumption))) | (exact sm_of (by omega) (by omega)) | (exact sz1000 (by first | omega | (simp; done) | (simp; omega))) | (exact Or.inl ⟨by decide, by decide⟩) | decide | (simp; done) | (refine ⟨?_, ?_⟩ <;> (first | assumption | omega | exact rfl | (exact mset_same) | (exact ⟨_, mset_same⟩) | (exact Exists.intro _ (by first | exact mset_same | assumption | (rw [mset_ne (by assumption)]; first | exact mset_same | assumption))) | (exact sm_of (by omega) (by omega)) | (exact sz1000 (by first | omega | (simp; done) | (simp; omega))) | (exact Or.inl ⟨by decide, by decide⟩) | decide | (simp; done))) | (refine ⟨?_, ?_, ?_⟩ <;> (first | assumption | omega | exact rfl | (exact mset_same) | (exact ⟨_, mset_same⟩) | (exact Exists.intro _ (by first | exact mset_same | assumption | (rw [mset_ne (by assumption)]; first | exact mset_same | assumption))) | (exact sm_of (by omega) (by omega)) | (exact sz1000 (by first | omega | (simp; done) | (simp; omega))) | (exact Or.inl ⟨by decide, by decide⟩) | decide | (simp; done))) | (refine ⟨?_, ?_, ?_, ?_⟩ <;> (first | assumption | omega | exact rfl | (exact mset_same) | (exact ⟨_, mset_same⟩) | (exact Exists.intro _ (by first | exact mset_same | assumption | (rw [mset_ne (by assumption)]; first | exact mset_same | assumption))) | (exact sm_of (by omega) (by omega)) | (exact sz1000 (by first | omega | (simp; done) | (simp; omega))) | (exact Or.inl ⟨by decide, by decide⟩) | decide | (simp; done)))))) | (with_reducible refine exW (by first | exact mset_same | assumption | (rw [mset_ne (by assumption)]; first | exact mset_same | assumption)) ?_)); decreasing_trivial))))
@[reducible] def tfEdIn (C : Addr) : TF := fun ws M R _ => ∃ (a dx : Addr) (es : List Edt), ws = [.r a, .d (.tuple (es.map Edt.d))] ∧ (M a = some (.ins C dx []) ∧ es.length ≤ 100) ∧ ∀ M', EdsAt C M' a es → (∀ x, x ≠ a → M x ≠ none → M' x = M x) → R (.d .none) M'
@[reducible] def tfTreesAt (C : Addr) : TF := fun ws M R _ => ∃ (a : Addr) (es : List Edt) (q : List Nat) (n : Nat), ws = [.r a, .d (pathD q), .d (.int (n : Nat))] ∧ EdsAt C M a es ∧ R (.d (.tuple (ptL es q n))) M
section
variable {P : Program} {w : World} {K : PySem.W.Frag} {mg : Str → Option Value} {base : Heap}
abbrev sEdIn : Stmt := inClsN (top 28) 0
theorem scEdIn : FnScope ["self", "side", "edit"] ["self", "side"] (defScope sEdIn) := ⟨rfl, rfl, rfl, by decide +kernel, rfl, by decide +kernel, by decide +kernel⟩
theorem ok_edIn {f C : Addr} {fd : FuncData} {k : Nat} (F : Fun K "__init__" "Edits.__init__" sEdIn f fd) (MEdits : EdC K C) (T : Bl mg) : FnOk P w K mg base (L2.CX P w) (k + 1) f fd ["self", "side"] (spD K 2 (tfEdIn C)) := by
  refine okDX F scEdIn rfl fun cdv A outer s H E hr => ?_
  refine ⟨_, fun RE => _, (pss_cons (ps_fld (pv 0) (pe_dcU (own := [("edit", 2)]) (g := gName 2) (hu20 hr) (by rfl) scEdIn.nd (pi_tup (pv 1)) (blkOk_by (N := ["self", "side", "edit"]) (sc := defScope sEdIn) (own := [("edit", 2)]) (by decide +kernel)) (fun _ _ _ _ _ => pg_name (i := 2) scEdIn.nd rfl (Or.inl rfl)) (fun _ _ _ _ _ => (pts_one (pt_cmpR op_eq (pe_ix ix_tup (pv 2) pe_int (fun _ _ => rfl)) pe_str (nomark _)))) (fun _ _ _ _ _ => (pe_ix ix_tup (pv 2) pe_int (fun _ _ => rfl))) (fun _ _ _ _ _ => (pe_ix ix_tup (pv 2) pe_int (fun _ _ => rfl)))) (by rfl))
    (pss_cons (ps_fld (pv 0) (pe_dcU (own := [("edit", 2)]) (g := gName 2) (hu20 hr) (by rfl) scEdIn.nd (pi_tup (pv 1)) (blkOk_by (N := ["self", "side", "edit"]) (sc := defScope sEdIn) (own := [("edit", 2)]) (by decide +kernel)) (fun _ _ _ _ _ => pg_name (i := 2) scEdIn.nd rfl (Or.inl rfl)) (fun _ _ _ _ _ => (pts_one (pt_cmpR op_eq (pe_ix ix_tup (pv 2) pe_int (fun _ _ => rfl)) pe_str (nomark _)))) (fun _ _ _ _ _ => (pe_ix ix_tup (pv 2) pe_int (fun _ _ => rfl))) (fun _ _ _ _ _ => pe_bl)) (by rfl))
    (pss_one (ps_fld (pv 0) (pe_dcU (own := [("edit", 2)]) (g := gName 2) (hu20 hr) (by rfl) scEdIn.nd (pi_tup (pv 1)) (blkOk_by (N := ["self", "side", "edit"]) (sc := defScope sEdIn) (own := [("edit", 2)]) (by decide +kernel)) (fun _ _ _ _ _ => pg_name (i := 2) scEdIn.nd rfl (Or.inl rfl)) (fun _ _ _ _ _ => (pts_one (pt_cmpR op_eq (pe_ix ix_tup (pv 2) pe_int (fun _ _ => rfl)) pe_str (nomark _)))) (fun _ _ _ _ _ => (pe_slice sl_tupA (pv 2) (po_some pe_int) (po_some pe_int))) (fun _ _ _ _ _ => (pe_ix ix_tup (pv 2) pe_int (fun _ _ => rfl)))) (by rfl))))), fun RE => (ss_cons (ss_fld (se_dcT (si_tup se_nm) sg_name (st_test (se_op so_eqS (se_op so_ixT se_nm se_int) se_str)) (se_op so_ixT se_nm se_int) (se_op so_ixT se_nm se_int)) se_nm)
    (ss_cons (ss_fld (se_dcT (si_tup se_nm) sg_name (st_test (se_op so_eqS (se_op so_ixT se_nm se_int) se_str)) (se_op so_ixT se_nm se_int) se_bl) se_nm)
    (ss_fld (se_dcT (si_tup se_nm) sg_name (st_test (se_op so_eqS (se_op so_ixT se_nm se_int) se_str)) (se_sl sl_T se_nm (sp_some se_int) (sp_some se_int)) (se_op so_ixT se_nm se_int)) se_nm))), fun ws M R RX hl h => ?_⟩
  obtain ⟨a, dx, es, rfl, ⟨hM, hl1⟩, h2⟩ := h
  have c1 := MEdits.cls
  have c2 := MEdits.n1
  have c3 := MEdits.n2
  have c4 := MEdits.n3
  simp only [start0, len_c, len_n, map_c, map_n, app_c, app_n, rep_0, rep_s, Nat.reduceAdd, Nat.reduceSub]
  decreasing_trivial_pre_omega
  have mw : (es.map Edt.d).map W.d = es.map fun e => W.d e.d := by rw [List.map_map]; rfl
  rw [mw]
  refine dcGoT_all (f := fun e : Edt => W.d e.d) gNm trivial (fun e _ Rk q => ?_) (fun e _ kk z he Rk ⟨ds, e1, e2, e3⟩ q => ?_) (fun e _ kk z he Rk q => ?_) (fun e _ kk z he => g_key (e := e) (.inl he)) (by rw [List.length_nil]; exact sz1000 (by omega)) ?_
  · cases e <;> (unfold Edt.d; decreasing_trivial_pre_omega; exact q)
  · cases e <;> first | (cases he; done) | (cases he; unfold Edt.d; decreasing_trivial_pre_omega; exact q)
  · cases e <;> first | (cases he; done) | (cases he; unfold Edt.d; decreasing_trivial_pre_omega; exact q)
  intro p1 hp1
  have n1 : a ≠ p1 := fun z => by rw [z, hp1] at hM; cases hM
  decreasing_trivial_pre_omega
  rw [mw]
  refine dcGoT_all (f := fun e : Edt => W.d e.d) gOt trivial (fun e _ Rk q => ?_) (fun e _ kk z he Rk ⟨ds, e1, e2, e3⟩ q => ?_) (fun e _ kk z he Rk q => ?_) (fun e _ kk z he => g_key (e := e) (.inr (.inl he))) (by rw [List.length_nil]; exact sz1000 (by omega)) ?_
  · cases e <;> (unfold Edt.d; decreasing_trivial_pre_omega; exact q)
  · cases e <;> first | (cases he; done) | (cases he; unfold Edt.d; decreasing_trivial_pre_omega; exact q)
  · cases e <;> first | (cases he; done) | (cases he; unfold Edt.d; decreasing_trivial_pre_omega; exact q)
  have A1 : mset (mset M p1 (.dT (kwE gNm es))) a (.ins C dx [("new_tags", .r p1)]) a = some (.ins C dx [("new_tags", .r p1)]) := mset_same
  have P1 : mset (mset M p1 (.dT (kwE gNm es))) a (.ins C dx [("new_tags", .r p1)]) p1 = some (.dT (kwE gNm es)) := by rw [mset_ne n1.symm, mset_same]
  have K1 : ∀ x, x ≠ a → M x ≠ none → mset (mset M p1 (.dT (kwE gNm es))) a (.ins C dx [("new_tags", .r p1)]) x = M x := fun x h1 h2 => by rw [mset_ne h1, mset_ne (fun z => h2 (by rw [z]; exact hp1))]
  intro p2 hp2
  show nmT 0 _ (mset (mset (mset M p1 (.dT (kwE gNm es))) a (.ins C dx [("new_tags", .r p1)])) p2 (.dT (kwE gOt es))) _
  generalize mset (mset M p1 (.dT (kwE gNm es))) a (.ins C dx [("new_tags", .r p1)]) = M1 at hp2 A1 P1 K1 ⊢
  have n2 : a ≠ p2 := fun z => by rw [z, hp2] at A1; cases A1
  have n3 : p1 ≠ p2 := fun z => by rw [z, hp2] at P1; cases P1
  have A2 : mset M1 p2 (.dT (kwE gOt es)) a = some (.ins C dx [("new_tags", .r p1)]) := by rw [mset_ne n2]; exact A1
  have P2 : mset M1 p2 (.dT (kwE gOt es)) p1 = some (.dT (kwE gNm es)) := by rw [mset_ne n3]; exact P1
  have Q2 : mset M1 p2 (.dT (kwE gOt es)) p2 = some (.dT (kwE gOt es)) := mset_same
  have K2 : ∀ x, x ≠ a → M x ≠ none → mset M1 p2 (.dT (kwE gOt es)) x = M x := fun x h1 h2 => by
    have := K1 x h1 h2
    rw [mset_ne (fun z => h2 (by rw [← this, z]; exact hp2))]
    exact this
  generalize mset M1 p2 (.dT (kwE gOt es)) = M2 at A2 P2 Q2 K2 ⊢
  decreasing_trivial_pre_omega
  rw [mw]
  refine dcGoT_all (f := fun e : Edt => W.d e.d) gPt trivial (fun e _ Rk q => ?_) (fun e _ kk z he Rk ⟨ds, e1, e2, e3⟩ q => ?_) (fun e _ kk z he Rk q => ?_) (fun e _ kk z he => g_key (e := e) (.inr (.inr he))) (by rw [List.length_nil]; exact sz1000 (by omega)) ?_
  · cases e <;> (unfold Edt.d; decreasing_trivial_pre_omega; exact q)
  · cases e <;> first | (cases he; done) | (cases he; unfold Edt.d; decreasing_trivial_pre_omega; exact q)
  · cases e <;> first | (cases he; done) | (cases he; unfold Edt.d; decreasing_trivial_pre_omega; exact q)
  have A3 : mset M2 a (.ins C dx [("new_tags", .r p1), ("outs", .r p2)]) a = some (.ins C dx [("new_tags", .r p1), ("outs", .r p2)]) := mset_same
  have P3 : mset M2 a (.ins C dx [("new_tags", .r p1), ("outs", .r p2)]) p1 = some (.dT (kwE gNm es)) := by rw [mset_ne n1.symm]; exact P2
  have Q3 : mset M2 a (.ins C dx [("new_tags", .r p1), ("outs", .r p2)]) p2 = some (.dT (kwE gOt es)) := by rw [mset_ne n2.symm]; exact Q2
  have K3 : ∀ x, x ≠ a → M x ≠ none → mset M2 a (.ins C dx [("new_tags", .r p1), ("outs", .r p2)]) x = M x := fun x h1 h2 => by rw [mset_ne h1]; exact K2 x h1 h2
  intro p3 hp3
  show nmT 0 _ (mset (mset M2 a (.ins C dx [("new_tags", .r p1), ("outs", .r p2)])) p3 (.dT (kwE gPt es))) _
  generalize mset M2 a (.ins C dx [("new_tags", .r p1), ("outs", .r p2)]) = M3 at hp3 A3 P3 Q3 K3 ⊢
  have n4 : a ≠ p3 := fun z => by rw [z, hp3] at A3; cases A3
  have n5 : p1 ≠ p3 := fun z => by rw [z, hp3] at P3; cases P3
  have n6 : p2 ≠ p3 := fun z => by rw [z, hp3] at Q3; cases Q3
  have A4 : mset M3 p3 (.dT (kwE gPt es)) a = some (.ins C dx [("new_tags", .r p1), ("outs", .r p2)]) := by rw [mset_ne n4]; exact A3
  decreasing_trivial_pre_omega
  refine h2 _ ⟨dx, p1, p2, p3, mset_same, ?_, ?_, ?_⟩ fun x h1 h2 => ?_
  · rw [mset_ne n1.symm, mset_ne n5]; exact P3
  · rw [mset_ne n2.symm, mset_ne n6]; exact Q3
  · rw [mset_ne n4.symm, mset_same]
  · have := K3 x h1 h2
    rw [mset_ne h1, mset_ne (fun z => h2 (by rw [← this, z]; exact hp3))]
    exact this
abbrev sTreesAt : Stmt := inClsN (top 28) 1
theorem scTreesAt : FnScope ["self", "path", "at"] ["self", "path", "at"] (defScope sTreesAt) := ⟨rfl, rfl, rfl, by decide +kernel, rfl, by decide +kernel, by decide +kernel⟩
theorem ok_treesAt {f C : Addr} {fd : FuncData} {k : Nat} (F : Fun K "trees_at" "Edits.trees_at" sTreesAt f fd) (MEdits : EdC K C) (T : Bl mg) : FnOk P w K mg base CX0 (k + 1) f fd ["self", "path", "at"] (spD K 3 (tfTreesAt C)) := by
  refine okD F scTreesAt rfl fun cdv A outer s H E hr => ?_
  refine ⟨_, _, (pss_one (ps_ret (pe_ubm PySem.F.slot_dict_get PySem.F.type_dict_get (mt_getU2 (hu20 hr)) (pe_fld (pv 0) (by rfl)) (pa_cons (pe_tup (pa_cons (pv 1) (pa_cons (pv 2) pa_nil))) (pa_cons (pe_tup pa_nil) pa_nil))))),
    (ss_ret (se_ubm sm_getU2 (se_fld se_nm) (sa_cons (se_tup (sa_cons se_nm (sa_cons se_nm sa_nil))) (sa_cons (se_tup sa_nil) sa_nil)))), fun ws M R RX hl h => ?_⟩
  obtain ⟨a, es, q, n, rfl, ⟨dx, b1, b2, b3, hM, e1, e2, e3⟩, h2⟩ := h
  have c1 := MEdits.cls
  have c4 := MEdits.n3
  simp only [start0, len_c, len_n, map_c, map_n, app_c, app_n, rep_0, rep_s, Nat.reduceAdd, Nat.reduceSub]
  decreasing_trivial_pre_omega
  refine ⟨⟨ok_pathN q n, pathN_depth q n⟩, _, e3, ?_⟩
  rw [val_pt]
  unfold ptL at h2
  cases c : ptE es q n <;> (rw [c] at h2; exact h2)
end
end Tl
set_option Elab.async false
set_option linter.all false
set_option maxRecDepth 100000
set_option maxHeartbeats 8000000
namespace Tl
open PySem L2 RZ
local macro_rules
  | `(tactic| decreasing_trivial) => `(tactic| ((with_reducible (conv => whnf)); (repeat ((first | (with_reducible refine exI (by first | exact mset_same | assumption | (rw [mset_ne (by assumption)]; first | exact mset_same | assumption)) ?_) | (with_reducible refine exI2 (by first | exact mset_same | assumption | (rw [mset_ne (by assumption)]; first | exact mset_same | assumption)) ?_) | (with_reducible refine gPut_n ?_) | (with_reducible refine gPut_0 ?_) | (with_reducible refine (gPut_s (by decide +kernel)) ?_) | (with_reducible refine (gO_i lk_nt) ?_) | (with_reducible refine (gO_i lk_ou) ?_) | (with_reducible refine (gO_i lk_pu) ?_) | (with_reducible refine gDs_c ?_) | (with_reducible refine gDs_n ?_) | (with_reducible refine gNs_c ?_) | (with_reducible refine gNs_n ?_) | (with_reducible refine gO_i tyAny_lt ?_) | (with_reducible refine gIs_c ?_) | (with_reducible refine gIs_n ?_) | (with_reducible refine gBs_c ?_) | (with_reducible refine gBs_n ?_) | (with_reducible refine gSs_c ?_) | (with_reducible refine gSs_n ?_) | (with_reducible refine gO_i tyIs_int ?_) | (with_reducible refine gO_i tyIs_bool ?_) | (with_reducible refine gO_i tyIs_str ?_) | (with_reducible refine gO_i tyIs_tuple ?_) | (with_reducible refine gO_i tyIs_list ?_) | (with_reducible refine gDs_i ?_) | (with_reducible refine gO_i (Eq.refl _) ?_) | (with_reducible refine gO_i (by assumption) ?_) | (with_reducible refine gO_i at_0 ?_) | (with_reducible refine gO_i at_m0 ?_) | (with_reducible refine gO_i at_1 ?_) | (with_reducible refine gO_i at_m1 ?_) | (with_reducible refine gO_i at_2 ?_) | (with_reducible refine gO_i at_m2 ?_) | (with_reducible refine gO_i at_3 ?_) | (with_reducible refine gO_i at_m3 ?_) | (with_reducible refine gO_i at_4 ?_) | (with_reducible refine gO_i at_m4 ?_) | (with_reducible refine gO_i at_5 ?_) | (with_reducible refine gO_i at_m5 ?_) | (with_reducible refine gO_i at_6 ?_) | (with_reducible refine gO_i at_m6 ?_) | (with_reducible refine gO_i at_7 ?_) | (with_reducible refine gO_i at_m7 ?_) | (with_reducible refine IfB.ngf ?_) | (with_reducible refine IfB.ngt ?_) | (with_reducible refine IfB.not ?_) | (with_reducible refine IfB.nil ?_) | (with_reducible refine IfB.nilT ?_) | (with_reducible refine IfB.f isE_c ?_) | (with_reducible refine IfB.t isE_n ?_) | (with_reducible refine IfB.t ?gha ?_; (case gha => rfl)) | (with_reducible refine IfB.f ?gha ?_; (case gha => rfl)) | (with_reducible refine IfB.t ?gha ?_; (case gha => assumption)) | (with_reducible refine IfB.f ?gha ?_; (case gha => assumption)) | (with_reducible refine IfB.yes (Eq.refl _) ?_) | (with_reducible refine IfB.yes ?gha ?_; (case gha => (first | omega | (simp only [len_c, len_n, List.length_map]; omega)))) | (with_reducible refine IfB.no ?gha ?_; (case gha => (first | omega | (simp only [len_c, len_n, List.length_map]; omega)))) | (with_reducible refine IfB.t ?gha ?_; (case gha => decide +kernel)) | (with_reducible refine IfB.f ?gha ?_; (case gha => decide +kernel))); (with_reducible (conv => whnf))))))
local macro_rules
  | `(tactic| decreasing_trivial_pre_omega) => `(tactic| (decreasing_trivial; (repeat ((first | ((with_reducible refine And.intro ?gha ?_); (case gha => (first | assumption | omega | exact rfl | (exact mset_same) | (exact ⟨_, mset_same⟩) | (exact Exists.intro _ (by first | exact mset_same | assumption | (rw [mset_ne (by assumption)]; first | exact mset_same | assumption))) | (exact sm_of (by omega) (by omega)) | (exact sz1000 (by first | omega | (simp; done) | (simp; omega))) | (exact Or.inl ⟨by decide, by decide⟩) | decide | (simp; done) | (refine ⟨?_, ?_⟩ <;> (first | assumption | omega | exact rfl | (exact mset_same) | (exact ⟨_, mset_same⟩) | (exact Exists.intro _ (by first | exact mset_same | assumption | (rw [mset_ne (by assumption)]; first | exact mset_same | assumption))) | (exact sm_of (by omega) (by omega)) | (exact sz1000 (by first | omega | (simp; done) | (simp; omega))) | (exact Or.inl ⟨by decide, by decide⟩) | decide | (simp; done))) | (refine ⟨?_, ?_, ?_⟩ <;> (first | assumption | omega | exact rfl | (exact mset_same) | (exact ⟨_, mset_same⟩) | (exact Exists.intro _ (by first | exact mset_same | assumption | (rw [mset_ne (by assumption)]; first | exact mset_same | assumption))) | (exact sm_of (by omega) (by omega)) | (exact sz1000 (by first | omega | (simp; done) | (simp; omega))) | (exact Or.inl ⟨by decide, by decide⟩) | decide | (simp; done))) | (refine ⟨?_, ?_, ?_, ?_⟩ <;> (first | assumption | omega | exact rfl | (exact mset_same) | (exact ⟨_, mset_same⟩) | (exact Exists.intro _ (by first | exact mset_same | assumption | (rw [mset_ne (by assumption)]; first | exact mset_same | assumption))) | (exact sm_of (by omega) (by omega)) | (exact sz1000 (by first | omega | (simp; done) | (simp; omega))) | (exact Or.inl ⟨by decide, by decide⟩) | decide | (simp; done)))))) | (with_reducible refine exW (by first | exact mset_same | assumption | (rw [mset_ne (by assumption)]; first | exact mset_same | assumption)) ?_)); decreasing_trivial))))
theorem EdsAt.kept {C : Addr} {M M' : Mem} {a : Addr} {es : List Edt} (h : EdsAt C M a es) (k : ∀ x, M x ≠ none → M' x = M x) : EdsAt C M' a es := by
  obtain ⟨dx, b1, b2, b3, h1, h2, h3, h4⟩ := h
  exact ⟨dx, b1, b2, b3, by rw [k a (by rw [h1]; exact fun z => nomatch z)]; exact h1, by rw [k b1 (by rw [h2]; exact fun z => nomatch z)]; exact h2, by rw [k b2 (by rw [h3]; exact fun z => nomatch z)]; exact h3, by rw [k b3 (by rw [h4]; exact fun z => nomatch z)]; exact h4⟩
theorem kept_new {M : Mem} {p : Addr} {o : MO} (h : M p = none) : ∀ x, M x ≠ none → mset M p o x = M x := fun x hx => mset_ne fun z => hx (by rw [z]; exact h)
/-- the part behind, level by level -/
@[reducible] def tfPartB (C : Addr) (n : Nat) : TF := fun ws M R _ => ∃ (d : PyData) (q : List Nat) (a : Addr) (es : List Edt), ws = [.d d, .d (pathD q), .r a] ∧ (TrT n d ∧ nn d ≤ 200 ∧ EdsAt C M a es ∧ q.length + n ≤ 100 ∧ (nn (bhd es q d) ≤ 400)) ∧ R (.d (bhd es q d)) M
section
variable {P : Program} {w : World} {K : PySem.W.Frag} {mg : Str → Option Value} {base : Heap}
abbrev sPartB : Stmt := top 38
theorem scPartB : FnScope ["part", "path", "edits", "run", "tag", "kids", "at", "kid"] ["part", "path", "edits"] (defScope sPartB) := ⟨rfl, rfl, rfl, by decide +kernel, rfl, by decide +kernel, by decide +kernel⟩
theorem ok_partB1 {f C : Addr} {fd : FuncData} {n : Nat} (F : Fun K "part_behind" "part_behind" sPartB f fd) (MEdits : EdC K C) (UEdits_trees_at : UseM P w K mg base C "trees_at" ["self", "path", "at"] (1 + n) (spD K 3 (tfTreesAt C))) (Upart_behind : Use P w K mg base "part_behind" ["part", "path", "edits"] (1 + n) (spD K 3 (tfPartB C n))) (T : Bl mg) : FnOk P w K mg base CX0 (1 + n + 1) f fd ["part", "path", "edits"] (spD K 3 (tfPartB C (n + 1))) := by
  refine okDL F scPartB rfl fun cdv A outer s H E hr => ?_
  refine ⟨_, _, (pss_cons (ps_asg (pv 0) (pg_tup rfl (pgs_cons (pg_name (i := 4) scPartB.nd rfl (.inl rfl)) (pgs_cons (pg_name (i := 5) scPartB.nd rfl (.inl rfl)) pgs_nil))))
    (pss_cons (ps_set (i := 3) scPartB.nd rfl (.inl rfl) (pe_lst pa_nil))
    (pss_cons (ps_for PassesOwn.never rfl (pi_enumT (by rfl) T.enum (pa_cons (pv 5) pa_nil)) (pg_tup rfl (pgs_cons (pg_name (i := 6) scPartB.nd rfl (.inl rfl)) (pgs_cons (pg_name (i := 7) scPartB.nd rfl (.inl rfl)) pgs_nil))) (pss_cons (ps_expr (pe_bm PySem.F.plainAttrs_list PySem.F.slot_list_extend PySem.F.type_list_extend mt_extT (pv 3) (pa_cons (pe_meth (E := fun _ _ _ => False) (pv 2) MEdits.cls UEdits_trees_at.hm UEdits_trees_at.ok (hr.mono (by omega)) UEdits_trees_at.b .nil pass0 (pa_cons (pv 1) (pa_cons (pv 6) pa_nil))) pa_nil)))
      (pss_one (ps_if (pt_cmpR (op_notInU (hu20 hr)) (pe_op op_catA (pv 1) (pe_tup (pa_cons (pv 6) pa_nil))) (pe_fld (pv 2) (by rfl)) (by rfl)) (pss_one (ps_expr (pe_bm PySem.F.plainAttrs_list PySem.F.slot_list_append PySem.F.type_list_append mt_append (pv 3) (pa_cons (pe_call Upart_behind.ok (hr.mono (by omega)) rfl Upart_behind.m Upart_behind.kp Upart_behind.b .nil pass0 (pa_cons (pv 7) (pa_cons (pe_op op_catA (pv 1) (pe_tup (pa_cons (pv 6) pa_nil))) (pa_cons (pv 2) pa_nil)))) pa_nil)))) pss_nil))))
    (pss_cons (ps_expr (pe_bm PySem.F.plainAttrs_list PySem.F.slot_list_extend PySem.F.type_list_extend mt_extT (pv 3) (pa_cons (pe_meth (E := fun _ _ _ => False) (pv 2) MEdits.cls UEdits_trees_at.hm UEdits_trees_at.ok (hr.mono (by omega)) UEdits_trees_at.b .nil pass0 (pa_cons (pv 1) (pa_cons (pe_callB call_len_seq (by rfl) T.len PySem.boot_len (pa_cons (pv 5) pa_nil)) pa_nil))) pa_nil)))
    (pss_one (ps_ret (pe_tup (pa_cons (pe_ubm PySem.F.slot_dict_get PySem.F.type_dict_get (mt_getU2 (hu20 hr)) (pe_fld (pv 2) (by rfl)) (pa_cons (pv 1) (pa_cons (pv 4) pa_nil))) (pa_cons (pe_callTy call_tuple_of (by rfl) T.tuple PyProof.Rows.boot_tuple (pa_cons (pv 3) pa_nil)) pa_nil))))))))),
    (ss_cons (ss_unp sg_tup2 se_nm)
    (ss_cons (ss_set (se_lst sa_nil))
    (ss_cons (ss_for (si_enT (sa_cons se_nm sa_nil)) sg_pair (ss_cons (ss_drop (se_bmL sm_extT se_nm (sa_cons (se_meth se_nm (sa_cons se_nm (sa_cons se_nm sa_nil))) sa_nil)))
      (ss_if (st_test (se_op so_ninU (se_op so_catT se_nm (se_tup (sa_cons se_nm sa_nil))) (se_fld se_nm))) (ss_drop (se_bmL sm_append se_nm (sa_cons (se_call (sa_cons se_nm (sa_cons (se_op so_catT se_nm (se_tup (sa_cons se_nm sa_nil))) (sa_cons se_nm sa_nil)))) sa_nil))) ss_nil)))
    (ss_cons (ss_drop (se_bmL sm_extT se_nm (sa_cons (se_meth se_nm (sa_cons se_nm (sa_cons (se_cb sc_len (sa_cons se_nm sa_nil)) sa_nil))) sa_nil)))
    (ss_ret (se_tup (sa_cons (se_ubm sm_getU2 (se_fld se_nm) (sa_cons se_nm (sa_cons se_nm sa_nil))) (sa_cons (se_cb sc_tuple (sa_cons se_nm sa_nil)) sa_nil)))))))), fun ws M R RX hl h => ?_⟩
  obtain ⟨d, q, a, es, rfl, ⟨ht, hn, hE, hq, hb⟩, h2⟩ := h
  obtain ⟨s0, ks, rfl, hs, hk⟩ := ht
  have c1 := MEdits.cls
  have c2 := MEdits.n1
  have c3 := MEdits.n2
  have hnk : nnAll ks ≤ 200 := by rw [nn] at hn; omega
  have hkl := len_nn ks
  simp only [start0, len_c, len_n, map_c, map_n, app_c, app_n, rep_0, rep_s, Nat.reduceAdd, Nat.reduceSub]
  decreasing_trivial_pre_omega
  intro p hp
  decreasing_trivial_pre_omega
  have hE1 : ∀ l, EdsAt C (mset M p (.lst l)) a es := fun l => hE.kept (kept_new hp)
  obtain ⟨dx, b1, b2, b3, hA, hN1, hO, hP⟩ := hE
  have na : a ≠ p := fun z => by rw [z, hp] at hA; cases hA
  have nb1 : b1 ≠ p := fun z => by rw [z, hp] at hN1; cases hN1
  have nb2 : b2 ≠ p := fun z => by rw [z, hp] at hO; cases hO
  have ltr : List.lookup ("trees_at" : Str) (edF b1 b2 b3) = none := lk_tr
  have bnn : nnAll (bhdR es q 0 ks) ≤ 400 := by rw [bhd, nn] at hb; omega
  have tot : (bhdR es q 0 ks).length ≤ 400 := Nat.le_trans (len_nn _) bnn
  have path1 : ∀ i : Nat, PyData.tuple ((q.map fun n : Nat => PyData.int (n : Int)) ++ [.int (i : Int)]) = pathD (q ++ [i]) := fun i => path_cat ..
  refine forE (fun i ρ M' => ∃ (acc : List PyData) (y6 y7 : Option W), ρ = [some (.d (.tuple [.str s0, .tuple ks])), some (.d (pathD q)), some (.r a), some (.r p), some (.d (.str s0)), some (.d (.tuple ks)), y6, y7] ∧ M' = mset M p (.lst (acc.map W.d)) ∧ acc ++ bhdR es q i (ks.drop i) = bhdR es q 0 ks)
    ⟨[], none, none, rfl, rfl, rfl⟩ (fun _ _ _ _ _ => trivial) (fun i kid ρ M' N hi pv hN => ?_) (fun ρ M' pv => ?_)
  · obtain ⟨acc, y6, y7, rfl, rfl, e1⟩ := pv
    rw [List.getElem?_map] at hi
    obtain ⟨kd, hkd, rfl⟩ := Option.map_eq_some_iff.mp hi
    have hi2 := (List.getElem?_eq_some_iff.mp hkd).1
    have hm := List.mem_of_getElem? hkd
    have hnk1 := nn_mem hm
    rw [List.drop_eq_getElem_cons hi2, (List.getElem?_eq_some_iff.mp hkd).2, bhdR] at e1
    decreasing_trivial_pre_omega
    refine ⟨a, es, q, i, rfl, hE1 _, ?_⟩
    have l1 := congrArg List.length e1
    rw [List.length_append, List.length_append, List.length_append] at l1
    decreasing_trivial_pre_omega
    rw [mset_mset, ← List.map_append]
    unfold pathD
    decreasing_trivial_pre_omega
    rw [path1]
    refine ⟨⟨ok_path' _, Nat.le_trans (pathD_depth _) (by decide)⟩, _, by rw [mset_ne nb2]; exact hO, ?_⟩
    rw [val_ot]
    cases co : outE es (q ++ [i])
    · rw [co, if_neg (by decide)] at e1
      have l2 := congrArg nnAll e1
      rw [nnAll_app, nnAll_app, nnAll_app, nnAll_one] at l2
      have l3 := congrArg List.length e1
      rw [List.length_append, List.length_append, List.length_append, List.length_singleton] at l3
      decreasing_trivial_pre_omega
      rw [path1]
      refine ⟨kd, q ++ [i], a, es, rfl, ⟨hk kd hm, by omega, hE1 _, by rw [List.length_append, List.length_singleton]; omega, by omega⟩, ?_⟩
      decreasing_trivial_pre_omega
      rw [mset_mset]
      exact hN _ _ ⟨acc ++ ptL es q i ++ [bhd es (q ++ [i]) kd], _, _, rfl, by rw [List.map_append (l₂ := [bhd es (q ++ [i]) kd])]; rfl, by rw [List.append_assoc, List.append_assoc]; exact e1⟩
    · rw [co] at e1
      decreasing_trivial_pre_omega
      exact hN _ _ ⟨acc ++ ptL es q i, _, _, rfl, rfl, by rw [List.append_assoc]; exact e1⟩
  · obtain ⟨acc, y6, y7, rfl, rfl, e1⟩ := pv
    rw [List.length_map, List.drop_length, bhdR] at e1
    decreasing_trivial_pre_omega
    refine ⟨a, es, q, ks.length, rfl, hE1 _, ?_⟩
    have l1 := congrArg List.length e1
    rw [List.length_append] at l1
    decreasing_trivial_pre_omega
    rw [mset_mset, ← List.map_append, e1]
    decreasing_trivial_pre_omega
    refine ⟨⟨ok_path' q, Nat.le_trans (pathD_depth q) (by decide)⟩, _, by rw [mset_ne nb1]; exact hN1, ?_⟩
    have ev : (valU (kwE gNm es) (pathD q)).getD (W.d (.str s0)) = W.d (.str ((nmE es q).getD s0)) := by
      rw [val_nm]
      cases nmE es q <;> rfl
    show consA _ _ _ _ (fun xs M2 => gDs ((valU (kwE gNm es) (pathD q)).getD (W.d (.str s0)) :: xs) _)
    rw [ev]
    decreasing_trivial_pre_omega
    rw [bhd] at h2
    exact ⟨M, fun x o h => by rw [kept_new hp x (by rw [h]; exact fun z => nomatch z)]; exact h, h2⟩
theorem ok_partB {f C : Addr} {fd : FuncData} (F : Fun K "part_behind" "part_behind" sPartB f fd) (mF : mg "part_behind" = some (.ref f)) (MEdits : EdC K C) (UEdits_trees_at : UseM P w K mg base C "trees_at" ["self", "path", "at"] 1 (spD K 3 (tfTreesAt C))) (T : Bl mg) : ∀ n, FnOk P w K mg base CX0 (1 + n) f fd ["part", "path", "edits"] (spD K 3 (tfPartB C n))
  | 0 => (no0 (tf := tfPartB C 0) (n := 3) (ps := ["part", "path", "edits"]) fun ws M R RX ⟨_, _, _, _, _, ⟨h, _⟩, _⟩ => h).mono (Nat.zero_le _)
  | n + 1 => ok_partB1 F MEdits ⟨UEdits_trees_at.f, UEdits_trees_at.fd, UEdits_trees_at.ok.mono (by omega), UEdits_trees_at.hm, UEdits_trees_at.b⟩ ⟨f, fd, ok_partB F mF MEdits UEdits_trees_at T n, mF, F.kp, F.binds (ps := ["part", "path", "edits"]) fun _ _ _ _ _ _ us hl => match us, hl with | [_, _, _], _ => rfl⟩ T
/-- the tree behind a side -/
@[reducible] def tfTreeB (C : Addr) : TF := fun ws M R _ => ∃ (d : PyData) (n : Nat) (es : List Edt), ws = [.d d, .d (.tuple (es.map Edt.d))] ∧ (TrT n d ∧ n ≤ 20 ∧ nn d ≤ 200 ∧ es.length ≤ 100 ∧ nn (bhd es [] d) ≤ 400) ∧ R (.d (bhd es [] d)) M
abbrev sTreeB : Stmt := top 37
theorem scTreeB : FnScope ["tree", "side"] ["tree", "side"] (defScope sTreeB) := ⟨rfl, rfl, rfl, by decide +kernel, rfl, by decide +kernel, by decide +kernel⟩
theorem ok_treeB {f C : Addr} {fd : FuncData} {k j : Nat} (F : Fun K "tree_behind" "tree_behind" sTreeB f fd) (UEdits : UseC P w K mg base C "Edits" ["self", "side"] j (spD K 2 (tfEdIn C))) (Upart_behind : Use P w K mg base "part_behind" ["part", "path", "edits"] j (spD K 3 (tfPartB C 20))) (hj : j + 1 ≤ k) (T : Bl mg) : FnOk P w K mg base (L2.CX P w) (k + 1) f fd ["tree", "side"] (spD K 2 (tfTreeB C)) := by
  refine okDXLL F scTreeB rfl fun cdv A outer s H E hr => ?_
  refine ⟨_, fun RE => _, (pss_one (ps_ret (pe_call (E := fun _ _ _ => False) Upart_behind.ok (hr.mono (by omega)) rfl Upart_behind.m Upart_behind.kp Upart_behind.b .nil pass0 (pa_cons (pv 0) (pa_cons (pe_tup pa_nil) (pa_cons (pe_makeE UEdits.made UEdits.ok (hr.mono (by omega)) (by rfl) UEdits.m UEdits.b (fun σ => passAt (takes_of (E := E) rfl rfl rfl rfl) σ) (pa_cons (pv 1) pa_nil)) pa_nil)))))), fun RE => (ss_ret (se_call (sa_cons se_nm (sa_cons (se_tup sa_nil) (sa_cons (se_makeX (sa_cons se_nm sa_nil)) sa_nil))))), fun ws M R RX hl h => ?_⟩
  obtain ⟨d, n, es, rfl, ⟨ht, hn, hd, hl1, hb⟩, h2⟩ := h
  simp only [start0, len_c, len_n, map_c, map_n, app_c, app_n, rep_0, rep_s, Nat.reduceAdd, Nat.reduceSub]
  decreasing_trivial_pre_omega
  intro a dx ha
  refine ⟨a, dx, es, rfl, ⟨mset_same, hl1⟩, fun M' hE kp => ⟨rfl, ?_⟩⟩
  decreasing_trivial_pre_omega
  refine ⟨d, [], a, es, rfl, ⟨ht.mono hn, hd, hE, by decide, hb⟩, ?_⟩
  refine ⟨M, fun x o h => ?_, h2⟩
  have nx : x ≠ a := fun z => by rw [z, ha] at h; cases h
  rw [kp x nx (by rw [mset_ne nx, h]; exact fun z => nomatch z), mset_ne nx]
  exact h
/-- how many stand ahead -/
@[reducible] def tfAhead (C : Addr) : TF := fun ws M R _ => ∃ (q : List Nat) (i : Nat) (a : Addr) (es : List Edt), ws = [.d (pathD q), .d (.int (i : Nat)), .r a] ∧ (EdsAt C M a es ∧ q.length ≤ 50 ∧ i ≤ 1000) ∧ R (.d (.int (aheadE es q i : Nat))) M
abbrev sAhead : Stmt := top 41
theorem scAhead : FnScope ["path", "at", "edits", "many", "step"] ["path", "at", "edits"] (defScope sAhead) := ⟨rfl, rfl, rfl, by decide +kernel, rfl, by decide +kernel, by decide +kernel⟩
theorem ok_ahead {f C : Addr} {fd : FuncData} {k j : Nat} (F : Fun K "many_ahead" "many_ahead" sAhead f fd) (MEdits : EdC K C) (UEdits_trees_at : UseM P w K mg base C "trees_at" ["self", "path", "at"] j (spD K 3 (tfTreesAt C))) (hj : j ≤ k) (T : Bl mg) : FnOk P w K mg base CX0 (k + 1) f fd ["path", "at", "edits"] (spD K 3 (tfAhead C)) := by
  refine okD F scAhead rfl fun cdv A outer s H E hr => ?_
  refine ⟨_, _, (pss_cons (ps_set (i := 3) scAhead.nd rfl (.inl rfl) pe_int)
    (pss_cons (ps_for PassesOwn.never rfl (pi_range1 (by rfl) T.range (pa_cons (pv 1) pa_nil)) (pg_name (i := 4) scAhead.nd rfl (.inl rfl)) (pss_cons (ps_aug (i := 3) scAhead.nd rfl (.inl rfl) (pe_callB call_len_seq (by rfl) T.len PySem.boot_len (pa_cons (pe_meth (E := fun _ _ _ => False) (pv 2) MEdits.cls UEdits_trees_at.hm UEdits_trees_at.ok (hr.mono (by omega)) UEdits_trees_at.b .nil pass0 (pa_cons (pv 0) (pa_cons (pv 4) pa_nil))) pa_nil)) ip_add)
      (pss_one (ps_if (pt_cmpR (op_notInU (hu20 hr)) (pe_op op_catA (pv 0) (pe_tup (pa_cons (pv 4) pa_nil))) (pe_fld (pv 2) (by rfl)) (by rfl)) (pss_one (ps_aug (i := 3) scAhead.nd rfl (.inl rfl) pe_int ip_add)) pss_nil))))
    (pss_one (ps_ret (pv 3))))),
    (ss_cons (ss_set se_int)
    (ss_cons (ss_for (si_r1 (sa_cons se_nm sa_nil)) sg_name (ss_cons (ss_augI (se_cb sc_len (sa_cons (se_meth se_nm (sa_cons se_nm (sa_cons se_nm sa_nil))) sa_nil)))
      (ss_if (st_test (se_op so_ninU (se_op so_catT se_nm (se_tup (sa_cons se_nm sa_nil))) (se_fld se_nm))) (ss_augI se_int) ss_nil)))
    (ss_ret se_nm))), fun ws M R RX hl h => ?_⟩
  obtain ⟨q, i, a, es, rfl, ⟨hE, hq, hi⟩, h2⟩ := h
  have hE0 := hE
  obtain ⟨dx, b1, b2, b3, hA, hN1, hO, hP⟩ := hE
  have c1 := MEdits.cls
  have c3 := MEdits.n2
  have ltr : List.lookup ("trees_at" : Str) (edF b1 b2 b3) = none := lk_tr
  have path1 : ∀ i : Nat, PyData.tuple ((q.map fun n : Nat => PyData.int (n : Int)) ++ [.int (i : Int)]) = pathD (q ++ [i]) := fun i => path_cat ..
  simp only [start0, len_c, len_n, map_c, map_n, app_c, app_n, rep_0, rep_s, Nat.reduceAdd, Nat.reduceSub]
  decreasing_trivial_pre_omega
  refine forR (fun n ρ M' => M' = M ∧ ∃ y : Option W, ρ = [some (.d (pathD q)), some (.d (.int (i : Nat))), some (.r a), some (.d (.int (aheadE es q n : Nat))), y])
    ⟨rfl, none, rfl⟩ (fun _ _ _ _ _ => trivial) (fun n ρ M' N hn pv hN => ?_) (fun ρ M' pv => ?_)
  · obtain ⟨rfl, y, rfl⟩ := pv
    rw [Int.zero_add]
    decreasing_trivial_pre_omega
    refine ⟨a, es, q, n, rfl, hE0, ?_⟩
    decreasing_trivial_pre_omega
    unfold pathD
    decreasing_trivial_pre_omega
    rw [path1]
    refine ⟨⟨ok_path' _, Nat.le_trans (pathD_depth _) (by decide)⟩, _, hO, ?_⟩
    rw [val_ot]
    cases co : outE es (q ++ [n])
    · have ea : ((aheadE es q n : Nat) : Int) + ((ptL es q n).length : Nat) + 1 = ((aheadE es q (n + 1) : Nat) : Int) := by
        rw [aheadE, co]
        show _ = ((aheadE es q n + ((ptL es q n).length + 1) : Nat) : Int)
        omega
      decreasing_trivial_pre_omega
      dsimp only
      rw [ea]
      exact hN _ _ ⟨rfl, some (.d (.int (n : Int))), rfl⟩
    · have ea : ((aheadE es q n : Nat) : Int) + ((ptL es q n).length : Nat) = ((aheadE es q (n + 1) : Nat) : Int) := by
        rw [aheadE, co]
        show _ = ((aheadE es q n + ((ptL es q n).length + 0) : Nat) : Int)
        omega
      decreasing_trivial_pre_omega
      dsimp only
      rw [ea]
      exact hN _ _ ⟨rfl, some (.d (.int (n : Int))), rfl⟩
  · obtain ⟨rfl, y, rfl⟩ := pv
    decreasing_trivial_pre_omega
    rw [show ((i : Int)).toNat = i from rfl]
    exact h2
/-- where a place is behind a side -/
def optPath : Option (List Nat) → PyData
  | none => .none
  | some q => pathD q
@[reducible] def tfPathB (C : Addr) : TF := fun ws M R _ => ∃ (q : List Nat) (a : Addr) (es : List Edt), ws = [.d (pathD q), .r a] ∧ (EdsAt C M a es ∧ q.length ≤ 40 ∧ ∀ i ∈ q, i ≤ 1000) ∧ R (.d (optPath (phE es [] q))) M
abbrev sPathB : Stmt := top 40
theorem scPathB : FnScope ["path", "edits", "there", "level", "step", "above"] ["path", "edits"] (defScope sPathB) := ⟨rfl, rfl, rfl, by decide +kernel, rfl, by decide +kernel, by decide +kernel⟩
theorem ok_pathB {f C : Addr} {fd : FuncData} {k j : Nat} (F : Fun K "path_behind" "path_behind" sPathB f fd) (MEdits : EdC K C) (UEdits_trees_at : UseM P w K mg base C "trees_at" ["self", "path", "at"] j (spD K 3 (tfTreesAt C))) (Umany_ahead : Use P w K mg base "many_ahead" ["path", "at", "edits"] j (spD K 3 (tfAhead C))) (hj : j ≤ k) (T : Bl mg) : FnOk P w K mg base CX0 (k + 1) f fd ["path", "edits"] (spD K 2 (tfPathB C)) := by
  refine okD F scPathB rfl fun cdv A outer s H E hr => ?_
  refine ⟨_, _, (pss_cons (ps_set (i := 2) scPathB.nd rfl (.inl rfl) (pe_tup pa_nil))
    (pss_cons (ps_for PassesOwn.never rfl (pi_enumT (by rfl) T.enum (pa_cons (pv 0) pa_nil)) (pg_tup rfl (pgs_cons (pg_name (i := 3) scPathB.nd rfl (.inl rfl)) (pgs_cons (pg_name (i := 4) scPathB.nd rfl (.inl rfl)) pgs_nil))) (pss_cons (ps_set (i := 5) scPathB.nd rfl (.inl rfl) (pe_slice sl_tupA (pv 0) po_none (po_some (pv 3))))
      (pss_cons (ps_if (pt_cmpR (op_inU (hu20 hr)) (pe_op op_catA (pv 5) (pe_tup (pa_cons (pv 4) pa_nil))) (pe_fld (pv 1) (by rfl)) (by rfl)) (pss_one (ps_ret pe_non)) pss_nil)
      (pss_one (ps_aug (i := 2) scPathB.nd rfl (.inl rfl) (pe_tup (pa_cons (pe_op op_add (pe_call Umany_ahead.ok (hr.mono (by omega)) rfl Umany_ahead.m Umany_ahead.kp Umany_ahead.b .nil pass0 (pa_cons (pv 5) (pa_cons (pv 4) (pa_cons (pv 1) pa_nil)))) (pe_callB call_len_seq (by rfl) T.len PySem.boot_len (pa_cons (pe_meth (E := fun _ _ _ => False) (pv 1) MEdits.cls UEdits_trees_at.hm UEdits_trees_at.ok (hr.mono (by omega)) UEdits_trees_at.b .nil pass0 (pa_cons (pv 5) (pa_cons (pv 4) pa_nil))) pa_nil))) pa_nil)) in_catA)))))
    (pss_one (ps_ret (pv 2))))),
    (ss_cons (ss_set (se_tup sa_nil))
    (ss_cons (ss_for (si_enT (sa_cons se_nm sa_nil)) sg_pair (ss_cons (ss_set (se_sl sl_T se_nm sp_no (sp_some se_nm)))
      (ss_cons (ss_if (st_test (se_op so_inU (se_op so_catT se_nm (se_tup (sa_cons se_nm sa_nil))) (se_fld se_nm))) (ss_ret se_non) ss_nil)
      (ss_augO so_catT (se_tup (sa_cons (se_op so_add (se_call (sa_cons se_nm (sa_cons se_nm (sa_cons se_nm sa_nil)))) (se_cb sc_len (sa_cons (se_meth se_nm (sa_cons se_nm (sa_cons se_nm sa_nil))) sa_nil))) sa_nil))))))
    (ss_ret se_nm))), fun ws M R RX hl h => ?_⟩
  obtain ⟨q, a, es, rfl, ⟨hE, hq, hi⟩, h2⟩ := h
  have hE0 := hE
  obtain ⟨dx, b1, b2, b3, hA, hN1, hO, hP⟩ := hE
  have c1 := MEdits.cls
  have c3 := MEdits.n2
  have ltr : List.lookup ("trees_at" : Str) (edF b1 b2 b3) = none := lk_tr
  unfold pathD
  simp only [start0, len_c, len_n, map_c, map_n, app_c, app_n, rep_0, rep_s, Nat.reduceAdd, Nat.reduceSub]
  decreasing_trivial_pre_omega
  refine forE (fun n ρ M' => M' = M ∧ ∃ (acc : List Nat) (y3 y4 y5 : Option W), ρ = [some (.d (.tuple (q.map fun n : Nat => PyData.int (n : Int)))), some (.r a), some (.d (.tuple (acc.map fun n : Nat => PyData.int (n : Int)))), y3, y4, y5] ∧ acc.length = n ∧ phE es [] q = (phE es (q.take n) (q.drop n)).map (acc ++ ·))
    ⟨rfl, [], none, none, none, rfl, rfl, ?_⟩ (fun _ _ _ _ _ => trivial) (fun n kd ρ M' N hn pv hN => ?_) (fun ρ M' pv => ?_)
  · show _ = (phE es [] q).map _
    cases phE es [] q <;> rfl
  · obtain ⟨rfl, acc, y3, y4, y5, rfl, la, e1⟩ := pv
    rw [List.getElem?_map, List.getElem?_map] at hn
    obtain ⟨kd1, hkd1, rfl⟩ := Option.map_eq_some_iff.mp hn
    obtain ⟨i, hkd, rfl⟩ := Option.map_eq_some_iff.mp hkd1
    have hn2 := (List.getElem?_eq_some_iff.mp hkd).1
    rw [List.drop_eq_getElem_cons hn2, (List.getElem?_eq_some_iff.mp hkd).2, phE] at e1
    have ci : (cut (q.map fun n : Nat => PyData.int (n : Int)) none (some (n : Int))) = (q.take n).map fun n : Nat => PyData.int (n : Int) := by rw [cut_to, ← List.map_take]
    have path1 : PyData.tuple (((q.take n).map fun n : Nat => PyData.int (n : Int)) ++ [.int (i : Int)]) = pathD (q.take n ++ [i]) := path_cat ..
    have ltk : (q.take n).length ≤ 40 := by rw [List.length_take]; omega
    have hi1 := hi i (List.mem_of_getElem? hkd)
    decreasing_trivial_pre_omega
    rw [ci]
    decreasing_trivial_pre_omega
    rw [path1]
    refine ⟨⟨ok_path' _, Nat.le_trans (pathD_depth _) (by decide)⟩, _, hO, ?_⟩
    rw [val_ot]
    cases co : outE es (q.take n ++ [i])
    · rw [co, if_neg (by decide)] at e1
      decreasing_trivial_pre_omega
      refine ⟨q.take n, i, a, es, rfl, ⟨hE0, by omega, hi1⟩, ?_⟩
      decreasing_trivial_pre_omega
      refine ⟨a, es, q.take n, i, rfl, hE0, ?_⟩
      decreasing_trivial_pre_omega
      have ec : PyData.tuple ((acc.map fun n : Nat => PyData.int (n : Int)) ++ [.int ((aheadE es (q.take n) i : Nat) + ((ptL es (q.take n) i).length : Nat))]) = PyData.tuple ((acc ++ [aheadE es (q.take n) i + (ptL es (q.take n) i).length]).map fun n : Nat => PyData.int (n : Int)) := by
        rw [List.map_append, List.map_singleton]
        congr 3
      rw [ec]
      refine hN _ _ ⟨rfl, acc ++ [aheadE es (q.take n) i + (ptL es (q.take n) i).length], some (.d (.int (n : Int))), some (.d (.int (i : Int))), some (.d (.tuple ((q.take n).map fun n : Nat => PyData.int (n : Int)))), rfl, by rw [List.length_append, la]; rfl, ?_⟩
      rw [List.take_add_one, hkd, e1, Option.map_map]
      show _ = Option.map _ (phE es (q.take n ++ [i]) (q.drop (n + 1)))
      congr 1
      funext z
      show acc ++ _ :: z = acc ++ [_] ++ z
      rw [List.append_assoc]
      rfl
    · rw [co, if_pos rfl] at e1
      rw [e1] at h2
      decreasing_trivial_pre_omega
      exact h2
  · obtain ⟨rfl, acc, y3, y4, y5, rfl, la, e1⟩ := pv
    rw [List.length_map, List.length_map, List.take_length, List.drop_length, phE] at e1
    rw [e1, Option.map_some, List.append_nil] at h2
    decreasing_trivial_pre_omega
    exact h2
end
end Tl
set_option Elab.async false
set_option linter.all false
set_option maxRecDepth 100000
set_option maxHeartbeats 8000000
namespace Tl
open PySem L2 RZ
local macro_rules
  | `(tactic| decreasing_trivial) => `(tactic| ((with_reducible (conv => whnf)); (repeat ((first | (with_reducible refine gDs_c ?_) | (with_reducible refine gDs_n ?_) | (with_reducible refine gNs_c ?_) | (with_reducible refine gNs_n ?_) | (with_reducible refine gO_i tyAny_lt ?_) | (with_reducible refine gIs_c ?_) | (with_reducible refine gIs_n ?_) | (with_reducible refine gBs_c ?_) | (with_reducible refine gBs_n ?_) | (with_reducible refine gSs_c ?_) | (with_reducible refine gSs_n ?_) | (with_reducible refine gO_i tyIs_int ?_) | (with_reducible refine gO_i tyIs_bool ?_) | (with_reducible refine gO_i tyIs_str ?_) | (with_reducible refine gO_i tyIs_tuple ?_) | (with_reducible refine gO_i tyIs_list ?_) | (with_reducible refine gDs_i ?_) | (with_reducible refine gO_i (Eq.refl _) ?_) | (with_reducible refine gO_i (by assumption) ?_) | (with_reducible refine gO_i at_0 ?_) | (with_reducible refine gO_i at_m0 ?_) | (with_reducible refine gO_i at_1 ?_) | (with_reducible refine gO_i at_m1 ?_) | (with_reducible refine gO_i at_2 ?_) | (with_reducible refine gO_i at_m2 ?_) | (with_reducible refine gO_i at_3 ?_) | (with_reducible refine gO_i at_m3 ?_) | (with_reducible refine gO_i at_4 ?_) | (with_reducible refine gO_i at_m4 ?_) | (with_reducible refine gO_i at_5 ?_) | (with_reducible refine gO_i at_m5 ?_) | (with_reducible refine gO_i at_6 ?_) | (with_reducible refine gO_i at_m6 ?_) | (with_reducible refine gO_i at_7 ?_) | (with_reducible refine gO_i at_m7 ?_) | (with_reducible refine IfB.ngf ?_) | (with_reducible refine IfB.ngt ?_) | (with_reducible refine IfB.not ?_) | (with_reducible refine IfB.nil ?_) | (with_reducible refine IfB.nilT ?_) | (with_reducible refine IfB.f isE_c ?_) | (with_reducible refine IfB.t isE_n ?_) | (with_reducible refine IfB.t ?gha ?_; (case gha => rfl)) | (with_reducible refine IfB.f ?gha ?_; (case gha => rfl)) | (with_reducible refine IfB.t ?gha ?_; (case gha => assumption)) | (with_reducible refine IfB.f ?gha ?_; (case gha => assumption)) | (with_reducible refine IfB.yes (Eq.refl _) ?_) | (with_reducible refine IfB.yes ?gha ?_; (case gha => (first | omega | (simp only [len_c, len_n, List.length_map]; omega)))) | (with_reducible refine IfB.no ?gha ?_; (case gha => (first | omega | (simp only [len_c, len_n, List.length_map]; omega)))) | (with_reducible refine IfB.t ?gha ?_; (case gha => decide +kernel)) | (with_reducible refine IfB.f ?gha ?_; (case gha => decide +kernel))); (with_reducible (conv => whnf))))))
local macro_rules
  | `(tactic| decreasing_trivial_pre_omega) => `(tactic| (decreasing_trivial; (repeat ((first | ((with_reducible refine And.intro ?gha ?_); (case gha => (first | assumption | omega | exact rfl | (exact mset_same) | (exact ⟨_, mset_same⟩) | (exact Exists.intro _ (by first | exact mset_same | assumption | (rw [mset_ne (by assumption)]; first | exact mset_same | assumption))) | (exact sm_of (by omega) (by omega)) | (exact sz1000 (by first | omega | (simp; done) | (simp; omega))) | (exact Or.inl ⟨by decide, by decide⟩) | decide | (simp; done) | (refine ⟨?_, ?_⟩ <;> (first | assumption | omega | exact rfl | (exact mset_same) | (exact ⟨_, mset_same⟩) | (exact Exists.intro _ (by first | exact mset_same | assumption | (rw [mset_ne (by assumption)]; first | exact mset_same | assumption))) | (exact sm_of (by omega) (by omega)) | (exact sz1000 (by first | omega | (simp; done) | (simp; omega))) | (exact Or.inl ⟨by decide, by decide⟩) | decide | (simp; done))) | (refine ⟨?_, ?_, ?_⟩ <;> (first | assumption | omega | exact rfl | (exact mset_same) | (exact ⟨_, mset_same⟩) | (exact Exists.intro _ (by first | exact mset_same | assumption | (rw [mset_ne (by assumption)]; first | exact mset_same | assumption))) | (exact sm_of (by omega) (by omega)) | (exact sz1000 (by first | omega | (simp; done) | (simp; omega))) | (exact Or.inl ⟨by decide, by decide⟩) | decide | (simp; done))) | (refine ⟨?_, ?_, ?_, ?_⟩ <;> (first | assumption | omega | exact rfl | (exact mset_same) | (exact ⟨_, mset_same⟩) | (exact Exists.intro _ (by first | exact mset_same | assumption | (rw [mset_ne (by assumption)]; first | exact mset_same | assumption))) | (exact sm_of (by omega) (by omega)) | (exact sz1000 (by first | omega | (simp; done) | (simp; omega))) | (exact Or.inl ⟨by decide, by decide⟩) | decide | (simp; done)))))) | (with_reducible refine exW (by first | exact mset_same | assumption | (rw [mset_ne (by assumption)]; first | exact mset_same | assumption)) ?_)); decreasing_trivial))))
abbrev sI_NoSide : Stmt := inClsN (top 6) 0
theorem scI_NoSide : FnScope ["self", "at"] ["self", "at"] (defScope sI_NoSide) := ⟨rfl, rfl, rfl, by decide +kernel, rfl, by decide +kernel, by decide +kernel⟩
theorem okI_NoSide {P : Program} {w : World} {K : PySem.W.Frag} {mg : Str → Option Value} {base : Heap} {f C : Addr} {fd : FuncData} {k : Nat} (F : Fun K "__init__" "NoSide.__init__" sI_NoSide f fd) (o : OexC K C) (n : PySem.W.findIn K (.ref C) "at" = some none) : FnOk P w K mg base CX0 (k + 1) f fd ["self", "at"] (spInitF K C "at") := by
  refine F.ok scI_NoSide (fun vs H Q E h => ?_) (fun cdv A outer s H vs Q E hr h => ?_)
  · obtain ⟨_, _, rfl, _⟩ := h
    rfl
  obtain ⟨a, v, rfl, ha, q⟩ := h
  exact ⟨_, pss_one (ps_ost (pv 0) (pv 1)), _, rfl, _, rfl, a, C, rfl, o, n, .inl ⟨ha, fun dx h1 h2 => q dx h1 h2⟩⟩
theorem eqv_str {w : PyData} {z : Str} (h : PyData.eqv w (.str z) = true) : w = .str z := by
  cases w with
  | str s =>
    rw [PyData.eqv] at h
    exact congrArg _ (beq_iff_eq.mp h)
  | _ => (rw [PyData.eqv] at h; cases h)
theorem tag_str' {t : PyData} (h : isTag t = true) : t = .str (tagS t) := by
  cases t with
  | str s => rfl
  | _ => cases h
theorem num_int {m : Int} {n : PyData} (h : isNum m n = true) : n = .int (intN n : Nat) ∧ ((intN n : Nat) : Int) ≤ m := by
  cases n with
  | int i =>
    rw [isNum, Bool.and_eq_true] at h
    have h1 := of_decide_eq_true h.1
    have h2 := of_decide_eq_true h.2
    have e : ((intN (.int i) : Nat) : Int) = i := by show ((i.toNat : Nat) : Int) = i; omega
    rw [e]
    exact ⟨rfl, h2⟩
  | _ => cases h
/-- an edit that a thing is, is that thing, and an edit of the tree -/
theorem as_edit {d x : PyData} {e : Edt} (hs : Slim x) (h : asEdit d x = some e) : e.d = x ∧ EdOk d e := by
  unfold asEdit at h
  split at h
  · rename_i w p r
    split at h
    · rename_i hp
      obtain ⟨q, rfl, hq⟩ := path_of hp
      rw [pathOf_D] at h
      split at h
      · rename_i u hu
        unfold edOf at h
        split at h
        · rename_i hw
          obtain rfl := eqv_str hw
          split at h
          · split at h
            · rename_i t ht
              cases h
              rw [tag_str' ht] at *
              exact ⟨rfl, hq, ⟨u, hu⟩, ht⟩
            · cases h
          · cases h
        · split at h
          · rename_i hw
            obtain rfl := eqv_str hw
            split at h
            · rename_i hr
              obtain ⟨rfl, hq0⟩ := hr
              cases h
              exact ⟨rfl, hq, ⟨u, hu⟩, hq0⟩
            · cases h
          · split at h
            · rename_i hw
              obtain rfl := eqv_str hw
              split at h
              · split at h
                · rename_i n ts hh
                  cases h
                  rw [Bool.and_eq_true] at hh
                  obtain ⟨e1, e2⟩ := num_int hh.1
                  have h2 := hh.2
                  cases ts with
                  | tuple es =>
                    have hl := hs.2 _ _ _ es rfl
                    rw [rowT, Bool.and_eq_true] at h2
                    refine ⟨?_, hq, ⟨u, hu, by omega⟩, fun z => ?_, List.all_eq_true.mp h2.2, hl⟩
                    · show PyData.tuple [.str "put", pathD q, .int ((intN n : Nat) : Int), .tuple es] = _
                      rw [← e1]
                    · have := of_decide_eq_true h2.1
                      rw [show es = [] from z] at this
                      cases this
                  | _ => cases h2
                · cases h
              · cases h
            · cases h
      · cases h
    · cases h
  · cases h
/-- the number of the first wrong one -/
def fwE (d : PyData) : List Edt → List PyData → Option Nat
  | _, [] => none
  | done, x :: r => match asEdit d x with
    | none => some done.length
    | some e => if goesE done e then fwE d (done ++ [e]) r else some done.length
def optInt : Option Nat → PyData
  | none => .none
  | some i => .int (i : Nat)
@[reducible] def tfFirst : TF := fun ws M R _ => ∃ (d : PyData) (xs : List PyData) (n : Nat), ws = [.d d, .d (.tuple xs)] ∧ (TrT n d ∧ nn d ≤ 200 ∧ (∀ x ∈ xs, txt x = true ∧ Slim x) ∧ xs.length ≤ 100) ∧ R (.d (optInt (fwE d [] xs))) M
theorem EdOk.len {d : PyData} {e : Edt} (h : EdOk d e) : e.q.length ≤ 100 := by
  cases e with
  | name q t => have := h.1.1; show q.length ≤ 100; omega
  | out q => have := h.1.1; show q.length ≤ 100; omega
  | put q n es => have := h.1.1; show q.length ≤ 100; omega
section
variable {P : Program} {w : World} {K : PySem.W.Frag} {mg : Str → Option Value} {base : Heap}
abbrev sFirst : Stmt := top 34
theorem scFirst : FnScope ["tree", "edits", "at", "edit"] ["tree", "edits"] (defScope sFirst) := ⟨rfl, rfl, rfl, by decide +kernel, rfl, by decide +kernel, by decide +kernel⟩
theorem ok_first {f : Addr} {fd : FuncData} {k j : Nat} (F : Fun K "first_wrong" "first_wrong" sFirst f fd) (Uis_edit : Use P w K mg base "is_edit" ["tree", "thing"] j (spD K 2 tfIsEdit)) (Ugoes_on : Use P w K mg base "goes_on" ["side", "edit"] j (spD K 2 tfGoes)) (hj : j ≤ k) (T : Bl mg) : FnOk P w K mg base CX0 (k + 1) f fd ["tree", "edits"] (spD K 2 tfFirst) := by
  refine okD F scFirst rfl fun cdv A outer s H E hr => ?_
  refine ⟨_, _, (pss_cons (ps_for PassesOwn.never rfl (pi_enumT (by rfl) T.enum (pa_cons (pv 1) pa_nil)) (pg_tup rfl (pgs_cons (pg_name (i := 2) scFirst.nd rfl (.inl rfl)) (pgs_cons (pg_name (i := 3) scFirst.nd rfl (.inl rfl)) pgs_nil))) (pss_one (ps_if (PW.pt (pw_or (pt_not (pt_val (pe_call Uis_edit.ok (hr.mono (by omega)) rfl Uis_edit.m Uis_edit.kp Uis_edit.b .nil pass0 (pa_cons (pv 0) (pa_cons (pv 3) pa_nil))))) (pw_or1 (pt_not (pt_val (pe_call Ugoes_on.ok (hr.mono (by omega)) rfl Ugoes_on.m Ugoes_on.kp Ugoes_on.b .nil pass0 (pa_cons (pe_slice sl_tupA (pv 1) po_none (po_some (pv 2))) (pa_cons (pv 3) pa_nil)))))))) (pss_one (ps_ret (pv 2))) pss_nil)))
    (pss_one (ps_ret pe_non))),
    (ss_cons (ss_for (si_enT (sa_cons se_nm sa_nil)) sg_pair (ss_if (st_or (st_not (st_val (se_call (sa_cons se_nm (sa_cons se_nm sa_nil))))) (st_not (st_val (se_call (sa_cons (se_sl sl_T se_nm sp_no (sp_some se_nm)) (sa_cons se_nm sa_nil)))))) (ss_ret se_nm) ss_nil))
    (ss_ret se_non)), fun ws M R RX hl h => ?_⟩
  obtain ⟨d, xs, n, rfl, ⟨ht, hn, hx, hl1⟩, h2⟩ := h
  simp only [start0, len_c, len_n, map_c, map_n, app_c, app_n, rep_0, rep_s, Nat.reduceAdd, Nat.reduceSub]
  decreasing_trivial_pre_omega
  refine forE (fun i ρ M' => M' = M ∧ ∃ (done : List Edt) (y2 y3 : Option W), ρ = [some (.d d), some (.d (.tuple xs)), y2, y3] ∧ done.map Edt.d = xs.take i ∧ done.length = i ∧ (∀ e ∈ done, EdOk d e) ∧ fwE d [] xs = fwE d done (xs.drop i))
    ⟨rfl, [], none, none, rfl, rfl, rfl, (fun e he => by cases he), rfl⟩ (fun _ _ _ _ _ => trivial) (fun i x ρ M' N hi pv hN => ?_) (fun ρ M' pv => ?_)
  · obtain ⟨rfl, done, y2, y3, rfl, e1, e2, e3, e4⟩ := pv
    rw [List.getElem?_map] at hi
    obtain ⟨x, hx1, rfl⟩ := Option.map_eq_some_iff.mp hi
    have hi2 := (List.getElem?_eq_some_iff.mp hx1).1
    have hm := List.mem_of_getElem? hx1
    obtain ⟨tx, sx⟩ := hx x hm
    rw [List.drop_eq_getElem_cons hi2, (List.getElem?_eq_some_iff.mp hx1).2, fwE] at e4
    decreasing_trivial_pre_omega
    refine ⟨d, x, n, rfl, ⟨ht, hn, tx, sx⟩, ?_⟩
    cases c : asEdit d x with
    | none =>
      rw [c] at e4
      dsimp only at e4
      rw [e4, e2] at h2
      decreasing_trivial_pre_omega
      exact h2
    | some e =>
      rw [c] at e4
      dsimp only at e4
      obtain ⟨rfl, oe⟩ := as_edit sx c
      decreasing_trivial_pre_omega
      refine IfB.t rfl ?_
      decreasing_trivial_pre_omega
      rw [cut_to, ← e1]
      refine ⟨done, e, rfl, ⟨by omega, fun y hy => (e3 y hy).len, oe.len⟩, ?_⟩
      cases c2 : goesE done e
      · rw [c2, if_neg (by decide), e2] at e4
        rw [e4] at h2
        decreasing_trivial_pre_omega
        exact h2
      · rw [c2, if_pos rfl] at e4
        decreasing_trivial_pre_omega
        exact hN _ _ ⟨rfl, done ++ [e], _, _, rfl, by rw [List.map_append, e1, List.take_add_one, hx1]; rfl, by rw [List.length_append, e2]; rfl, fun y hy => by
          rcases List.mem_append.mp hy with hy | hy
          · exact e3 y hy
          · rw [List.mem_singleton.mp hy]; exact oe, e4⟩
  · obtain ⟨rfl, done, y2, y3, rfl, e1, e2, e3, e4⟩ := pv
    rw [List.length_map, List.drop_length, fwE] at e4
    rw [e4] at h2
    decreasing_trivial_pre_omega
    exact h2
end
theorem intN_nat (n : Nat) : intN (.int (n : Nat)) = n := by show ((n : Int)).toNat = n; omega
theorem isPath_of {q : List Nat} (h : pathOk q) : isPath (pathD q) = true := by
  unfold pathD
  rw [isPath, Bool.and_eq_true, List.length_map]
  refine ⟨decide_eq_true h.1, List.all_eq_true.mpr fun x hx => ?_⟩
  obtain ⟨i, hi, rfl⟩ := List.mem_map.mp hx
  have := h.2 i hi
  rw [isNum, Bool.and_eq_true]
  exact ⟨decide_eq_true (by omega), decide_eq_true (by omega)⟩
theorem eqv_ss (a b : Str) : PyData.eqv (.str a) (.str b) = (a == b) := by rw [PyData.eqv]
/-- an edit of the tree is one -/
theorem as_of {d : PyData} {e : Edt} (h : EdOk d e) : asEdit d e.d = some e := by
  cases e with
  | name q t =>
    obtain ⟨h1, ⟨u, hu⟩, h3⟩ := h
    show asEdit d (.tuple [.str "name", pathD q, .str t]) = _
    unfold asEdit
    dsimp only
    rw [isPath_of h1, if_pos rfl, pathOf_D, hu]
    dsimp only
    unfold edOf
    rw [eqv_ss, show (("name" : Str) == "name") = true by decide +kernel, if_pos rfl]
    dsimp only
    rw [if_pos h3]
    rfl
  | out q =>
    obtain ⟨h1, ⟨u, hu⟩, h3⟩ := h
    show asEdit d (.tuple [.str "out", pathD q]) = _
    unfold asEdit
    dsimp only
    rw [isPath_of h1, if_pos rfl, pathOf_D, hu]
    dsimp only
    unfold edOf
    rw [eqv_ss, show (("out" : Str) == "name") = false by decide +kernel, if_neg (by decide), eqv_ss, show (("out" : Str) == "out") = true by decide +kernel, if_pos rfl, if_pos ⟨rfl, h3⟩]
  | put q n es =>
    obtain ⟨h1, ⟨u, hu, hn⟩, h3, h4, h5⟩ := h
    show asEdit d (.tuple [.str "put", pathD q, .int (n : Nat), .tuple es]) = _
    unfold asEdit
    dsimp only
    rw [isPath_of h1, if_pos rfl, pathOf_D, hu]
    dsimp only
    unfold edOf
    rw [eqv_ss, show (("put" : Str) == "name") = false by decide +kernel, if_neg (by decide), eqv_ss, show (("put" : Str) == "out") = false by decide +kernel, if_neg (by decide), eqv_ss, show (("put" : Str) == "put") = true by decide +kernel, if_pos rfl]
    dsimp only
    have c1 : isNum ((kidsD u).length : Nat) (.int (n : Nat)) = true := by
      rw [isNum, Bool.and_eq_true]
      exact ⟨decide_eq_true (by omega), decide_eq_true (by omega)⟩
    have c2 : rowT (.tuple es) = true := by
      rw [rowT, Bool.and_eq_true]
      refine ⟨decide_eq_true ?_, List.all_eq_true.mpr h4⟩
      cases es with
      | nil => exact absurd rfl h3
      | cons a b => simp
    rw [c1, c2, Bool.and_self, if_pos rfl, intN_nat]
    rfl
theorem fw_none {d : PyData} : ∀ {xs : List PyData} {done : List Edt}, SideR d done → (∀ x ∈ xs, Slim x) → fwE d done xs = none → ∃ es, done.map Edt.d ++ xs = es.map Edt.d ∧ SideR d es
  | [], done, h, _, _ => ⟨done, by rw [List.append_nil], h⟩
  | x :: xs, done, h, hs, e => by
    rw [fwE] at e
    cases c : asEdit d x with
    | none => rw [c] at e; cases e
    | some y =>
      rw [c] at e
      dsimp only at e
      obtain ⟨rfl, oy⟩ := as_edit (hs x (.head _)) c
      cases c2 : goesE done y
      · rw [c2, if_neg (by decide)] at e; cases e
      · rw [c2, if_pos rfl] at e
        obtain ⟨es, h1, h2⟩ := fw_none (.snoc h oy c2) (fun z hz => hs z (.tail _ hz)) e
        exact ⟨es, by rw [← h1, List.map_append, List.append_assoc]; rfl, h2⟩
theorem fw_app {d : PyData} : ∀ {r done : List Edt} {y : Edt}, (∀ e ∈ r, EdOk d e) → fwE d done (r.map Edt.d) = none → fwE d done ((r ++ [y]).map Edt.d) = fwE d (done ++ r) [y.d]
  | [], done, y, _, _ => by rw [List.append_nil]; rfl
  | e :: r, done, y, h, hf => by
    rw [List.map_cons, fwE, as_of (h e (.head _))] at hf
    dsimp only at hf
    rw [List.cons_append, List.map_cons, fwE, as_of (h e (.head _))]
    dsimp only
    split at hf
    · rename_i c
      rw [if_pos c, fw_app (fun z hz => h z (.tail _ hz)) hf, List.append_assoc]
      rfl
    · cases hf
theorem fw_side {d : PyData} {es : List Edt} (h : SideR d es) : fwE d [] (es.map Edt.d) = none := by
  induction h with
  | nil => rfl
  | @snoc es e h ok g ih =>
    rw [fw_app h.ok ih, List.nil_append, fwE, as_of ok]
    dsimp only
    rw [if_pos g]
    rfl
theorem nnAll_60 : ∀ {xs : List PyData}, (∀ x ∈ xs, isTreeD x = true) → nnAll xs ≤ 60 * xs.length
  | [], _ => by rw [nnAll]; exact Nat.zero_le _
  | x :: xs, h => by
    have h1 := (tree_iff.mp (h x (.head _))).2
    have h2 := nnAll_60 fun z hz => h z (.tail _ hz)
    rw [nnAll, List.length_cons]
    omega
theorem SideR.mild {d : PyData} {es : List Edt} (h : SideR d es) : Mild 12 60000 es := by
  have pt : ∀ p i, ptL es p i = [] ∨ ((∀ x ∈ ptL es p i, isTreeD x = true) ∧ (ptL es p i).length ≤ 1000) := fun p i => by
    unfold ptL
    cases c : ptE es p i with
    | none => exact .inl rfl
    | some ts =>
      unfold ptE at c
      obtain ⟨e, he, h2⟩ := List.exists_of_findSome?_eq_some c
      have ok := h.ok e (List.mem_reverse.mp he)
      cases e with
      | put q m us =>
        dsimp only at h2
        split at h2
        · cases h2; exact .inr ⟨ok.2.2.2.1, ok.2.2.2.2⟩
        · cases h2
      | name q t => cases h2
      | out q => cases h2
  refine ⟨fun p t ht => ?_, fun p i x hx => ?_, fun p i => ?_⟩
  · unfold nmE at ht
    obtain ⟨e, he, h2⟩ := List.exists_of_findSome?_eq_some ht
    have ok := h.ok e (List.mem_reverse.mp he)
    cases e with
    | name q u =>
      dsimp only at h2
      split at h2
      · cases h2; exact ok.2.2
      · cases h2
    | put q m us => cases h2
    | out q => cases h2
  · rcases pt p i with h1 | h1
    · rw [h1] at hx; cases hx
    · exact (tree_iff.mp (h1.1 x hx)).1
  · rcases pt p i with h1 | h1
    · rw [h1, nnAll]; exact Nat.zero_le _
    · have := nnAll_60 h1.1; omega
/-- what is said of a side -/
def ChkT (cT cS : Addr) (d x : PyData) (R : Prop) (RX : Ex → Prop) : Prop :=
  (isTreeD d = false → RX ⟨.ref cT, []⟩) ∧ (isTreeD d = true → isTup x = false → RX ⟨.ref cS, [("at", .none)]⟩) ∧ (isTreeD d = true → ∀ xs, x = .tuple xs → ∀ i : Nat, fwE d [] xs = some i → RX ⟨.ref cS, [("at", .int (i : Nat))]⟩) ∧
  (isTreeD d = true → ∀ es, x = .tuple (es.map Edt.d) → SideR d es → nn (bhd es [] d) ≤ 200 ∧ (60 < nn (bhd es [] d) ∨ 12 < lev (bhd es [] d) → RX ⟨.ref cS, [("at", .none)]⟩) ∧ (nn (bhd es [] d) ≤ 60 → lev (bhd es [] d) ≤ 12 → R))
/-- things that may be asked about -/
def SlimS (x : PyData) : Prop := ∀ xs, x = .tuple xs → (∀ y ∈ xs, txt y = true ∧ Slim y) ∧ xs.length ≤ 100
@[reducible] def tfChkSide (cT cS : Addr) : TF := fun ws M R RX => ∃ d x, ws = [.d d, .d x] ∧ (txt d = true ∧ txt x = true ∧ SlimS x) ∧ ChkT cT cS d x (R (.d .none) M) (fun e => RX e M)
section
variable {P : Program} {w : World} {K : PySem.W.Frag} {mg : Str → Option Value} {base : Heap}
abbrev sChkS : Stmt := top 35
theorem scChkS : FnScope ["tree", "thing", "wrong", "behind"] ["tree", "thing"] (defScope sChkS) := ⟨rfl, rfl, rfl, by decide +kernel, rfl, by decide +kernel, by decide +kernel⟩
theorem ok_chkSide {f CE cT cS : Addr} {fd : FuncData} {k j : Nat} (F : Fun K "check_side" "check_side" sChkS f fd) (XNoSide : ErF K mg "NoSide" "NoSide.__init__" "at" sI_NoSide cS) (Ucheck_tree : UseX P w K mg base "check_tree" ["thing"] j (spD K 1 (tfChk isTreeD cT))) (Ufirst_wrong : Use P w K mg base "first_wrong" ["tree", "edits"] j (spD K 2 tfFirst)) (Utree_behind : UseX P w K mg base "tree_behind" ["tree", "side"] j (spD K 2 (tfTreeB CE))) (Ucount_places : Use P w K mg base "count_places" ["tree"] j (spD K 1 (tfN nn 30))) (Ucount_levels : Use P w K mg base "count_levels" ["tree"] j (spD K 1 (tfN lev 30))) (hj : j ≤ k) (hk : 2 ≤ k) (T : Bl mg) (C : Cs mg) : FnOk P w K mg base (L2.CX P w) (k + 1) f fd ["tree", "thing"] (spD K 2 (tfChkSide cT cS)) := by
  obtain ⟨fiNoSide, fdNoSide, iNoSide, tNoSide, FNoSide⟩ := XNoSide.i
  have okNoSide := okI_NoSide (P := P) (w := w) (mg := mg) (base := base) (k := 0) FNoSide XNoSide.o XNoSide.n
  have bNoSide := FNoSide.binds (ps := ["self", "at"]) fun _ _ _ _ _ _ us hl => match us, hl with | [_, _], _ => rfl
  refine okDX F scChkS rfl fun cdv A outer s H E hr => ?_
  refine ⟨_, fun RE => _, (pss_cons (ps_expr (pe_callS Ucheck_tree.ok (hr.mono (by omega)) rfl Ucheck_tree.m Ucheck_tree.kp Ucheck_tree.b (fun σ => passAt (takes_of (E := E) rfl rfl rfl rfl) σ) (pa_cons (pv 0) pa_nil)))
    (pss_cons (ps_if (pt_not (pt_val (pe_callB (r := rIsi K) call_isi (by rfl) T.isi PyProof.Rows.boot_isinstance (pa_cons (pv 1) (pa_cons (b_tuple T) pa_nil))))) (pss_one (ps_raise rfl (takes_of (E := E) rfl rfl rfl rfl) (pmk_oex XNoSide.o iNoSide tNoSide okNoSide (hr.mono (by omega)) bNoSide .nil pass0 (by exact rfl) XNoSide.g (pa_cons pe_non pa_nil)))) pss_nil)
    (pss_cons (ps_set (i := 2) scChkS.nd rfl (.inl rfl) (PE.nox (pe_call Ufirst_wrong.ok (hr.mono (by omega)) rfl Ufirst_wrong.m Ufirst_wrong.kp Ufirst_wrong.b .nil pass0 (pa_cons (pv 0) (pa_cons (pv 1) pa_nil)))))
    (pss_cons (ps_if (pt_cmpR op_notN (pv 2) pe_non (nomark _)) (pss_one (ps_raise rfl (takes_of (E := E) rfl rfl rfl rfl) (pmk_oex XNoSide.o iNoSide tNoSide okNoSide (hr.mono (by omega)) bNoSide .nil pass0 (by exact rfl) XNoSide.g (pa_cons (pv 2) pa_nil)))) pss_nil)
    (pss_cons (ps_set (i := 3) scChkS.nd rfl (.inl rfl) (pe_callS Utree_behind.ok (hr.mono (by omega)) rfl Utree_behind.m Utree_behind.kp Utree_behind.b (fun σ => passAt (takes_of (E := E) rfl rfl rfl rfl) σ) (pa_cons (pv 0) (pa_cons (pv 1) pa_nil))))
    (pss_one (ps_if (PW.pt (pw_or (pt_cmpR op_gt (PE.nox (pe_call Ucount_places.ok (hr.mono (by omega)) rfl Ucount_places.m Ucount_places.kp Ucount_places.b .nil pass0 (pa_cons (pv 3) pa_nil))) (c_SIZE C) (nomark _)) (pw_or1 (pt_cmpR op_gt (PE.nox (pe_call Ucount_levels.ok (hr.mono (by omega)) rfl Ucount_levels.m Ucount_levels.kp Ucount_levels.b .nil pass0 (pa_cons (pv 3) pa_nil))) (c_DEPTH C) (nomark _))))) (pss_one (ps_raise rfl (takes_of (E := E) rfl rfl rfl rfl) (pmk_oex XNoSide.o iNoSide tNoSide okNoSide (hr.mono (by omega)) bNoSide .nil pass0 (by exact rfl) XNoSide.g (pa_cons pe_non pa_nil)))) pss_nil))))))), fun RE => (ss_cons (ss_drop (se_callX (sa_cons se_nm sa_nil)))
    (ss_cons (ss_if (st_not (st_val (se_cb sc_isi (sa_cons se_nm (sa_cons se_o sa_nil))))) (ss_raiseF (sa_cons se_non sa_nil)) ss_nil)
    (ss_cons (ss_set (se_call (sa_cons se_nm (sa_cons se_nm sa_nil))))
    (ss_cons (ss_if (st_test (se_op so_notN se_nm se_non)) (ss_raiseF (sa_cons se_nm sa_nil)) ss_nil)
    (ss_cons (ss_set (se_callX (sa_cons se_nm (sa_cons se_nm sa_nil))))
    (ss_if (st_or (st_test (se_op so_gt (se_call (sa_cons se_nm sa_nil)) se_int)) (st_test (se_op so_gt (se_call (sa_cons se_nm sa_nil)) se_int))) (ss_raiseF (sa_cons se_non sa_nil)) ss_nil)))))), fun ws M R RX hl h => ?_⟩
  obtain ⟨d, x, rfl, ⟨tx, ty, sl⟩, q1, q2, q3, q4⟩ := h
  simp only [start0, len_c, len_n, map_c, map_n, app_c, app_n, rep_0, rep_s, Nat.reduceAdd, Nat.reduceSub]
  decreasing_trivial_pre_omega
  refine ⟨fun ct => ?_, fun ct => q1 ct⟩
  obtain ⟨td, nd⟩ := tree_iff.mp ct
  cases x with
  | tuple xs =>
    obtain ⟨hs, hl1⟩ := sl xs rfl
    decreasing_trivial_pre_omega
    refine ⟨d, xs, 12, rfl, ⟨td, by omega, hs, hl1⟩, ?_⟩
    cases c : fwE d [] xs with
    | some i =>
      have q5 := q3 ct xs rfl i c
      decreasing_trivial_pre_omega
      exact q5
    | none =>
      obtain ⟨es, e1, sr⟩ := fw_none .nil (fun y hy => (hs y hy).2) c
      obtain rfl : xs = es.map Edt.d := e1
      obtain ⟨n1, q5, q6⟩ := q4 ct es rfl sr
      rw [List.length_map] at hl1
      have tb := bhd_tr sr.mild [] td
      decreasing_trivial_pre_omega
      refine ⟨d, 12, es, rfl, ⟨td, by decide, by omega, hl1, by omega⟩, ?_⟩
      have t30 : TrT 30 (bhd es [] d) := tb.mono (by omega)
      decreasing_trivial_pre_omega
      refine IfB.d (fun c1 => ?_) (fun c1 => ?_)
      · have q7 := q5 (.inl (by omega))
        decreasing_trivial_pre_omega
        exact q7
      decreasing_trivial_pre_omega
      refine IfB.d (fun c2 => ?_) (fun c2 => ?_)
      · have q7 := q5 (.inr (by omega))
        decreasing_trivial_pre_omega
        exact q7
      decreasing_trivial_pre_omega
      exact q6 (by omega) (by omega)
  | _ =>
    have q5 := q2 ct rfl
    decreasing_trivial_pre_omega
    exact q5
/-- a side, done -/
def OkSide (d : PyData) (es : List Edt) : Prop := isTreeD d = true ∧ SideR d es ∧ es.length ≤ 100 ∧ nn (bhd es [] d) ≤ 60 ∧ lev (bhd es [] d) ≤ 12
theorem edt_txt {d : PyData} {e : Edt} (h : EdOk d e) : txt e.d = true ∧ Slim e.d := by
  have hz : ∀ z : Str, z.length ≤ 1000 → PyData.strOk z = true → txt (.str z) = true := fun z h1 h2 => by rw [txt, h2, decide_eq_true h1]; rfl
  have tn : txt (.str "name") = true := by decide +kernel
  have to : txt (.str "out") = true := by decide +kernel
  have tp : txt (.str "put") = true := by decide +kernel
  have en : eqOk (.str "name") = true := by decide +kernel
  have eo : eqOk (.str "out") = true := by decide +kernel
  have ep : eqOk (.str "put") = true := by decide +kernel
  have tpath : ∀ q : List Nat, txt (pathD q) = true := fun q => by
    unfold pathD
    rw [txt]
    induction q with
    | nil => rfl
    | cons i q ih => rw [List.map_cons, txtAll, ih]; rfl
  cases e with
  | name q t =>
    refine ⟨?_, fun w r he => ?_, fun w p n es he => ?_⟩
    · show txt (.tuple [.str "name", pathD q, .str t]) = true
      rw [txt, txtAll, txtAll, txtAll, tn, tpath q, hz t (by have := tag_str h.2.2; omega) (tag_str h.2.2).2.2]
      rfl
    · cases he; exact en
    · cases he
  | out q =>
    refine ⟨?_, fun w r he => ?_, fun w p n es he => ?_⟩
    · show txt (.tuple [.str "out", pathD q]) = true
      rw [txt, txtAll, txtAll, to, tpath q]
      rfl
    · cases he; exact eo
    · cases he
  | put q n ts =>
    refine ⟨?_, fun w r he => ?_, fun w p n es he => ?_⟩
    · show txt (.tuple [.str "put", pathD q, .int (n : Nat), .tuple ts]) = true
      have ht : txtAll ts = true := by
        have := h.2.2.2.1
        clear h
        induction ts with
        | nil => rfl
        | cons x ts ih =>
          obtain ⟨a, b⟩ := tree_iff.mp (this x (.head _))
          rw [txtAll, (tree_eq a b).2.2.1, ih fun z hz => this z (.tail _ hz)]
          rfl
      rw [txt, txtAll, txtAll, txtAll, txtAll, tp, tpath q, show txt (.int (n : Nat)) = true from rfl, show txt (.tuple ts) = true by rw [txt]; exact ht]
      rfl
    · cases he; exact ep
    · cases he; exact h.2.2.2.2
theorem side_slim {d : PyData} {es : List Edt} (h : SideR d es) (hl : es.length ≤ 100) : txt (.tuple (es.map Edt.d)) = true ∧ SlimS (.tuple (es.map Edt.d)) := by
  have key : ∀ y ∈ es.map Edt.d, txt y = true ∧ Slim y := fun y hy => by
    obtain ⟨e, he, rfl⟩ := List.mem_map.mp hy
    exact edt_txt (h.ok e he)
  refine ⟨?_, fun xs e => ?_⟩
  · rw [txt]
    generalize es.map Edt.d = l at key
    induction l with
    | nil => rfl
    | cons y l ih => rw [txtAll, (key y (.head _)).1, ih fun z hz => key z (.tail _ hz)]; rfl
  · cases e
    exact ⟨key, by rw [List.length_map]; exact hl⟩
/-- the same edits: the same data -/
theorem edt_inj : ∀ {a b : List Edt}, a.map Edt.d = b.map Edt.d → a = b
  | [], [], _ => rfl
  | [], _ :: _, h => by cases h
  | _ :: _, [], h => by cases h
  | x :: a, y :: b, h => by
    rw [List.map_cons, List.map_cons, List.cons.injEq] at h
    obtain ⟨h1, h2⟩ := h
    rw [edt_inj h2]
    congr 1
    cases x <;> cases y <;> simp only [Edt.d, PyData.tuple.injEq, List.cons.injEq, PyData.str.injEq, PyData.int.injEq, and_true, reduceCtorEq, and_false, false_and, List.nil_eq, List.cons_ne_nil] at h1 <;> first
      | (obtain ⟨a1, a2, a3⟩ := h1; rw [pathD_inj' a2, a3])
      | (obtain ⟨a1, a2⟩ := h1; rw [pathD_inj' a2])
      | (obtain ⟨a1, a2, a3, a4⟩ := h1; have a5 := Int.ofNat.inj a3; rw [pathD_inj' a2, a5, a4])
      | skip
theorem chk_ok {d : PyData} {es : List Edt} (h : OkSide d es) {cT cS : Addr} {R : Prop} {RX : Ex → Prop} (r : R) : ChkT cT cS d (.tuple (es.map Edt.d)) R RX := by
  obtain ⟨h1, h2, h3, h4, h5⟩ := h
  refine ⟨fun c => ?_, fun _ c => ?_, fun _ xs e i c => ?_, fun _ es2 e sr => ?_⟩
  · rw [h1] at c; cases c
  · cases c
  · cases e
    rw [fw_side h2] at c
    cases c
  · injection e with e
    obtain rfl := edt_inj e
    exact ⟨by omega, fun c => by omega, fun _ _ => r⟩
@[reducible] def tfLed (cT cS : Addr) : TF := fun ws M R RX => ∃ d x, ws = [.d d, .d x] ∧ (txt d = true ∧ txt x = true ∧ SlimS x) ∧ ChkT cT cS d x (∃ es, x = .tuple (es.map Edt.d) ∧ SideR d es ∧ R (.d (bhd es [] d)) M) (fun e => RX e M)
@[reducible] def tfPlace (cN cP : Addr) : TF := fun ws M R RX => ∃ (d x : PyData) (es : List Edt), ws = [.d d, .d (.tuple (es.map Edt.d)), .d x] ∧ (OkSide d es ∧ txt x = true) ∧ (isPath x = false → RX ⟨.ref cN, []⟩ M) ∧ (∀ q, x = pathD q → pathOk q → sub d q = none → RX ⟨.ref cP, [("path", pathD q)]⟩ M) ∧ (∀ q e, x = pathD q → pathOk q → sub d q = some e → R (.d (optPath (phE es [] q))) M)
abbrev sLed : Stmt := top 36
theorem scLed : FnScope ["tree", "side"] ["tree", "side"] (defScope sLed) := ⟨rfl, rfl, rfl, by decide +kernel, rfl, by decide +kernel, by decide +kernel⟩
theorem ok_led {f CE cT cS : Addr} {fd : FuncData} {k j : Nat} (F : Fun K "led_by_side" "led_by_side" sLed f fd) (Ucheck_side : UseX P w K mg base "check_side" ["tree", "thing"] j (spD K 2 (tfChkSide cT cS))) (Utree_behind : UseX P w K mg base "tree_behind" ["tree", "side"] j (spD K 2 (tfTreeB CE))) (hj : j ≤ k) (T : Bl mg) : FnOk P w K mg base (L2.CX P w) (k + 1) f fd ["tree", "side"] (spD K 2 (tfLed cT cS)) := by
  refine okDX F scLed rfl fun cdv A outer s H E hr => ?_
  refine ⟨_, fun RE => _, (pss_cons (ps_expr (pe_callS Ucheck_side.ok (hr.mono (by omega)) rfl Ucheck_side.m Ucheck_side.kp Ucheck_side.b (fun σ => passAt (takes_of (E := E) rfl rfl rfl rfl) σ) (pa_cons (pv 0) (pa_cons (pv 1) pa_nil))))
    (pss_one (ps_ret (pe_callS Utree_behind.ok (hr.mono (by omega)) rfl Utree_behind.m Utree_behind.kp Utree_behind.b (fun σ => passAt (takes_of (E := E) rfl rfl rfl rfl) σ) (pa_cons (pv 0) (pa_cons (pv 1) pa_nil)))))), fun RE => (ss_cons (ss_drop (se_callX (sa_cons se_nm (sa_cons se_nm sa_nil))))
    (ss_ret (se_callX (sa_cons se_nm (sa_cons se_nm sa_nil))))), fun ws M R RX hl h => ?_⟩
  obtain ⟨d, x, rfl, ⟨tx, ty, sl⟩, q1, q2, q3, q4⟩ := h
  simp only [start0, len_c, len_n, map_c, map_n, app_c, app_n, rep_0, rep_s, Nat.reduceAdd, Nat.reduceSub]
  decreasing_trivial_pre_omega
  refine ⟨d, x, rfl, ⟨tx, ty, sl⟩, q1, q2, q3, fun ct es ex sr => ?_⟩
  obtain ⟨n1, n2, n3⟩ := q4 ct es ex sr
  refine ⟨n1, n2, fun c1 c2 => ?_⟩
  obtain ⟨es2, e2, sr2, h2⟩ := n3 c1 c2
  rw [ex] at e2
  injection e2 with e2
  obtain rfl := edt_inj e2
  have hl1 := (sl _ ex).2
  rw [List.length_map] at hl1
  rw [ex]
  obtain ⟨td, nd⟩ := tree_iff.mp ct
  decreasing_trivial_pre_omega
  refine ⟨d, 12, es, rfl, ⟨td, by decide, by omega, hl1, by omega⟩, ?_⟩
  decreasing_trivial_pre_omega
  exact h2
abbrev sPlaceL : Stmt := top 39
theorem scPlaceL : FnScope ["tree", "side", "path"] ["tree", "side", "path"] (defScope sPlaceL) := ⟨rfl, rfl, rfl, by decide +kernel, rfl, by decide +kernel, by decide +kernel⟩
theorem ok_placeLed {f CE cT cS cN cP : Addr} {fd : FuncData} {k j : Nat} (F : Fun K "place_led" "place_led" sPlaceL f fd) (Ucheck_side : UseX P w K mg base "check_side" ["tree", "thing"] j (spD K 2 (tfChkSide cT cS))) (Ucheck_place : UseX P w K mg base "check_place" ["tree", "thing"] j (spD K 2 (tfChkPl cN cP))) (UEdits : UseC P w K mg base CE "Edits" ["self", "side"] j (spD K 2 (tfEdIn CE))) (Upath_behind : Use P w K mg base "path_behind" ["path", "edits"] j (spD K 2 (tfPathB CE))) (hj : j + 1 ≤ k) (T : Bl mg) : FnOk P w K mg base (L2.CX P w) (k + 1) f fd ["tree", "side", "path"] (spD K 3 (tfPlace cN cP)) := by
  refine okDXLL F scPlaceL rfl fun cdv A outer s H E hr => ?_
  refine ⟨_, fun RE => _, (pss_cons (ps_expr (pe_callS Ucheck_side.ok (hr.mono (by omega)) rfl Ucheck_side.m Ucheck_side.kp Ucheck_side.b (fun σ => passAt (takes_of (E := E) rfl rfl rfl rfl) σ) (pa_cons (pv 0) (pa_cons (pv 1) pa_nil))))
    (pss_cons (ps_expr (pe_callS Ucheck_place.ok (hr.mono (by omega)) rfl Ucheck_place.m Ucheck_place.kp Ucheck_place.b (fun σ => passAt (takes_of (E := E) rfl rfl rfl rfl) σ) (pa_cons (pv 0) (pa_cons (pv 2) pa_nil))))
    (pss_one (ps_ret (pe_call (E := fun _ _ _ => False) Upath_behind.ok (hr.mono (by omega)) rfl Upath_behind.m Upath_behind.kp Upath_behind.b .nil pass0 (pa_cons (pv 2) (pa_cons (pe_makeE UEdits.made UEdits.ok (hr.mono (by omega)) (by rfl) UEdits.m UEdits.b (fun σ => passAt (takes_of (E := E) rfl rfl rfl rfl) σ) (pa_cons (pv 1) pa_nil)) pa_nil))))))), fun RE => (ss_cons (ss_drop (se_callX (sa_cons se_nm (sa_cons se_nm sa_nil))))
    (ss_cons (ss_drop (se_callX (sa_cons se_nm (sa_cons se_nm sa_nil))))
    (ss_ret (se_call (sa_cons se_nm (sa_cons (se_makeX (sa_cons se_nm sa_nil)) sa_nil)))))), fun ws M R RX hl h => ?_⟩
  obtain ⟨d, x, es, rfl, ⟨ok, tx⟩, q1, q2, q3⟩ := h
  obtain ⟨td, nd⟩ := tree_iff.mp ok.1
  have ss := side_slim ok.2.1 ok.2.2.1
  simp only [start0, len_c, len_n, map_c, map_n, app_c, app_n, rep_0, rep_s, Nat.reduceAdd, Nat.reduceSub]
  decreasing_trivial_pre_omega
  refine ⟨d, _, rfl, ⟨(tree_eq td nd).2.2.1, ss.1, ss.2⟩, chk_ok ok ?_⟩
  decreasing_trivial_pre_omega
  refine ⟨d, x, 12, rfl, ⟨td, tx⟩, fun c => ?_, fun q e hq hs => ?_, fun q e ex hq hs => ?_⟩
  · exact ⟨M, fun _ _ h => h, q1 c⟩
  · exact ⟨M, fun _ _ h => h, q2 q e hq hs⟩
  · have q4 := q3 q e ex hq hs
    subst ex
    decreasing_trivial_pre_omega
    intro a dx ha
    refine ⟨a, dx, es, rfl, ⟨mset_same, ok.2.2.1⟩, fun M' hE kp => ⟨rfl, ?_⟩⟩
    decreasing_trivial_pre_omega
    refine ⟨q, a, es, rfl, ⟨hE, by have := hq.1; omega, fun i hi => by have := hq.2 i hi; omega⟩, ?_⟩
    refine ⟨M, fun x o h => ?_, q4⟩
    have nx : x ≠ a := fun z => by rw [z, ha] at h; cases h
    rw [kp x nx (by rw [mset_ne nx, h]; exact fun z => nomatch z), mset_ne nx]
    exact h
end
end Tl
set_option Elab.async false
set_option linter.all false
set_option maxRecDepth 100000
set_option maxHeartbeats 4000000
/-! Trees that bear labels, as lists that may change. -/
namespace Tl
open PySem L2
mutual
/-- such a tree in memory; P tells of the addresses of what bears a label -/
def LT.at (P : List Nat → Addr → Prop) (M : Mem) : LT → W → Prop
  | .node l t ks, w => ∃ (a b : Addr) (ws : List W), w = .r a ∧ (∀ p, l = some p → P p a) ∧ M a = some (.lst [.d (labD l), .d (.str t), .r b]) ∧ M b = some (.lst ws) ∧ LT.ats P M ks ws
def LT.ats (P : List Nat → Addr → Prop) (M : Mem) : List LT → List W → Prop
  | [], ws => ws = []
  | k :: ks, ws => ∃ w r, ws = w :: r ∧ k.at P M w ∧ LT.ats P M ks r
end
variable {P Q : List Nat → Addr → Prop} {M M' : Mem}
theorem ats_nil : LT.ats P M [] [] := by rw [LT.ats]
theorem ats_app : ∀ {a b : List LT} {us vs : List W}, LT.ats P M a us → LT.ats P M b vs → LT.ats P M (a ++ b) (us ++ vs)
  | [], b, us, vs, h1, h2 => by rw [LT.ats] at h1; subst h1; exact h2
  | k :: a, b, us, vs, h1, h2 => by
    rw [LT.ats] at h1
    obtain ⟨w, r, rfl, h3, h4⟩ := h1
    rw [List.cons_append, LT.ats]
    exact ⟨w, r ++ vs, rfl, h3, ats_app h4 h2⟩
theorem ats_split : ∀ {a b : List LT} {ws : List W}, LT.ats P M (a ++ b) ws → ∃ us vs, ws = us ++ vs ∧ LT.ats P M a us ∧ LT.ats P M b vs
  | [], b, ws, h => ⟨[], ws, rfl, ats_nil, h⟩
  | k :: a, b, ws, h => by
    rw [List.cons_append, LT.ats] at h
    obtain ⟨w, r, rfl, h3, h4⟩ := h
    obtain ⟨us, vs, rfl, h5, h6⟩ := ats_split h4
    exact ⟨w :: us, vs, rfl, by rw [LT.ats]; exact ⟨w, us, rfl, h3, h5⟩, h6⟩
theorem ats_one {k : LT} {w : W} (h : k.at P M w) : LT.ats P M [k] [w] := by
  rw [LT.ats]
  exact ⟨w, [], rfl, h, ats_nil⟩
theorem ats_len : ∀ {ks : List LT} {ws : List W}, LT.ats P M ks ws → ws.length = ks.length
  | [], ws, h => by rw [LT.ats] at h; subst h; rfl
  | k :: ks, ws, h => by
    rw [LT.ats] at h
    obtain ⟨w, r, rfl, _, h4⟩ := h
    rw [List.length_cons, List.length_cons, ats_len h4]
/-- all of a row are lists -/
theorem ats_refs : ∀ {ks : List LT} {ws : List W}, LT.ats P M ks ws → ∀ w ∈ ws, ∃ a, w = .r a
  | [], ws, h, w, hw => by rw [LT.ats] at h; subst h; cases hw
  | k :: ks, ws, h, w, hw => by
    rw [LT.ats] at h
    obtain ⟨w1, r, rfl, h3, h4⟩ := h
    rcases List.mem_cons.mp hw with rfl | hw
    · cases k
      rw [LT.at] at h3
      obtain ⟨a, b, us, e, _⟩ := h3
      exact ⟨a, e⟩
    · exact ats_refs h4 w hw
mutual
theorem at_mono (k : ∀ b o, M b = some o → M' b = some o) : ∀ {T : LT} {w : W}, T.at P M w → T.at P M' w
  | .node l t ks, w, h => by
    rw [LT.at] at h ⊢
    obtain ⟨a, b, ws, e, h1, h2, h3, h4⟩ := h
    exact ⟨a, b, ws, e, h1, k _ _ h2, k _ _ h3, ats_mono k h4⟩
theorem ats_mono (k : ∀ b o, M b = some o → M' b = some o) : ∀ {ks : List LT} {ws : List W}, LT.ats P M ks ws → LT.ats P M' ks ws
  | [], ws, h => by rw [LT.ats] at h ⊢; exact h
  | t :: ks, ws, h => by
    rw [LT.ats] at h ⊢
    obtain ⟨w, r, e, h1, h2⟩ := h
    exact ⟨w, r, e, at_mono k h1, ats_mono k h2⟩
end
mutual
theorem at_weak (k : ∀ p a, P p a → Q p a) : ∀ {T : LT} {w : W}, T.at P M w → T.at Q M w
  | .node l t ks, w, h => by
    rw [LT.at] at h ⊢
    obtain ⟨a, b, ws, e, h1, h2, h3, h4⟩ := h
    exact ⟨a, b, ws, e, fun p hp => k p a (h1 p hp), h2, h3, ats_weak k h4⟩
theorem ats_weak (k : ∀ p a, P p a → Q p a) : ∀ {ks : List LT} {ws : List W}, LT.ats P M ks ws → LT.ats Q M ks ws
  | [], ws, h => by rw [LT.ats] at h ⊢; exact h
  | t :: ks, ws, h => by
    rw [LT.ats] at h ⊢
    obtain ⟨w, r, e, h1, h2⟩ := h
    exact ⟨w, r, e, at_weak k h1, ats_weak k h2⟩
end
mutual
/-- no place bears that label -/
def LT.noL (p : List Nat) : LT → Prop
  | .node l _ ks => l ≠ some p ∧ LT.noLs p ks
def LT.noLs (p : List Nat) : List LT → Prop
  | [] => True
  | k :: ks => k.noL p ∧ LT.noLs p ks
end
theorem labD_inj {l : Option (List Nat)} {p : List Nat} (h : labD l = pathD p) : l = some p := by
  cases l with
  | none => cases h
  | some q => rw [pathD_inj' h]
mutual
/-- what bears another label stays when one's list is changed -/
theorem at_far {a0 : Addr} {p : List Nat} {x y : W} (h0 : M a0 = some (.lst [.d (pathD p), x, y])) (k : ∀ b o, b ≠ a0 → M b = some o → M' b = some o) : ∀ {T : LT} {w : W}, T.noL p → T.at P M w → T.at P M' w
  | .node l t ks, w, n, h => by
    rw [LT.noL] at n
    rw [LT.at] at h ⊢
    obtain ⟨a, b, ws, e, h1, h2, h3, h4⟩ := h
    refine ⟨a, b, ws, e, h1, k _ _ (fun z => ?_) h2, k _ _ (fun z => ?_) h3, ats_far h0 k n.2 h4⟩
    · rw [z, h0] at h2
      simp only [Option.some.injEq, MO.lst.injEq, List.cons.injEq, W.d.injEq] at h2
      exact n.1 (labD_inj h2.1.symm)
    · rw [z, h0] at h3
      simp only [Option.some.injEq, MO.lst.injEq] at h3
      obtain ⟨c, hc⟩ := ats_refs h4 (.d (pathD p)) (by rw [← h3]; exact .head _)
      cases hc
theorem ats_far {a0 : Addr} {p : List Nat} {x y : W} (h0 : M a0 = some (.lst [.d (pathD p), x, y])) (k : ∀ b o, b ≠ a0 → M b = some o → M' b = some o) : ∀ {ks : List LT} {ws : List W}, LT.noLs p ks → LT.ats P M ks ws → LT.ats P M' ks ws
  | [], ws, _, h => by rw [LT.ats] at h ⊢; exact h
  | t :: ks, ws, n, h => by
    rw [LT.noLs] at n
    rw [LT.ats] at h ⊢
    obtain ⟨w, r, e, h1, h2⟩ := h
    exact ⟨w, r, e, at_far h0 k n.1 h1, ats_far h0 k n.2 h2⟩
end
mutual
theorem noL_bare (p : List Nat) : ∀ {n : Nat} {d : PyData}, TrT n d → (bare d).noL p
  | 0, _, h => h.elim
  | n + 1, d, h => by
    obtain ⟨s, ks, rfl, _, hk⟩ := h
    rw [bare, LT.noL]
    exact ⟨fun z => (by cases z), noLs_bare p hk⟩
theorem noLs_bare (p : List Nat) : ∀ {n : Nat} {ks : List PyData}, (∀ k ∈ ks, TrT n k) → LT.noLs p (bares ks)
  | _, [], _ => by rw [bares, LT.noLs]; trivial
  | n, k :: ks, h => by
    rw [bares, LT.noLs]
    exact ⟨noL_bare p (h k (.head _)), noLs_bare p fun z hz => h z (.tail _ hz)⟩
end
theorem noLs_app {p : List Nat} : ∀ {a b : List LT}, LT.noLs p a → LT.noLs p b → LT.noLs p (a ++ b)
  | [], b, _, h => h
  | k :: a, b, h1, h2 => by
    rw [LT.noLs] at h1
    rw [List.cons_append, LT.noLs]
    exact ⟨h1.1, noLs_app h1.2 h2⟩
mutual
theorem noL_labd {m : Nat} {es : List Edt} (hp : PtOk m es) {p : List Nat} : ∀ {n : Nat} {d : PyData} (q : List Nat), TrT n d → ¬ q <+: p → (labd es q d).noL p
  | 0, _, _, h, _ => h.elim
  | n + 1, d, q, h, hn => by
    obtain ⟨s, ks, rfl, _, hk⟩ := h
    rw [labd, LT.noL]
    exact ⟨fun z => hn (by cases z; exact List.prefix_rfl), noLs_labd hp q 0 hk fun i _ z => hn ((List.prefix_append q [i]).trans z)⟩
theorem noLs_labd {m : Nat} {es : List Edt} (hp : PtOk m es) {p : List Nat} : ∀ {n : Nat} {ks : List PyData} (q : List Nat) (j : Nat), (∀ k ∈ ks, TrT n k) → (∀ i, j ≤ i → ¬ (q ++ [i]) <+: p) → LT.noLs p (labdR es q j ks)
  | _, [], q, j, _, _ => by rw [labdR]; exact noLs_bare p (hp q j)
  | n, k :: ks, q, j, h, hn => by
    rw [labdR]
    refine noLs_app (noLs_bare p (hp q j)) ?_
    rw [LT.noLs]
    exact ⟨noL_labd hp _ (h k (.head _)) (hn j (Nat.le_refl _)), noLs_labd hp q (j + 1) (fun z hz => h z (.tail _ hz)) fun i hi => hn i (by omega)⟩
end
/-- of another place all is the same -/
def SameBut (es es2 : List Edt) (p : List Nat) : Prop := ∀ q, q ≠ p → nmE es2 q = nmE es q ∧ ∀ i, ptE es2 q i = ptE es q i
mutual
theorem labd_congr {es es2 : List Edt} {p : List Nat} (h : SameBut es es2 p) : ∀ {n : Nat} {d : PyData} (q : List Nat), TrT n d → ¬ q <+: p → labd es2 q d = labd es q d
  | 0, _, _, t, _ => t.elim
  | n + 1, d, q, t, hn => by
    obtain ⟨s, ks, rfl, _, hk⟩ := t
    have hq : q ≠ p := fun z => hn (by rw [z]; exact List.prefix_rfl)
    rw [labd, labd, (h q hq).1, labdR_congr h q 0 hq hk fun i _ z => hn ((List.prefix_append q [i]).trans z)]
theorem labdR_congr {es es2 : List Edt} {p : List Nat} (h : SameBut es es2 p) : ∀ {n : Nat} {ks : List PyData} (q : List Nat) (j : Nat), q ≠ p → (∀ k ∈ ks, TrT n k) → (∀ i, j ≤ i → ¬ (q ++ [i]) <+: p) → labdR es2 q j ks = labdR es q j ks
  | _, [], q, j, hq, _, _ => by rw [labdR, labdR, ptL, ptL, (h q hq).2 j]
  | n, k :: ks, q, j, hq, t, hn => by rw [labdR, labdR, ptL, ptL, (h q hq).2 j, labd_congr h _ (t k (.head _)) (hn j (Nat.le_refl _)), labdR_congr h q (j + 1) hq (fun z hz => t z (.tail _ hz)) fun i hi => hn i (by omega)]
end
/-- the node at a place -/
def NodeAt (A : List Nat → Addr) (es : List Edt) (M : Mem) (q : List Nat) (s : Str) (ks : List PyData) (b : Addr) (ws : List W) : Prop :=
  M (A q) = some (.lst [.d (pathD q), .d (.str ((nmE es q).getD s)), .r b]) ∧ M b = some (.lst ws) ∧ LT.ats (fun p a => a = A p) M (labdR es q 0 ks) ws
theorem labd_root {A : List Nat → Addr} {es : List Edt} {q : List Nat} {s : Str} {ks : List PyData} {w : W} : (labd es q (.tuple [.str s, .tuple ks])).at (fun p a => a = A p) M w ↔ w = .r (A q) ∧ ∃ b ws, NodeAt A es M q s ks b ws := by
  rw [labd, LT.at]
  constructor
  · rintro ⟨a, b, ws, e, h1, h2, h3, h4⟩
    obtain rfl := h1 q rfl
    exact ⟨e, b, ws, h2, h3, h4⟩
  · rintro ⟨e, b, ws, h2, h3, h4⟩
    exact ⟨A q, b, ws, e, fun p hp => by cases hp; rfl, h2, h3, h4⟩
/-- the row's place with that number -/
theorem row_kid {A : List Nat → Addr} {es : List Edt} {q : List Nat} : ∀ {ks : List PyData} {j i : Nat} {k : PyData} {ws : List W}, ks[i]? = some k → LT.ats (fun p a => a = A p) M (labdR es q j ks) ws → ∃ w, w ∈ ws ∧ (labd es (q ++ [j + i]) k).at (fun p a => a = A p) M w
  | [], j, i, k, ws, h, _ => by simp at h
  | k0 :: ks, j, i, k, ws, h, ha => by
    rw [labdR] at ha
    obtain ⟨us, vs, rfl, h1, h2⟩ := ats_split ha
    rw [LT.ats] at h2
    obtain ⟨w, r, rfl, h3, h4⟩ := h2
    cases i with
    | zero => cases h; exact ⟨w, List.mem_append_right _ (.head _), h3⟩
    | succ i =>
      obtain ⟨w2, m2, h5⟩ := row_kid (j := j + 1) (i := i) (by simpa using h) h4
      exact ⟨w2, List.mem_append_right _ (.tail _ m2), by rw [show j + (i + 1) = j + 1 + i by omega]; exact h5⟩
theorem node_of {A : List Nat → Addr} {es : List Edt} : ∀ {r : List Nat} {n : Nat} {d : PyData} {q : List Nat} {w : W} {s : Str} {ks : List PyData}, TrT n d → sub d r = some (.tuple [.str s, .tuple ks]) → (labd es q d).at (fun p a => a = A p) M w → ∃ b ws, NodeAt A es M (q ++ r) s ks b ws
  | [], n, d, q, w, s, ks, ht, h, ha => by
    rw [sub_nil] at h
    cases h
    rw [List.append_nil]
    exact (labd_root.mp ha).2
  | i :: r, 0, d, q, w, s, ks, ht, h, ha => ht.elim
  | i :: r, n + 1, d, q, w, s, ks, ht, h, ha => by
    obtain ⟨s0, ks0, rfl, _, hk⟩ := ht
    rw [sub_node] at h
    cases c : ks0[i]? with
    | none => rw [c] at h; cases h
    | some k =>
      rw [c] at h
      obtain ⟨_, b, ws, h1, h2, h3⟩ := labd_root.mp ha
      obtain ⟨w2, _, h4⟩ := row_kid c h3
      rw [Nat.zero_add] at h4
      have := node_of (r := r) (hk k (List.mem_of_getElem? c)) h h4
      rwa [List.append_assoc] at this
/-- a node is changed; the whole is as the edits say -/
theorem upd_node {A : List Nat → Addr} {es es2 : List Edt} {m : Nat} (hp : PtOk m es) {p : List Nat} (sb : SameBut es es2 p) {x y : W} (h0 : M (A p) = some (.lst [.d (pathD p), x, y])) (kk : ∀ b o, b ≠ A p → M b = some o → M' b = some o) {s : Str} {ks : List PyData} {b2 : Addr} {ws2 : List W} (new : NodeAt A es2 M' p s ks b2 ws2) :
    ∀ {r : List Nat} {n : Nat} {d : PyData} {q : List Nat} {w : W}, p = q ++ r → TrT n d → sub d r = some (.tuple [.str s, .tuple ks]) → (labd es q d).at (fun p a => a = A p) M w → (labd es2 q d).at (fun p a => a = A p) M' w
  | [], n, d, q, w, e, ht, h, ha => by
    rw [sub_nil] at h
    cases h
    rw [List.append_nil] at e
    subst e
    exact labd_root.mpr ⟨(labd_root.mp ha).1, b2, ws2, new⟩
  | i :: r, 0, d, q, w, e, ht, h, ha => ht.elim
  | i :: r, n + 1, d, q, w, e, ht, h, ha => by
    obtain ⟨s0, ks0, rfl, _, hk⟩ := ht
    rw [sub_node] at h
    cases c : ks0[i]? with
    | none => rw [c] at h; cases h
    | some k =>
      rw [c] at h
      obtain ⟨e1, b, ws, h1, h2, h3⟩ := labd_root.mp ha
      have hq : q ≠ p := fun z => by
        have := congrArg List.length e
        rw [← z, List.length_append, List.length_cons] at this
        omega
      have nr : A q ≠ A p := fun z => by
        rw [z, h0] at h1
        simp only [Option.some.injEq, MO.lst.injEq, List.cons.injEq, W.d.injEq] at h1
        exact hq (pathD_inj' h1.1).symm
      have nb : b ≠ A p := fun z => by
        rw [z, h0] at h2
        simp only [Option.some.injEq, MO.lst.injEq] at h2
        obtain ⟨a, ha2⟩ := ats_refs h3 (.d (pathD p)) (by rw [← h2]; exact .head _)
        cases ha2
      have row : ∀ {l : List PyData} {j : Nat} {us : List W}, (∀ z ∈ l, TrT n z) → (∀ t z, l[t]? = some z → j + t = i → z = k) → LT.ats (fun p a => a = A p) M (labdR es q j l) us → LT.ats (fun p a => a = A p) M' (labdR es2 q j l) us := fun {l} => by
        induction l with
        | nil =>
          intro j us _ _ hu
          rw [labdR] at hu ⊢
          rw [ptL, (sb q hq).2 j]
          exact ats_far h0 kk (noLs_bare p (hp q j)) hu
        | cons z l ih =>
          intro j us hz hi hu
          rw [labdR] at hu ⊢
          obtain ⟨u1, u2, rfl, g1, g2⟩ := ats_split hu
          rw [LT.ats] at g2
          obtain ⟨w1, r1, rfl, g3, g4⟩ := g2
          refine ats_app ?_ ?_
          · rw [ptL, (sb q hq).2 j]
            exact ats_far h0 kk (noLs_bare p (hp q j)) g1
          · rw [LT.ats]
            refine ⟨w1, r1, rfl, ?_, ih (fun v hv => hz v (.tail _ hv)) (fun t v ht2 e2 => hi (t + 1) v (by simpa using ht2) (by omega)) g4⟩
            by_cases cj : j = i
            · subst cj
              obtain rfl := hi 0 z rfl rfl
              exact upd_node hp sb h0 kk new (r := r) (by rw [List.append_assoc]; exact e) (hz z (.head _)) h g3
            · have np : ¬ (q ++ [j]) <+: p := fun z2 => by
                rw [e] at z2
                have := (List.prefix_append_right_inj q).mp z2
                simp only [List.cons_prefix_cons, List.nil_prefix, and_true] at this
                exact cj this
              rw [labd_congr sb _ (hz z (.head _)) np]
              exact at_far h0 kk (noL_labd hp _ (hz z (.head _)) np) g3
      refine labd_root.mpr ⟨e1, b, ws, ?_, kk _ _ nb h2, row hk (fun t z ht2 e2 => ?_) h3⟩
      · rw [(sb q hq).1]
        exact kk _ _ nr h1
      · obtain rfl : t = i := by omega
        rw [c] at ht2
        exact (Option.some.inj ht2).symm
end Tl
set_option Elab.async false
set_option linter.all false
set_option maxRecDepth 100000
set_option maxHeartbeats 4000000
/-! Rows of such trees: what stands where, what is put in. -/
namespace Tl
open PySem L2
variable {P Q : List Nat → Addr → Prop} {M M' : Mem}
mutual
theorem bare_weak : ∀ {n : Nat} {d : PyData} {w : W}, TrT n d → (bare d).at P M w → (bare d).at Q M w
  | 0, _, _, h, _ => h.elim
  | n + 1, d, w, h, ha => by
    obtain ⟨s, ks, rfl, _, hk⟩ := h
    rw [bare, LT.at] at ha ⊢
    obtain ⟨a, b, ws, e, h1, h2, h3, h4⟩ := ha
    exact ⟨a, b, ws, e, fun p hp => (by cases hp), h2, h3, bares_weak hk h4⟩
theorem bares_weak : ∀ {n : Nat} {ks : List PyData} {ws : List W}, (∀ k ∈ ks, TrT n k) → LT.ats P M (bares ks) ws → LT.ats Q M (bares ks) ws
  | _, [], ws, _, ha => by rw [bares, LT.ats] at ha ⊢; exact ha
  | n, k :: ks, ws, h, ha => by
    rw [bares, LT.ats] at ha ⊢
    obtain ⟨w, r, e, h1, h2⟩ := ha
    exact ⟨w, r, e, bare_weak (h k (.head _)) h1, bares_weak (fun z hz => h z (.tail _ hz)) h2⟩
end
mutual
theorem labd_weak {m : Nat} {es : List Edt} (hp : PtOk m es) : ∀ {n : Nat} {d : PyData} {q : List Nat} {w : W}, TrT n d → (∀ r a, P (q ++ r) a → Q (q ++ r) a) → (labd es q d).at P M w → (labd es q d).at Q M w
  | 0, _, _, _, h, _, _ => h.elim
  | n + 1, d, q, w, h, k, ha => by
    obtain ⟨s, ks, rfl, _, hk⟩ := h
    rw [labd, LT.at] at ha ⊢
    obtain ⟨a, b, ws, e, h1, h2, h3, h4⟩ := ha
    refine ⟨a, b, ws, e, fun p hp => ?_, h2, h3, labdR_weak hp hk (fun i _ r a h => ?_) h4⟩
    · cases hp
      have := k [] a
      rw [List.append_nil] at this
      exact this (h1 q rfl)
    · rw [List.append_assoc] at h ⊢
      exact k _ a h
theorem labdR_weak {m : Nat} {es : List Edt} (hp : PtOk m es) : ∀ {n : Nat} {ks : List PyData} {q : List Nat} {j : Nat} {ws : List W}, (∀ k ∈ ks, TrT n k) → (∀ i, j ≤ i ∧ i < j + ks.length → ∀ r a, P (q ++ [i] ++ r) a → Q (q ++ [i] ++ r) a) → LT.ats P M (labdR es q j ks) ws → LT.ats Q M (labdR es q j ks) ws
  | _, [], q, j, ws, _, _, ha => by
    rw [labdR] at ha ⊢
    exact bares_weak (hp q j) ha
  | n, k :: ks, q, j, ws, h, kk, ha => by
    rw [labdR] at ha ⊢
    obtain ⟨us, vs, rfl, h1, h2⟩ := ats_split ha
    refine ats_app (bares_weak (hp q j) h1) ?_
    rw [LT.ats] at h2 ⊢
    obtain ⟨w, r, e, h3, h4⟩ := h2
    rw [List.length_cons] at kk
    exact ⟨w, r, e, labd_weak hp (h k (.head _)) (kk j (by omega)) h3, labdR_weak hp (fun z hz => h z (.tail _ hz)) (fun i hi => kk i (by omega)) h4⟩
end
/-- a row, parted ahead of a place -/
theorem row_part {m : Nat} {es : List Edt} (hp : PtOk m es) {p : List Nat} : ∀ {n : Nat} {ks : List PyData} {j i : Nat}, (∀ k ∈ ks, TrT n k) → i ≤ ks.length → ∃ pre rest, labdR es p j ks = pre ++ (bares (ptL es p (j + i)) ++ rest) ∧ (∀ k ∈ pre, k.lab ≠ some (p ++ [j + i])) ∧ (∀ k, ks[i]? = some k → ∃ r, rest = labd es (p ++ [j + i]) k :: r) ∧ (i = ks.length → rest = [])
  | n, [], j, i, _, hi => by
    obtain rfl : i = 0 := by simpa using hi
    rw [labdR]
    exact ⟨[], [], by rw [List.append_nil]; rfl, fun k hk => (by cases hk), fun k hk => (by simp at hk), fun _ => rfl⟩
  | n, k :: ks, j, 0, _, _ => by
    rw [labdR]
    exact ⟨[], _, rfl, fun k hk => (by cases hk), fun z hz => (by cases hz; exact ⟨_, rfl⟩), fun h => (by simp at h)⟩
  | n, k :: ks, j, i + 1, h, hi => by
    obtain ⟨pre, rest, e1, e2, e3, e4⟩ := row_part hp (p := p) (ks := ks) (j := j + 1) (i := i) (fun z hz => h z (.tail _ hz)) (by simpa using hi)
    have ek : j + 1 + i = j + (i + 1) := by omega
    rw [ek] at e1 e2 e3
    rw [labdR, e1]
    refine ⟨bares (ptL es p j) ++ labd es (p ++ [j]) k :: pre, rest, by simp only [List.append_assoc, List.cons_append], fun z hz => ?_, fun z hz => e3 z (by simpa using hz), fun he => e4 (by simpa using he)⟩
    rcases List.mem_append.mp hz with hz | hz
    · rw [bares_map] at hz
      obtain ⟨y, _, rfl⟩ := List.mem_map.mp hz
      rw [bare_lab]
      exact fun z => by cases z
    rcases List.mem_cons.mp hz with rfl | hz
    · rw [labd_lab]
      intro z
      have := List.append_cancel_left (Option.some.inj z)
      simp only [List.cons.injEq, and_true] at this
      omega
    · exact e2 z hz
/-- what is put in stands there -/
theorem row_put {es es2 : List Edt} {p : List Nat} (sb : SameBut es es2 p) {n2 : Nat} {ts : List PyData} (h0 : ptE es p n2 = none) (h1 : ptE es2 p n2 = some ts) (h2 : ∀ i, i ≠ n2 → ptE es2 p i = ptE es p i) : ∀ {n : Nat} {ks : List PyData} {j i : Nat} {pre rest : List LT}, (∀ k ∈ ks, TrT n k) → j + i = n2 → i ≤ ks.length → labdR es p j ks = pre ++ rest → (∀ k ∈ pre, k.lab ≠ some (p ++ [n2])) → (∀ k, ks[i]? = some k → ∃ r, rest = labd es (p ++ [n2]) k :: r) → (i = ks.length → rest = []) → labdR es2 p j ks = pre ++ (bares ts ++ rest) := by
  have np : ∀ i, ¬ (p ++ [i]) <+: p := fun i z => by
    have := z.length_le
    rw [List.length_append, List.length_singleton] at this
    omega
  intro n ks
  induction ks with
  | nil =>
    intro j i pre rest _ hj hi e _ _ er
    obtain rfl : i = 0 := by simpa using hi
    obtain rfl := er rfl
    rw [Nat.add_zero] at hj
    subst hj
    rw [labdR, ptL, h0] at e
    rw [labdR, ptL, h1]
    have : pre = [] := by simpa [bares] using e.symm
    subst this
    rw [List.append_nil]
    rfl
  | cons k ks ih =>
    intro j i pre rest hk hj hi e hpre hrest er
    rw [labdR] at e ⊢
    rw [labd_congr sb _ (hk k (.head _)) (np j)]
    cases i with
    | zero =>
      rw [Nat.add_zero] at hj
      subst hj
      obtain ⟨r, rfl⟩ := hrest k rfl
      rw [ptL, h0] at e
      have tail : labdR es2 p (j + 1) ks = labdR es p (j + 1) ks := by
        clear ih e hpre hrest er hi
        have : ∀ {l : List PyData} {t : Nat}, (∀ z ∈ l, TrT n z) → j < t → labdR es2 p t l = labdR es p t l := fun {l} => by
          induction l with
          | nil =>
            intro t _ ht
            rw [labdR, labdR, ptL, ptL, h2 t (by omega)]
          | cons z l ih2 =>
            intro t hz ht
            rw [labdR, labdR, ptL, ptL, h2 t (by omega), labd_congr sb _ (hz z (.head _)) (np t), ih2 (fun v hv => hz v (.tail _ hv)) (by omega)]
        exact this (fun z hz => hk z (.tail _ hz)) (by omega)
      rw [ptL, h1, tail]
      show bares ts ++ _ = _
      have e' : labd es (p ++ [j]) k :: labdR es p (j + 1) ks = pre ++ labd es (p ++ [j]) k :: r := by simpa [bares] using e
      cases pre with
      | nil => rw [List.nil_append] at e' ⊢; rw [e']
      | cons y pre =>
        rw [List.cons_append, List.cons.injEq] at e'
        have := hpre y (.head _)
        rw [← e'.1, labd_lab] at this
        exact absurd rfl this
    | succ i =>
      have hb : bares (ptL es p j) = bares (ptL es2 p j) := by rw [ptL, ptL, h2 j (by omega)]
      rw [← hb]
      obtain ⟨a1, e1⟩ : ∃ a1, pre = bares (ptL es p j) ++ labd es (p ++ [j]) k :: a1 := by
        have hd : ∀ (x y a b : List LT) (z : LT), x ++ z :: y = a ++ b → (∀ v ∈ x, v.lab ≠ some (p ++ [n2])) → z.lab ≠ some (p ++ [n2]) → (b = [] ∨ ∃ v r, b = v :: r ∧ v.lab = some (p ++ [n2])) → ∃ a1, a = x ++ z :: a1 := by
          intro x
          induction x with
          | nil =>
            intro y a b z e3 _ hz hb2
            cases a with
            | nil =>
              rcases hb2 with rfl | ⟨v, r, rfl, hv⟩
              · cases e3
              · rw [List.nil_append, List.nil_append, List.cons.injEq] at e3
                rw [e3.1] at hz
                exact absurd hv hz
            | cons c a =>
              rw [List.nil_append, List.cons_append, List.cons.injEq] at e3
              exact ⟨a, by rw [e3.1]; rfl⟩
          | cons c x ihx =>
            intro y a b z e3 hx hz hb2
            cases a with
            | nil =>
              rcases hb2 with rfl | ⟨v, r, rfl, hv⟩
              · cases e3
              · rw [List.cons_append, List.nil_append, List.cons.injEq] at e3
                exact absurd (e3.1 ▸ hv) (hx c (.head _))
            | cons c2 a =>
              rw [List.cons_append, List.cons_append, List.cons.injEq] at e3
              obtain ⟨a1, h9⟩ := ihx y a b z e3.2 (fun v hv => hx v (.tail _ hv)) hz hb2
              exact ⟨a1, by rw [h9, e3.1]; rfl⟩
        refine hd _ _ _ _ _ e (fun v hv => ?_) ?_ ?_
        · rw [bares_map] at hv
          obtain ⟨y, _, rfl⟩ := List.mem_map.mp hv
          rw [bare_lab]
          exact fun z => by cases z
        · rw [labd_lab]
          intro z
          have := List.append_cancel_left (Option.some.inj z)
          simp only [List.cons.injEq, and_true] at this
          omega
        · by_cases hl : i + 1 = (k :: ks).length
          · exact .inl (er hl)
          · obtain ⟨k2, hk2⟩ : ∃ k2, (k :: ks)[i + 1]? = some k2 := ⟨_, List.getElem?_eq_getElem (by omega)⟩
            obtain ⟨r, rfl⟩ := hrest k2 hk2
            exact .inr ⟨_, _, rfl, labd_lab _ _ _⟩
      subst e1
      rw [List.append_assoc, List.cons_append] at e
      have e5 := List.append_cancel_left e
      rw [List.cons.injEq] at e5
      have := ih (j := j + 1) (i := i) (pre := a1) (rest := rest) (fun z hz => hk z (.tail _ hz)) (by omega) (by simpa using hi) e5.2 (fun z hz => hpre z (List.mem_append_right _ (.tail _ hz))) (fun z hz => hrest z (by simpa using hz)) (fun he => er (by simpa using he))
      rw [this, List.append_assoc, List.cons_append]
end Tl
set_option Elab.async false
set_option linter.all false
set_option maxRecDepth 100000
set_option maxHeartbeats 8000000
namespace Tl
open PySem L2 RZ
local macro_rules
  | `(tactic| decreasing_trivial) => `(tactic| ((with_reducible (conv => whnf)); (repeat ((first | (with_reducible refine gDs_c ?_) | (with_reducible refine gDs_n ?_) | (with_reducible refine gNs_c ?_) | (with_reducible refine gNs_n ?_) | (with_reducible refine gO_i tyAny_lt ?_) | (with_reducible refine gIs_c ?_) | (with_reducible refine gIs_n ?_) | (with_reducible refine gBs_c ?_) | (with_reducible refine gBs_n ?_) | (with_reducible refine gSs_c ?_) | (with_reducible refine gSs_n ?_) | (with_reducible refine gO_i tyIs_int ?_) | (with_reducible refine gO_i tyIs_bool ?_) | (with_reducible refine gO_i tyIs_str ?_) | (with_reducible refine gO_i tyIs_tuple ?_) | (with_reducible refine gO_i tyIs_list ?_) | (with_reducible refine gDs_i ?_) | (with_reducible refine gO_i (Eq.refl _) ?_) | (with_reducible refine gO_i (by assumption) ?_) | (with_reducible refine gO_i at_0 ?_) | (with_reducible refine gO_i at_m0 ?_) | (with_reducible refine gO_i at_1 ?_) | (with_reducible refine gO_i at_m1 ?_) | (with_reducible refine gO_i at_2 ?_) | (with_reducible refine gO_i at_m2 ?_) | (with_reducible refine gO_i at_3 ?_) | (with_reducible refine gO_i at_m3 ?_) | (with_reducible refine gO_i at_4 ?_) | (with_reducible refine gO_i at_m4 ?_) | (with_reducible refine gO_i at_5 ?_) | (with_reducible refine gO_i at_m5 ?_) | (with_reducible refine gO_i at_6 ?_) | (with_reducible refine gO_i at_m6 ?_) | (with_reducible refine gO_i at_7 ?_) | (with_reducible refine gO_i at_m7 ?_) | (with_reducible refine IfB.ngf ?_) | (with_reducible refine IfB.ngt ?_) | (with_reducible refine IfB.not ?_) | (with_reducible refine IfB.nil ?_) | (with_reducible refine IfB.nilT ?_) | (with_reducible refine IfB.f isE_c ?_) | (with_reducible refine IfB.t isE_n ?_) | (with_reducible refine IfB.t ?gha ?_; (case gha => rfl)) | (with_reducible refine IfB.f ?gha ?_; (case gha => rfl)) | (with_reducible refine IfB.t ?gha ?_; (case gha => assumption)) | (with_reducible refine IfB.f ?gha ?_; (case gha => assumption)) | (with_reducible refine IfB.yes (Eq.refl _) ?_) | (with_reducible refine IfB.yes ?gha ?_; (case gha => (first | omega | (simp only [len_c, len_n, List.length_map]; omega)))) | (with_reducible refine IfB.no ?gha ?_; (case gha => (first | omega | (simp only [len_c, len_n, List.length_map]; omega)))) | (with_reducible refine IfB.t ?gha ?_; (case gha => decide +kernel)) | (with_reducible refine IfB.f ?gha ?_; (case gha => decide +kernel))); (with_reducible (conv => whnf))))))
local macro_rules
  | `(tactic| decreasing_trivial_pre_omega) => `(tactic| (decreasing_trivial; (repeat ((first | ((with_reducible refine And.intro ?gha ?_); (case gha => (first | assumption | omega | exact rfl | (exact mset_same) | (exact ⟨_, mset_same⟩) | (exact Exists.intro _ (by first | exact mset_same | assumption | (rw [mset_ne (by assumption)]; first | exact mset_same | assumption))) | (exact sm_of (by omega) (by omega)) | (exact sz1000 (by first | omega | (simp; done) | (simp; omega))) | (exact Or.inl ⟨by decide, by decide⟩) | decide | (simp; done) | (refine ⟨?_, ?_⟩ <;> (first | assumption | omega | exact rfl | (exact mset_same) | (exact ⟨_, mset_same⟩) | (exact Exists.intro _ (by first | exact mset_same | assumption | (rw [mset_ne (by assumption)]; first | exact mset_same | assumption))) | (exact sm_of (by omega) (by omega)) | (exact sz1000 (by first | omega | (simp; done) | (simp; omega))) | (exact Or.inl ⟨by decide, by decide⟩) | decide | (simp; done))) | (refine ⟨?_, ?_, ?_⟩ <;> (first | assumption | omega | exact rfl | (exact mset_same) | (exact ⟨_, mset_same⟩) | (exact Exists.intro _ (by first | exact mset_same | assumption | (rw [mset_ne (by assumption)]; first | exact mset_same | assumption))) | (exact sm_of (by omega) (by omega)) | (exact sz1000 (by first | omega | (simp; done) | (simp; omega))) | (exact Or.inl ⟨by decide, by decide⟩) | decide | (simp; done))) | (refine ⟨?_, ?_, ?_, ?_⟩ <;> (first | assumption | omega | exact rfl | (exact mset_same) | (exact ⟨_, mset_same⟩) | (exact Exists.intro _ (by first | exact mset_same | assumption | (rw [mset_ne (by assumption)]; first | exact mset_same | assumption))) | (exact sm_of (by omega) (by omega)) | (exact sz1000 (by first | omega | (simp; done) | (simp; omega))) | (exact Or.inl ⟨by decide, by decide⟩) | decide | (simp; done)))))) | (with_reducible refine exW (by first | exact mset_same | assumption | (rw [mset_ne (by assumption)]; first | exact mset_same | assumption)) ?_)); decreasing_trivial))))
@[reducible] def tfPart : TF := fun ws M R _ => ∃ (d e : PyData) (q : List Nat) (n : Nat), ws = [.d d, .d (pathD q)] ∧ (TrT n d ∧ sub d q = some e) ∧ R (.d e) M
@[reducible] def tfKeyL : TF := fun ws M R _ => ∃ e : Edt, ws = [.d e.d] ∧ R (.d e.kL) M
@[reducible] def tfBegins : TF := fun ws M R _ => ∃ p t : List Nat, ws = [.d (pathD t), .d (pathD p)] ∧ (p.length ≤ 1000 ∧ t.length ≤ 1000) ∧ R (.d (.bool (pre t p))) M
@[reducible] def tfDist : TF := fun ws M R _ => ∃ e o : Edt, ws = [.d e.d, .d o.d] ∧ (e.q.length ≤ 100 ∧ o.q.length ≤ 100) ∧ R (.d (.bool (takesE e o))) M
section
variable {P : Program} {w : World} {K : PySem.W.Frag} {mg : Str → Option Value} {base : Heap}
abbrev sPart : Stmt := top 48
theorem scPart : FnScope ["_law_tree_here", "_law_path", "_law_at"] ["_law_tree_here", "_law_path"] (defScope sPart) := ⟨rfl, rfl, rfl, by decide +kernel, rfl, by decide +kernel, by decide +kernel⟩
theorem ok_part {f : Addr} {fd : FuncData} {k : Nat} (F : Fun K "_law_part" "_law_part" sPart f fd) (T : Bl mg) : FnOk P w K mg base CX0 (k + 1) f fd ["_law_tree_here", "_law_path"] (spD K 2 tfPart) := by
  refine okD F scPart rfl fun cdv A outer s H E hr => ?_
  refine ⟨_, _, (pss_cons (ps_for PassesOwn.never rfl (pi_tup (pv 1)) (pg_name (i := 2) scPart.nd rfl (.inl rfl)) (pss_one (ps_set (i := 0) scPart.nd rfl (.inl rfl) (pe_ix ix_tup (pe_ix ix_tup (pv 0) pe_int (fun _ _ => rfl)) (pv 2) (fun _ _ => rfl)))))
    (pss_one (ps_ret (pv 0)))),
    (ss_cons (ss_for (si_tup se_nm) sg_name (ss_set (se_op so_ixT (se_op so_ixT se_nm se_int) se_nm)))
    (ss_ret se_nm)), fun ws M R RX hl h => ?_⟩
  obtain ⟨d, e, q, n, rfl, ⟨ht, hs⟩, h2⟩ := h
  unfold pathD
  simp only [start0, len_c, len_n, map_c, map_n, app_c, app_n, rep_0, rep_s, Nat.reduceAdd, Nat.reduceSub]
  decreasing_trivial_pre_omega
  rw [mapW]
  refine for1 (fun i ρ M' => M' = M ∧ ∃ (u : PyData) (m : Nat) (y : Option W), ρ = [some (.d u), some (.d (.tuple (q.map fun n : Nat => PyData.int (n : Int)))), y] ∧ TrT m u ∧ sub u (q.drop i) = some e)
    ⟨rfl, d, n, none, rfl, ht, hs⟩ (fun _ _ _ _ _ => trivial) (fun i a ρ M' N ha pv hN => ?_) (fun ρ M' pv => ?_)
  · obtain ⟨rfl, u, m, y, rfl, tu, su⟩ := pv
    have hi := (List.getElem?_eq_some_iff.mp ha).1
    rw [List.drop_eq_getElem_cons hi, (List.getElem?_eq_some_iff.mp ha).2] at su
    cases m with
    | zero => exact tu.elim
    | succ m =>
      obtain ⟨s0, ks, rfl, _, hk⟩ := tu
      rw [sub_node] at su
      cases c : ks[a]? with
      | none => rw [c] at su; cases su
      | some k0 =>
        rw [c] at su
        have at1 : atI ks (a : Int) = some k0 := atI_nat c
        decreasing_trivial_pre_omega
        exact hN _ _ ⟨rfl, k0, m, _, rfl, hk k0 (List.mem_of_getElem? c), su⟩
  · obtain ⟨rfl, u, m, y, rfl, tu, su⟩ := pv
    rw [List.drop_length, sub_nil] at su
    cases su
    decreasing_trivial_pre_omega
    exact h2
abbrev sKeyL : Stmt := top 50
theorem scKeyL : FnScope ["_law_edit_here", "_law_at"] ["_law_edit_here"] (defScope sKeyL) := ⟨rfl, rfl, rfl, by decide +kernel, rfl, by decide +kernel, by decide +kernel⟩
theorem ok_keyL {f : Addr} {fd : FuncData} {k : Nat} (F : Fun K "_law_key" "_law_key" sKeyL f fd) (T : Bl mg) : FnOk P w K mg base CX0 (k + 1) f fd ["_law_edit_here"] (spD K 1 tfKeyL) := by
  refine okD F scKeyL rfl fun cdv A outer s H E hr => ?_
  refine ⟨_, _, (pss_cons (ps_set (i := 1) scKeyL.nd rfl (.inl rfl) pe_int)
    (pss_cons (ps_if (pt_cmpR op_eq (pe_ix ix_tup (pv 0) pe_int (fun _ _ => rfl)) pe_str (nomark _)) (pss_one (ps_set (i := 1) scKeyL.nd rfl (.inl rfl) (pe_ix ix_tup (pv 0) pe_int (fun _ _ => rfl)))) pss_nil)
    (pss_one (ps_ret (pe_lst (pa_cons (pe_ix ix_tup (pv 0) pe_int (fun _ _ => rfl)) (pa_cons (pe_ix ix_tup (pv 0) pe_int (fun _ _ => rfl)) (pa_cons (pv 1) pa_nil)))))))),
    (ss_cons (ss_set se_int)
    (ss_cons (ss_if (st_test (se_op so_eqS (se_op so_ixT se_nm se_int) se_str)) (ss_set (se_op so_ixT se_nm se_int)) ss_nil)
    (ss_ret (se_lsf (sa_cons (se_op so_ixT se_nm se_int) (sa_cons (se_op so_ixT se_nm se_int) (sa_cons se_nm sa_nil))))))), fun ws M R RX hl h => ?_⟩
  obtain ⟨e, rfl, h2⟩ := h
  cases e <;> (unfold Edt.d; simp only [start0, len_c, len_n, map_c, map_n, app_c, app_n, rep_0, rep_s, Nat.reduceAdd, Nat.reduceSub]; decreasing_trivial_pre_omega; exact h2)
abbrev sBegins : Stmt := top 51
theorem scBegins : FnScope ["_law_path", "_law_other"] ["_law_path", "_law_other"] (defScope sBegins) := ⟨rfl, rfl, rfl, by decide +kernel, rfl, by decide +kernel, by decide +kernel⟩
theorem ok_begins {f : Addr} {fd : FuncData} {k : Nat} (F : Fun K "_law_begins" "_law_begins" sBegins f fd) (T : Bl mg) : FnOk P w K mg base CX0 (k + 1) f fd ["_law_path", "_law_other"] (spD K 2 tfBegins) := by
  refine okD F scBegins rfl fun cdv A outer s H E hr => ?_
  refine ⟨_, _, (pss_one (ps_ret (pe_cmpR (op_eqD hr.units) (pe_slice sl_tupA (pv 1) po_none (po_some (pe_callB call_len_seq (by rfl) T.len PySem.boot_len (pa_cons (pv 0) pa_nil)))) (pv 0) (nomark _)))),
    (ss_ret (se_op so_eqD (se_sl sl_T se_nm sp_no (sp_some (se_cb sc_len (sa_cons se_nm sa_nil)))) se_nm)), fun ws M R RX hl h => ?_⟩
  obtain ⟨p, t, rfl, ⟨h1, h2⟩, h3⟩ := h
  unfold pathD
  simp only [start0, len_c, len_n, map_c, map_n, app_c, app_n, rep_0, rep_s, Nat.reduceAdd, Nat.reduceSub]
  decreasing_trivial_pre_omega
  rw [List.length_map, cut_to, ← List.map_take]
  refine ⟨⟨eqOk_path (p.take t.length), eqOk_path t⟩, ?_⟩
  have e := eqv_path (p.take t.length) t
  unfold pathD at e
  rw [e]
  exact h3
abbrev sDist : Stmt := top 52
theorem scDist : FnScope ["_law_edit_here", "_law_other"] ["_law_edit_here", "_law_other"] (defScope sDist) := ⟨rfl, rfl, rfl, by decide +kernel, rfl, by decide +kernel, by decide +kernel⟩
theorem ok_dist {f : Addr} {fd : FuncData} {k j : Nat} (F : Fun K "_law_disturbs" "_law_disturbs" sDist f fd) (U_law_begins : Use P w K mg base "_law_begins" ["_law_path", "_law_other"] j (spD K 2 tfBegins)) (hj : j ≤ k) (T : Bl mg) : FnOk P w K mg base CX0 (k + 1) f fd ["_law_edit_here", "_law_other"] (spD K 2 tfDist) := by
  refine okD F scDist rfl fun cdv A outer s H E hr => ?_
  refine ⟨_, _, (pss_one (ps_ret (pe_and (pe_cmpR op_eq (pe_ix ix_tup (pv 0) pe_int (fun _ _ => rfl)) pe_str (nomark _)) (pe_one (pe_call U_law_begins.ok (hr.mono (by omega)) rfl U_law_begins.m U_law_begins.kp U_law_begins.b .nil pass0 (pa_cons (pe_ix ix_tup (pv 0) pe_int (fun _ _ => rfl)) (pa_cons (pe_ix ix_tup (pv 1) pe_int (fun _ _ => rfl)) pa_nil))))))),
    (ss_ret (se_and (se_op so_eqS (se_op so_ixT se_nm se_int) se_str) (se_call (sa_cons (se_op so_ixT se_nm se_int) (sa_cons (se_op so_ixT se_nm se_int) sa_nil))))), fun ws M R RX hl h => ?_⟩
  obtain ⟨e, o, rfl, ⟨h0, h1⟩, h2⟩ := h
  have e2 : takesE e o = (e.isOut && pre e.q o.q) := by
    unfold takesE pre
    congr 1
    exact decide_eq_decide.mpr (by rw [List.prefix_iff_eq_take]; exact eq_comm)
  rw [e2] at h2
  have key : ∃ w r, o.d = .tuple (w :: pathD o.q :: r) := by cases o <;> exact ⟨_, _, rfl⟩
  obtain ⟨wo, ro, eo⟩ := key
  rw [eo]
  cases e with
  | out q => unfold Edt.d; simp only [start0, len_c, len_n, map_c, map_n, app_c, app_n, rep_0, rep_s, Nat.reduceAdd, Nat.reduceSub]; decreasing_trivial_pre_omega; refine ⟨o.q, q, rfl, ⟨by omega, (by have : q.length ≤ 100 := h0; omega)⟩, ?_⟩; exact h2
  | name q t => unfold Edt.d; simp only [start0, len_c, len_n, map_c, map_n, app_c, app_n, rep_0, rep_s, Nat.reduceAdd, Nat.reduceSub]; decreasing_trivial_pre_omega; exact h2
  | put q n ts => unfold Edt.d; simp only [start0, len_c, len_n, map_c, map_n, app_c, app_n, rep_0, rep_s, Nat.reduceAdd, Nat.reduceSub]; decreasing_trivial_pre_omega; exact h2
end
end Tl
set_option Elab.async false
set_option linter.all false
set_option maxRecDepth 100000
set_option maxHeartbeats 4000000
/-! Comprehensions that make things on the way. -/
namespace Tl
open PySem L2
section
variable {keep : Mem → Prop} {tt : TDT} {te : TDE} {ρ : EnvD} {fin : List W → Mem → Prop}
theorem lc_inv_go {α : Type} {i : Nat} {f : α → W} (I : Nat → List W → Mem → Prop) (hk : ∀ n acc M, I n acc M → keep M ∧ acc.length ≤ n) {xs : List α} (hl : xs.length ≤ sizeLine)
    (hs : ∀ n a acc M (Rk : W → Mem → Prop) (Rn : Mem → Prop), xs[n]? = some a → I n acc M → (∀ y M', I (n + 1) (acc ++ [y]) M' → Rk y M') → (∀ M', I (n + 1) acc M' → Rn M') → tt (put ρ i (some (f a))) M fun c M2 => IfB c (te (put ρ i (some (f a))) M2 Rk) (Rn M2))
    (hf : ∀ acc M, I xs.length acc M → fin acc M) : ∀ (ys : List α) (n : Nat) (acc : List W) (M : Mem), xs.drop n = ys → n ≤ xs.length → I n acc M → lcGo (bName i) keep tt te ρ fin (rows1 (ys.map f)) acc M
  | [], n, acc, M, e, hn, h => by
    have : n = xs.length := by
      have := congrArg List.length e
      rw [List.length_drop] at this
      simp at this
      omega
    subst this
    exact ⟨(hk _ _ _ h).1, hf _ _ h⟩
  | a :: ys, n, acc, M, e, hn, h => by
    have hlt : n < xs.length := by
      have := congrArg List.length e
      rw [List.length_drop, List.length_cons] at this
      omega
    rw [List.drop_eq_getElem_cons hlt, List.cons.injEq] at e
    have ha : xs[n]? = some a := by rw [List.getElem?_eq_getElem hlt, e.1]
    have hq := (hk _ _ _ h).2
    refine ⟨(hk _ _ _ h).1, ?_⟩
    exact hs n a acc M _ _ ha h (fun y M' h2 => ⟨by omega, lc_inv_go I hk hl hs hf ys (n + 1) _ M' e.2 hlt h2⟩) fun M' h2 => lc_inv_go I hk hl hs hf ys (n + 1) acc M' e.2 hlt h2
theorem lc_inv {α : Type} {i : Nat} {f : α → W} {M : Mem} (I : Nat → List W → Mem → Prop) {xs : List α} (h0 : I 0 [] M) (hk : ∀ n acc M, I n acc M → keep M ∧ acc.length ≤ n) (hl : xs.length ≤ sizeLine)
    (hs : ∀ n a acc M (Rk : W → Mem → Prop) (Rn : Mem → Prop), xs[n]? = some a → I n acc M → (∀ y M', I (n + 1) (acc ++ [y]) M' → Rk y M') → (∀ M', I (n + 1) acc M' → Rn M') → tt (put ρ i (some (f a))) M fun c M2 => IfB c (te (put ρ i (some (f a))) M2 Rk) (Rn M2))
    (hf : ∀ acc M, I xs.length acc M → fin acc M) : lcGo (bName i) keep tt te ρ fin (rows1 (xs.map f)) [] M := lc_inv_go I hk hl hs hf xs 0 [] M rfl (Nat.zero_le _) h0
end
theorem ats_zip {P : List Nat → Addr → Prop} {M : Mem} : ∀ {ks : List LT} {ws : List W}, LT.ats P M ks ws → ∃ zs : List (LT × W), ks = zs.map (·.1) ∧ ws = zs.map (·.2) ∧ ∀ z ∈ zs, z.1.at P M z.2
  | [], ws, h => by
    rw [LT.ats] at h
    subst h
    exact ⟨[], rfl, rfl, fun z hz => by cases hz⟩
  | k :: ks, ws, h => by
    rw [LT.ats] at h
    obtain ⟨w, r, rfl, h3, h4⟩ := h
    obtain ⟨zs, e1, e2, e3⟩ := ats_zip h4
    exact ⟨(k, w) :: zs, by rw [e1]; rfl, by rw [e2]; rfl, fun z hz => by
      rcases List.mem_cons.mp hz with rfl | hz
      · exact h3
      · exact e3 z hz⟩
theorem eqv_lab (l : Option (List Nat)) (q : List Nat) : PyData.eqv (labD l) (pathD q) = decide (l = some q) := by
  cases l with
  | none =>
    rw [decide_eq_false (fun z => by cases z)]
    unfold labD pathD
    rw [PyData.eqv]
    all_goals (intros; contradiction)
  | some p =>
    show PyData.eqv (pathD p) (pathD q) = _
    rw [eqv_path]
    exact decide_eq_decide.mpr ⟨fun h => by rw [h], fun h => Option.some.inj h⟩
theorem eqOk_lab (l : Option (List Nat)) : eqOk (labD l) = true := by
  cases l with
  | none => decide +kernel
  | some p => exact eqOk_path p
end Tl
set_option Elab.async false
set_option linter.all false
set_option maxRecDepth 100000
set_option maxHeartbeats 8000000
namespace Tl
open PySem L2 RZ
local macro_rules
  | `(tactic| decreasing_trivial) => `(tactic| ((with_reducible (conv => whnf)); (repeat ((first | (with_reducible refine gDs_c ?_) | (with_reducible refine gDs_n ?_) | (with_reducible refine gNs_c ?_) | (with_reducible refine gNs_n ?_) | (with_reducible refine gO_i tyAny_lt ?_) | (with_reducible refine gIs_c ?_) | (with_reducible refine gIs_n ?_) | (with_reducible refine gBs_c ?_) | (with_reducible refine gBs_n ?_) | (with_reducible refine gSs_c ?_) | (with_reducible refine gSs_n ?_) | (with_reducible refine gO_i tyIs_int ?_) | (with_reducible refine gO_i tyIs_bool ?_) | (with_reducible refine gO_i tyIs_str ?_) | (with_reducible refine gO_i tyIs_tuple ?_) | (with_reducible refine gO_i tyIs_list ?_) | (with_reducible refine gDs_i ?_) | (with_reducible refine gO_i (Eq.refl _) ?_) | (with_reducible refine gO_i (by assumption) ?_) | (with_reducible refine gO_i at_0 ?_) | (with_reducible refine gO_i at_m0 ?_) | (with_reducible refine gO_i at_1 ?_) | (with_reducible refine gO_i at_m1 ?_) | (with_reducible refine gO_i at_2 ?_) | (with_reducible refine gO_i at_m2 ?_) | (with_reducible refine gO_i at_3 ?_) | (with_reducible refine gO_i at_m3 ?_) | (with_reducible refine gO_i at_4 ?_) | (with_reducible refine gO_i at_m4 ?_) | (with_reducible refine gO_i at_5 ?_) | (with_reducible refine gO_i at_m5 ?_) | (with_reducible refine gO_i at_6 ?_) | (with_reducible refine gO_i at_m6 ?_) | (with_reducible refine gO_i at_7 ?_) | (with_reducible refine gO_i at_m7 ?_) | (with_reducible refine IfB.ngf ?_) | (with_reducible refine IfB.ngt ?_) | (with_reducible refine IfB.not ?_) | (with_reducible refine IfB.nil ?_) | (with_reducible refine IfB.nilT ?_) | (with_reducible refine IfB.f isE_c ?_) | (with_reducible refine IfB.t isE_n ?_) | (with_reducible refine IfB.t ?gha ?_; (case gha => rfl)) | (with_reducible refine IfB.f ?gha ?_; (case gha => rfl)) | (with_reducible refine IfB.t ?gha ?_; (case gha => assumption)) | (with_reducible refine IfB.f ?gha ?_; (case gha => assumption)) | (with_reducible refine IfB.yes (Eq.refl _) ?_) | (with_reducible refine IfB.yes ?gha ?_; (case gha => (first | omega | (simp only [len_c, len_n, List.length_map]; omega)))) | (with_reducible refine IfB.no ?gha ?_; (case gha => (first | omega | (simp only [len_c, len_n, List.length_map]; omega)))) | (with_reducible refine IfB.t ?gha ?_; (case gha => decide +kernel)) | (with_reducible refine IfB.f ?gha ?_; (case gha => decide +kernel))); (with_reducible (conv => whnf))))))
local macro_rules
  | `(tactic| decreasing_trivial_pre_omega) => `(tactic| (decreasing_trivial; (repeat ((first | ((with_reducible refine And.intro ?gha ?_); (case gha => (first | assumption | omega | exact rfl | (exact mset_same) | (exact ⟨_, mset_same⟩) | (exact Exists.intro _ (by first | exact mset_same | assumption | (rw [mset_ne (by assumption)]; first | exact mset_same | assumption))) | (exact sm_of (by omega) (by omega)) | (exact sz1000 (by first | omega | (simp; done) | (simp; omega))) | (exact Or.inl ⟨by decide, by decide⟩) | decide | (simp; done) | (refine ⟨?_, ?_⟩ <;> (first | assumption | omega | exact rfl | (exact mset_same) | (exact ⟨_, mset_same⟩) | (exact Exists.intro _ (by first | exact mset_same | assumption | (rw [mset_ne (by assumption)]; first | exact mset_same | assumption))) | (exact sm_of (by omega) (by omega)) | (exact sz1000 (by first | omega | (simp; done) | (simp; omega))) | (exact Or.inl ⟨by decide, by decide⟩) | decide | (simp; done))) | (refine ⟨?_, ?_, ?_⟩ <;> (first | assumption | omega | exact rfl | (exact mset_same) | (exact ⟨_, mset_same⟩) | (exact Exists.intro _ (by first | exact mset_same | assumption | (rw [mset_ne (by assumption)]; first | exact mset_same | assumption))) | (exact sm_of (by omega) (by omega)) | (exact sz1000 (by first | omega | (simp; done) | (simp; omega))) | (exact Or.inl ⟨by decide, by decide⟩) | decide | (simp; done))) | (refine ⟨?_, ?_, ?_, ?_⟩ <;> (first | assumption | omega | exact rfl | (exact mset_same) | (exact ⟨_, mset_same⟩) | (exact Exists.intro _ (by first | exact mset_same | assumption | (rw [mset_ne (by assumption)]; first | exact mset_same | assumption))) | (exact sm_of (by omega) (by omega)) | (exact sz1000 (by first | omega | (simp; done) | (simp; omega))) | (exact Or.inl ⟨by decide, by decide⟩) | decide | (simp; done)))))) | (with_reducible refine exW (by first | exact mset_same | assumption | (rw [mset_ne (by assumption)]; first | exact mset_same | assumption)) ?_)); decreasing_trivial))))
def liveT : Option (List Nat) → PyData → LT
  | none, d => bare d
  | some p, d => labd [] p d
def kidL (l : Option (List Nat)) (i : Nat) : Option (List Nat) := l.map (· ++ [i])
def liveKs (l : Option (List Nat)) : Nat → List PyData → List LT
  | _, [] => []
  | i, k :: ks => liveT (kidL l i) k :: liveKs l (i + 1) ks
theorem pt_nil (p : List Nat) (i : Nat) : ptL [] p i = [] := rfl
theorem ptok_nil (m : Nat) : PtOk m [] := fun p i x hx => by rw [pt_nil] at hx; cases hx
theorem live_none : ∀ (i : Nat) (ks : List PyData), liveKs none i ks = bares ks
  | i, [] => by rw [bares]; rfl
  | i, k :: ks => by rw [liveKs, bares, live_none (i + 1) ks]; rfl
theorem live_some (p : List Nat) : ∀ (i : Nat) (ks : List PyData), liveKs (some p) i ks = labdR [] p i ks
  | i, [] => by rw [labdR, pt_nil, bares]; rfl
  | i, k :: ks => by rw [liveKs, labdR, pt_nil, bares, live_some p (i + 1) ks]; rfl
theorem liveT_node (l : Option (List Nat)) (s : Str) (ks : List PyData) : liveT l (.tuple [.str s, .tuple ks]) = .node l s (liveKs l 0 ks) := by
  cases l with
  | none => rw [liveT, bare, live_none]; rfl
  | some p => rw [liveT, labd, live_some]; rfl
theorem live_app (l : Option (List Nat)) : ∀ (i : Nat) (a b : List PyData), liveKs l i (a ++ b) = liveKs l i a ++ liveKs l (i + a.length) b
  | i, [], b => rfl
  | i, k :: a, b => by
    rw [List.cons_append, liveKs, liveKs, live_app l (i + 1) a b, List.length_cons, show i + 1 + a.length = i + (a.length + 1) by omega]
    rfl
@[reducible] def RootA (A : List Nat → Addr) : List Nat → Addr → Prop := fun p a => a = A p
theorem liveKs_weak {A A' : List Nat → Addr} {M : Mem} {l : Option (List Nat)} {n j : Nat} {ks : List PyData} {ws : List W} (hk : ∀ k ∈ ks, TrT n k) (h : ∀ p, l = some p → ∀ i, j ≤ i ∧ i < j + ks.length → ∀ r, A' (p ++ [i] ++ r) = A (p ++ [i] ++ r)) (ha : LT.ats (RootA A) M (liveKs l j ks) ws) : LT.ats (RootA A') M (liveKs l j ks) ws := by
  cases l with
  | none =>
    rw [live_none] at ha ⊢
    exact bares_weak hk ha
  | some p =>
    rw [live_some] at ha ⊢
    exact labdR_weak (ptok_nil n) hk (fun i hi r a (hh : a = A _) => by show a = A' _; rw [h p rfl i hi r]; exact hh) ha
theorem liveT_weak {A A' : List Nat → Addr} {M : Mem} {l : Option (List Nat)} {n : Nat} {d : PyData} {w : W} (hd : TrT n d) (h : ∀ p, l = some p → ∀ r, A' (p ++ r) = A (p ++ r)) (ha : (liveT l d).at (RootA A) M w) : (liveT l d).at (RootA A') M w := by
  cases l with
  | none => exact bare_weak hd ha
  | some p => exact labd_weak (ptok_nil n) hd (fun r a (hh : a = A _) => by show a = A' _; rw [h p rfl r]; exact hh) ha
/-- all that is new in M' since M -/
@[reducible] def tfLiveS (n : Nat) : TF := fun ws M R _ => ∃ (d : PyData) (l : Option (List Nat)), ws = [.d d, .d (labD l)] ∧ (TrT n d ∧ nn d ≤ 200 ∧ ∀ p, l = some p → p.length + n ≤ 100) ∧ ∀ (A : List Nat → Addr) (a : Addr) (M' : Mem), (∀ x, M x ≠ none → M' x = M x) → (∀ M'' : Mem, (∀ x, M x = none → M' x ≠ none → M'' x = M' x) → (liveT l d).at (RootA A) M'' (.r a)) → R (.r a) M'
section
variable {P : Program} {w : World} {K : PySem.W.Frag} {mg : Str → Option Value} {base : Heap}
abbrev sLiveS : Stmt := top 53
theorem scLiveS : FnScope ["_law_tree_here", "_law_path", "_law_found", "_law_at", "_law_kid"] ["_law_tree_here", "_law_path"] (defScope sLiveS) := ⟨rfl, rfl, rfl, by decide +kernel, rfl, by decide +kernel, by decide +kernel⟩
theorem ok_liveS1 {f : Addr} {fd : FuncData} {n : Nat} (F : Fun K "_law_live" "_law_live" sLiveS f fd) (U_law_live : Use P w K mg base "_law_live" ["_law_tree_here", "_law_path"] n (spD K 2 (tfLiveS n))) (T : Bl mg) : FnOk P w K mg base CX0 (n + 1) f fd ["_law_tree_here", "_law_path"] (spD K 2 (tfLiveS (n + 1))) := by
  refine okD F scLiveS rfl fun cdv A outer s H E hr => ?_
  refine ⟨_, _, (pss_cons (ps_set (i := 2) scLiveS.nd rfl (.inl rfl) (pe_lst (pa_cons (pv 1) (pa_cons (pe_ix ix_tup (pv 0) pe_int (fun _ _ => rfl)) (pa_cons (pe_lst pa_nil) pa_nil)))))
    (pss_cons (ps_for PassesOwn.never rfl (pi_enumT (by rfl) T.enum (pa_cons (pe_ix ix_tup (pv 0) pe_int (fun _ _ => rfl)) pa_nil)) (pg_tup rfl (pgs_cons (pg_name (i := 3) scLiveS.nd rfl (.inl rfl)) (pgs_cons (pg_name (i := 4) scLiveS.nd rfl (.inl rfl)) pgs_nil))) (pss_one (ps_if (pt_cmpR op_isN (pv 1) pe_non (nomark _)) (pss_one (ps_expr (pe_bm PySem.F.plainAttrs_list PySem.F.slot_list_append PySem.F.type_list_append mt_append (pe_ix ix_list (pv 2) pe_int (fun _ _ => rfl)) (pa_cons (pe_call U_law_live.ok (hr.mono (by omega)) rfl U_law_live.m U_law_live.kp U_law_live.b .nil pass0 (pa_cons (pv 4) (pa_cons pe_non pa_nil))) pa_nil)))) (pss_one (ps_expr (pe_bm PySem.F.plainAttrs_list PySem.F.slot_list_append PySem.F.type_list_append mt_append (pe_ix ix_list (pv 2) pe_int (fun _ _ => rfl)) (pa_cons (pe_call U_law_live.ok (hr.mono (by omega)) rfl U_law_live.m U_law_live.kp U_law_live.b .nil pass0 (pa_cons (pv 4) (pa_cons (pe_op op_catA (pv 1) (pe_tup (pa_cons (pv 3) pa_nil))) pa_nil))) pa_nil)))))))
    (pss_one (ps_ret (pv 2))))),
    (ss_cons (ss_set (se_lst (sa_cons se_nm (sa_cons (se_op so_ixT se_nm se_int) (sa_cons (se_lst sa_nil) sa_nil)))))
    (ss_cons (ss_for (si_enT (sa_cons (se_op so_ixT se_nm se_int) sa_nil)) sg_pair (ss_if (st_test (se_op so_isN se_nm se_non)) (ss_drop (se_bmL sm_append (se_op so_ixL se_nm se_int) (sa_cons (se_call (sa_cons se_nm (sa_cons se_non sa_nil))) sa_nil))) (ss_drop (se_bmL sm_append (se_op so_ixL se_nm se_int) (sa_cons (se_call (sa_cons se_nm (sa_cons (se_op so_catT se_nm (se_tup (sa_cons se_nm sa_nil))) sa_nil))) sa_nil)))))
    (ss_ret se_nm))), fun ws M R RX hl h => ?_⟩
  obtain ⟨d, l, rfl, ⟨ht, hn, hp⟩, h3⟩ := h
  obtain ⟨s0, ks, rfl, hs, hk⟩ := ht
  rw [nn] at hn
  have hl1 := len_nn ks
  simp only [start0, len_c, len_n, map_c, map_n, app_c, app_n, rep_0, rep_s, Nat.reduceAdd, Nat.reduceSub]
  decreasing_trivial_pre_omega
  intro b hb
  decreasing_trivial_pre_omega
  intro a ha
  have ab : a ≠ b := fun z => by rw [z, mset_same] at ha; cases ha
  rw [mset_ne ab] at ha
  have A0 : mset (mset M b (.lst [])) a (.lst [.d (labD l), .d (.str s0), .r b]) a = some (.lst [.d (labD l), .d (.str s0), .r b]) := mset_same
  have B0 : mset (mset M b (.lst [])) a (.lst [.d (labD l), .d (.str s0), .r b]) b = some (.lst []) := by rw [mset_ne ab.symm, mset_same]
  have K0 : ∀ x, M x ≠ none → mset (mset M b (.lst [])) a (.lst [.d (labD l), .d (.str s0), .r b]) x = M x := fun x hx => by
    rw [mset_ne (fun z => hx (by rw [z]; exact ha)), mset_ne (fun z => hx (by rw [z]; exact hb))]
  decreasing_trivial_pre_omega
  generalize mset (mset M b (.lst [])) a (.lst [.d (labD l), .d (.str s0), .r b]) = M0 at A0 B0 K0 ⊢
  refine forE (fun i ρ M1 => ∃ (A : List Nat → Addr) (us : List W) (y3 y4 : Option W), ρ = [some (.d (.tuple [.str s0, .tuple ks])), some (.d (labD l)), some (.r a), y3, y4] ∧ M1 a = some (.lst [.d (labD l), .d (.str s0), .r b]) ∧ M1 b = some (.lst us) ∧ (∀ x, M x ≠ none → M1 x = M x) ∧ us.length = i ∧
      ∀ M'' : Mem, (∀ x, M x = none → M1 x ≠ none → x ≠ a → x ≠ b → M'' x = M1 x) → LT.ats (RootA A) M'' (liveKs l 0 (ks.take i)) us)
    ⟨fun _ => 0, [], none, none, rfl, A0, B0, K0, rfl, fun M'' _ => by rw [List.take_zero]; exact ats_nil⟩ (fun _ _ _ _ _ => trivial) (fun i kid ρ M1 N hi pv hN => ?_) (fun ρ M1 pv => ?_)
  · obtain ⟨A, us, y3, y4, rfl, a1, b1, k1, lu, f1⟩ := pv
    rw [List.getElem?_map] at hi
    obtain ⟨kd, hkd, rfl⟩ := Option.map_eq_some_iff.mp hi
    have hi2 := (List.getElem?_eq_some_iff.mp hkd).1
    have hm := List.mem_of_getElem? hkd
    have hnk1 := nn_mem hm
    have step : ∀ (A1 : List Nat → Addr) (c : Addr) (M2 : Mem) (ρ' : EnvD), (∃ y3 y4, ρ' = [some (.d (.tuple [.str s0, .tuple ks])), some (.d (labD l)), some (.r a), y3, y4]) → (∀ x, M1 x ≠ none → M2 x = M1 x) → (∀ M'' : Mem, (∀ x, M1 x = none → M2 x ≠ none → M'' x = M2 x) → (liveT (kidL l i) kd).at (RootA A1) M'' (.r c)) → N ρ' (mset M2 b (.lst (us ++ [.r c]))) := fun A1 c M2 ρ' ⟨y3, y4, er⟩ k2 f2 => by
      subst er
      have ba : b ≠ a := ab.symm
      have an : M1 a ≠ none := by rw [a1]; exact fun z => nomatch z
      have bn : M1 b ≠ none := by rw [b1]; exact fun z => nomatch z
      refine hN _ _ ⟨fun q => if (∃ p, l = some p ∧ (p ++ [i]) <+: q) then A1 q else A q, us ++ [.r c], y3, y4, rfl, ?_, mset_same, fun x hx => ?_, by rw [List.length_append, lu]; rfl, fun M'' hM => ?_⟩
      · rw [mset_ne ab, k2 a an]; exact a1
      · have : x ≠ b := fun z => hx (by rw [z]; exact hb)
        rw [mset_ne this, k2 x (by rw [k1 x hx]; exact hx)]
        exact k1 x hx
      · have e : liveKs l 0 (ks.take (i + 1)) = liveKs l 0 (ks.take i) ++ [liveT (kidL l i) kd] := by
          rw [List.take_add_one, hkd, live_app, List.length_take, Nat.min_eq_left (by omega), Nat.zero_add]
          rfl
        rw [e]
        refine ats_app ?_ (ats_one ?_)
        · refine liveKs_weak (A := A) (fun k hk2 => hk k (List.mem_of_mem_take hk2)) (fun p hp2 i2 hi3 r => ?_) (f1 M'' fun x g1 g2 g3 g4 => ?_)
          · rw [if_neg]
            rintro ⟨p', e1, e2⟩
            rw [hp2] at e1
            cases e1
            rw [List.append_assoc] at e2
            have := (List.prefix_append_right_inj p).mp e2
            rw [List.singleton_append, List.cons_prefix_cons] at this
            rw [List.length_take] at hi3
            omega
          · have m2 : M2 x = M1 x := k2 x g2
            rw [hM x g1 (by rw [mset_ne g4, m2]; exact g2) g3 g4, mset_ne g4, m2]
        · refine liveT_weak (A := A1) (hk kd hm) (fun p hp2 r => ?_) (f2 M'' fun x g1 g2 => ?_)
          · have : ∃ p', l = some p' ∧ (p' ++ [i]) <+: p ++ r := by
              cases l with
              | none => cases hp2
              | some p' =>
                cases hp2
                exact ⟨p', rfl, List.prefix_append _ _⟩
            rw [if_pos this]
          · have g3 : M x = none := by
              cases c2 : M x with
              | none => rfl
              | some o =>
                have := k1 x (by rw [c2]; exact fun z => nomatch z)
                rw [g1, c2] at this
                cases this
            have g4 : x ≠ a := fun z => an (by rw [← z]; exact g1)
            have g5 : x ≠ b := fun z => bn (by rw [← z]; exact g1)
            rw [hM x g3 (by rw [mset_ne g5]; exact g2) g4 g5, mset_ne g5]
    have bn : M1 b ≠ none := by rw [b1]; exact fun z => nomatch z
    cases l with
    | none =>
      decreasing_trivial_pre_omega
      refine ⟨kd, none, rfl, ⟨hk kd hm, by omega, fun p hp2 => by cases hp2⟩, fun A1 c M2 k2 f2 => ?_⟩
      have b2 : M2 b = some (.lst us) := by rw [k2 b bn]; exact b1
      decreasing_trivial_pre_omega
      exact step A1 c M2 _ ⟨_, _, rfl⟩ k2 f2
    | some p =>
      have path1 : PyData.tuple ((p.map fun n : Nat => PyData.int (n : Int)) ++ [.int (i : Int)]) = pathD (p ++ [i]) := path_cat ..
      have hpl := hp p rfl
      show ifS _ _ _ _ (put (put [some (.d (.tuple [.str s0, .tuple ks])), some (.d (pathD p)), some (.r a), y3, y4] 3 _) 4 _) M1
      unfold pathD
      decreasing_trivial_pre_omega
      rw [path1]
      refine ⟨kd, some (p ++ [i]), rfl, ⟨hk kd hm, by omega, fun p2 hp2 => ?_⟩, fun A1 c M2 k2 f2 => ?_⟩
      · cases hp2
        rw [List.length_append, List.length_singleton]
        omega
      have b2 : M2 b = some (.lst us) := by rw [k2 b bn]; exact b1
      decreasing_trivial_pre_omega
      exact step A1 c M2 _ ⟨_, _, rfl⟩ k2 f2
  · obtain ⟨A, us, y3, y4, rfl, a1, b1, k1, lu, f1⟩ := pv
    rw [List.length_map, List.take_length] at f1
    decreasing_trivial_pre_omega
    refine h3 (fun q => if l = some q then a else A q) a M1 k1 fun M'' hM => ?_
    rw [liveT_node, LT.at]
    refine ⟨a, b, us, rfl, fun p hp2 => ?_, ?_, ?_, ?_⟩
    · show a = if l = some p then a else A p
      rw [if_pos hp2]
    · rw [hM a ha (by rw [a1]; exact fun z => nomatch z)]; exact a1
    · rw [hM b hb (by rw [b1]; exact fun z => nomatch z)]; exact b1
    · refine liveKs_weak (A := A) hk (fun p hp2 i _ r => ?_) (f1 M'' fun x g1 g2 g3 g4 => hM x g1 g2)
      show (if l = some (p ++ [i] ++ r) then a else A (p ++ [i] ++ r)) = _
      rw [if_neg]
      intro z
      rw [hp2] at z
      have := congrArg List.length (Option.some.inj z)
      rw [List.length_append, List.length_append, List.length_singleton] at this
      omega
theorem ok_liveS {f : Addr} {fd : FuncData} (F : Fun K "_law_live" "_law_live" sLiveS f fd) (mF : mg "_law_live" = some (.ref f)) (T : Bl mg) : ∀ n, FnOk P w K mg base CX0 n f fd ["_law_tree_here", "_law_path"] (spD K 2 (tfLiveS n))
  | 0 => no0 fun ws M R RX ⟨_, _, _, ⟨ht, _⟩, _⟩ => ht
  | n + 1 => ok_liveS1 F ⟨f, fd, ok_liveS F mF T n, mF, F.kp, F.binds (ps := ["_law_tree_here", "_law_path"]) fun _ _ _ _ _ _ us hl => match us, hl with | [_, _], _ => rfl⟩ T
/-- a tree of lists told as data -/
@[reducible] def tfStillS (n : Nat) : TF := fun ws M R _ => ∃ (t : LT) (w : W), ws = [w] ∧ (t.at (fun _ _ => True) M w ∧ TrT n t.still ∧ nn t.still ≤ 200) ∧ R (.d t.still) M
abbrev sStillS : Stmt := top 54
theorem scStillS : FnScope ["_law_live_here", "_law_kid"] ["_law_live_here"] (defScope sStillS) := ⟨rfl, rfl, rfl, by decide +kernel, rfl, by decide +kernel, by decide +kernel⟩
theorem ok_stillS1 {f : Addr} {fd : FuncData} {n : Nat} (F : Fun K "_law_still" "_law_still" sStillS f fd) (U_law_still : Use P w K mg base "_law_still" ["_law_live_here"] n (spD K 1 (tfStillS n))) (T : Bl mg) : FnOk P w K mg base CX0 (n + 1) f fd ["_law_live_here"] (spD K 1 (tfStillS (n + 1))) := by
  refine okD F scStillS rfl fun cdv A outer s H E hr => ?_
  refine ⟨_, _, (pss_one (ps_ret (pe_tup (pa_cons (pe_ix ix_list (pv 0) pe_int (fun _ _ => rfl)) (pa_cons (pe_callTy call_tuple_of (by rfl) T.tuple PyProof.Rows.boot_tuple (pa_cons (pe_lc (own := [("_law_kid", 1)]) (g := gName 1) (tt := tYes) (by rfl) scStillS.nd (pi_list (pe_ix ix_list (pv 0) pe_int (fun _ _ => rfl))) (blkOk_by (N := ["_law_live_here", "_law_kid"]) (sc := defScope sStillS) (own := [("_law_kid", 1)]) (by decide +kernel)) (fun _ _ _ _ _ => pg_name (i := 1) scStillS.nd rfl (Or.inl rfl)) (fun _ _ _ _ _ => pts_nil) (fun _ _ _ _ _ => (pe_call U_law_still.ok (hr.mono (by omega)) rfl U_law_still.m U_law_still.kp U_law_still.b .nil pass0 (pa_cons (pv 1) pa_nil)))) pa_nil)) pa_nil))))),
    (ss_ret (se_tup (sa_cons (se_op so_ixL se_nm se_int) (sa_cons (se_cb sc_tuple (sa_cons (se_lcF (si_lst (se_op so_ixL se_nm se_int)) sg_name st_yes (se_call (sa_cons se_nm sa_nil))) sa_nil)) sa_nil)))), fun ws M R RX hl h => ?_⟩
  obtain ⟨t, w0, rfl, ⟨ha, ht, hn⟩, h3⟩ := h
  obtain ⟨l, tg, ks⟩ := t
  rw [LT.at] at ha
  obtain ⟨a, b, ws, rfl, _, hA, hB, hw⟩ := ha
  rw [LT.still, stills_map] at ht hn h3
  obtain ⟨s0, ks0, e1, _, hk⟩ := ht
  simp only [PyData.tuple.injEq, List.cons.injEq, PyData.str.injEq, and_true] at e1
  obtain ⟨rfl, rfl⟩ := e1
  rw [nn] at hn
  have hl1 := len_nn (ks.map LT.still)
  have lw := ats_len hw
  rw [List.length_map] at hl1
  obtain ⟨zs, rfl, rfl, hz⟩ := ats_zip hw
  rw [List.length_map] at hl1
  simp only [start0, len_c, len_n, map_c, map_n, app_c, app_n, rep_0, rep_s, Nat.reduceAdd, Nat.reduceSub]
  decreasing_trivial_pre_omega
  refine lc1 (keep := fun M => M b = some (.lst (zs.map (·.2)))) (xs := zs) (f := fun z => z.2) (fun z => .d z.1.still) hB (fun z hm Rk q => ?_) (sz1000 (by omega)) ?_
  · have h4 : z.1.still ∈ (zs.map (·.1)).map LT.still := List.mem_map_of_mem (List.mem_map_of_mem hm)
    have := nn_mem h4
    decreasing_trivial_pre_omega
    exact ⟨z.1, z.2, rfl, ⟨hz z hm, hk _ h4, by omega⟩, q⟩
  · rw [show (zs.map fun z => W.d z.1.still) = ((zs.map (·.1)).map LT.still).map W.d by rw [List.map_map, List.map_map]; rfl, gDs_map]
    decreasing_trivial_pre_omega
    exact h3
theorem ok_stillS {f : Addr} {fd : FuncData} (F : Fun K "_law_still" "_law_still" sStillS f fd) (mF : mg "_law_still" = some (.ref f)) (T : Bl mg) : ∀ n, FnOk P w K mg base CX0 n f fd ["_law_live_here"] (spD K 1 (tfStillS n))
  | 0 => no0 fun ws M R RX ⟨_, _, _, ⟨_, h, _⟩, _⟩ => h
  | n + 1 => ok_stillS1 F ⟨f, fd, ok_stillS F mF T n, mF, F.kp, F.binds (ps := ["_law_live_here"]) fun _ _ _ _ _ _ us hl => match us, hl with | [_], _ => rfl⟩ T
/-- the paths of what is out -/
@[reducible] def outsD (es : List Edt) : List PyData := (es.filter Edt.isOut).map fun e => pathD e.q
@[reducible] def tfWoS (n : Nat) : TF := fun ws M R _ => ∃ (t : LT) (w : W) (es : List Edt), ws = [w, .d (.list (outsD es))] ∧ (t.at (fun _ _ => True) M w ∧ TrT n t.still ∧ nn t.still ≤ 200 ∧ es.length ≤ 100) ∧ ∀ (a : Addr) (M' : Mem), (∀ x, M x ≠ none → M' x = M x) → (∀ M'' : Mem, (∀ x, M x = none → M' x ≠ none → M'' x = M' x) → (t.wo es).at (fun _ _ => True) M'' (.r a)) → R (.r a) M'
theorem outs_any (es : List Edt) (l : Option (List Nat)) : ((outsD es).any fun z => PyData.eqv z (labD l)) = isOutL es l := by
  have ev : ∀ q, PyData.eqv (pathD q) (labD l) = decide (l = some q) := fun q => by
    cases l with
    | none =>
      rw [decide_eq_false (fun z => by cases z)]
      unfold labD pathD
      rw [PyData.eqv]
      all_goals (intros; contradiction)
    | some p =>
      show PyData.eqv (pathD q) (pathD p) = _
      rw [eqv_path]
      exact decide_eq_decide.mpr ⟨fun h => by rw [h], fun h => (Option.some.inj h).symm⟩
  unfold outsD isOutL
  induction es with
  | nil => cases l <;> rfl
  | cons e es ih =>
    cases e with
    | out q =>
      rw [List.filter_cons_of_pos rfl, List.map_cons, List.any_cons, ih]
      show (PyData.eqv (pathD q) (labD l) || _) = _
      rw [ev]
      cases l with
      | none => rfl
      | some p =>
        show (decide (some p = some q) || outE es p) = outE (.out q :: es) p
        unfold outE
        rw [List.any_cons]
        congr 1
        exact decide_eq_decide.mpr ⟨fun h => (Option.some.inj h).symm, fun h => by rw [h]⟩
    | name q t =>
      rw [List.filter_cons_of_neg (by simp [Edt.isOut])]
      rw [ih]
      cases l <;> rfl
    | put q n ts =>
      rw [List.filter_cons_of_neg (by simp [Edt.isOut])]
      rw [ih]
      cases l <;> rfl
theorem eqOk_pathsL (es : List Edt) : eqOk (.list (outsD es)) = true := by
  unfold outsD
  rw [show ((es.filter Edt.isOut).map fun e => pathD e.q) = ((es.filter Edt.isOut).map Edt.q).map pathD by rw [List.map_map]; rfl]
  exact eqOk_paths _
abbrev sWoS : Stmt := top 56
theorem scWoS : FnScope ["_law_live_here", "_law_outs", "_law_kid"] ["_law_live_here", "_law_outs"] (defScope sWoS) := ⟨rfl, rfl, rfl, by decide +kernel, rfl, by decide +kernel, by decide +kernel⟩
theorem ok_woS1 {f : Addr} {fd : FuncData} {n : Nat} (F : Fun K "_law_without" "_law_without" sWoS f fd) (U_law_without : Use P w K mg base "_law_without" ["_law_live_here", "_law_outs"] n (spD K 2 (tfWoS n))) (T : Bl mg) : FnOk P w K mg base CX0 (n + 1) f fd ["_law_live_here", "_law_outs"] (spD K 2 (tfWoS (n + 1))) := by
  refine okD F scWoS rfl fun cdv A outer s H E hr => ?_
  refine ⟨_, _, (pss_one (ps_ret (pe_lst (pa_cons (pe_ix ix_list (pv 0) pe_int (fun _ _ => rfl)) (pa_cons (pe_ix ix_list (pv 0) pe_int (fun _ _ => rfl)) (pa_cons (pe_lc (own := [("_law_kid", 2)]) (g := gName 2) (by rfl) scWoS.nd (pi_list (pe_ix ix_list (pv 0) pe_int (fun _ _ => rfl))) (blkOk_by (N := ["_law_live_here", "_law_outs", "_law_kid"]) (sc := defScope sWoS) (own := [("_law_kid", 2)]) (by decide +kernel)) (fun _ _ _ _ _ => pg_name (i := 2) scWoS.nd rfl (Or.inl rfl)) (fun _ _ _ _ _ => (pts_one (pt_cmpR (op_notInD (room65 hr)) (pe_ix ix_list (pv 2) pe_int (fun _ _ => rfl)) (pv 1) (by rfl)))) (fun _ _ _ _ _ => (pe_call U_law_without.ok (hr.mono (by omega)) rfl U_law_without.m U_law_without.kp U_law_without.b .nil pass0 (pa_cons (pv 2) (pa_cons (pv 1) pa_nil))))) pa_nil)))))),
    (ss_ret (se_lst (sa_cons (se_op so_ixL se_nm se_int) (sa_cons (se_op so_ixL se_nm se_int) (sa_cons (se_lcL (si_lst (se_op so_ixL se_nm se_int)) sg_name (st_test (se_op so_notInD (se_op so_ixL se_nm se_int) se_nm)) (se_call (sa_cons se_nm (sa_cons se_nm sa_nil)))) sa_nil))))), fun ws M R RX hl h => ?_⟩
  obtain ⟨t, w0, es, rfl, ⟨ha, ht, hn, hl1⟩, h3⟩ := h
  obtain ⟨l, tg, ks⟩ := t
  rw [LT.at] at ha
  obtain ⟨a, b, ws, rfl, _, hA, hB, hw⟩ := ha
  rw [LT.still, stills_map] at ht hn
  obtain ⟨s0, ks0, e1, _, hk⟩ := ht
  simp only [PyData.tuple.injEq, List.cons.injEq, PyData.str.injEq, and_true] at e1
  obtain ⟨rfl, rfl⟩ := e1
  rw [nn] at hn
  have hl2 := len_nn (ks.map LT.still)
  rw [List.length_map] at hl2
  obtain ⟨zs, rfl, rfl, hz⟩ := ats_zip hw
  rw [List.length_map] at hl2
  simp only [start0, len_c, len_n, map_c, map_n, app_c, app_n, rep_0, rep_s, Nat.reduceAdd, Nat.reduceSub]
  decreasing_trivial_pre_omega
  refine lc_inv (keep := fun M => M b = some (.lst (zs.map (·.2)))) (f := fun z : LT × W => z.2) (M := M) (fun i acc M1 => (∀ x, M x ≠ none → M1 x = M x) ∧ acc.length ≤ i ∧ ∀ M'' : Mem, (∀ x, M x = none → M1 x ≠ none → M'' x = M1 x) → LT.ats (fun _ _ => True) M'' (LT.wos es ((zs.take i).map (·.1))) acc) (xs := zs)
    ⟨fun x _ => rfl, Nat.le_refl _, fun M'' _ => by rw [List.take_zero, List.map_nil, LT.wos]; exact ats_nil⟩ (fun i acc M1 h => ⟨by rw [h.1 b (by rw [hB]; exact fun z => nomatch z)]; exact hB, h.2.1⟩) (sz1000 (by omega)) (fun i z acc M1 Rk Rn hi hI q1 q2 => ?_) (fun acc M1 hI => ?_)
  · obtain ⟨k1, la, f1⟩ := hI
    have hm := List.mem_of_getElem? hi
    have hm2 : z.1 ∈ zs.map (·.1) := List.mem_map_of_mem hm
    have h4 : z.1.still ∈ (zs.map (·.1)).map LT.still := List.mem_map_of_mem hm2
    have hnk := nn_mem h4
    have az := hz z hm
    obtain ⟨⟨lz, tz, kz⟩, wz⟩ := z
    have az2 := az
    dsimp only at az2 hnk h4
    rw [LT.at] at az2
    obtain ⟨az1, bz, wsz, rfl, _, hz1, hz2, hz3⟩ := az2
    have hz4 : M1 az1 = some (.lst [.d (labD lz), .d (.str tz), .r bz]) := by rw [k1 az1 (by rw [hz1]; exact fun z => nomatch z)]; exact hz1
    have ez : LT.wos es ((zs.take (i + 1)).map (·.1)) = LT.wos es ((zs.take i).map (·.1)) ++ LT.wos es [.node lz tz kz] := by
      rw [List.take_add_one, hi, List.map_append, wos_app]
      rfl
    decreasing_trivial_pre_omega
    refine ⟨⟨eqOk_lab lz, eqOk_pathsL es⟩, ?_⟩
    rw [outs_any]
    cases co : isOutL es lz
    · refine IfB.t rfl ?_
      decreasing_trivial_pre_omega
      refine ⟨.node lz tz kz, .r az1, es, rfl, ⟨at_mono (fun b o h => by rw [k1 b (by rw [h]; exact fun z => nomatch z)]; exact h) az, hk _ h4, by omega, hl1⟩, fun c M2 k2 f2 => ?_⟩
      refine q1 (.r c) M2 ⟨fun x hx => by rw [k2 x (by rw [k1 x hx]; exact hx)]; exact k1 x hx, by rw [List.length_append, List.length_singleton]; omega, fun M'' hM => ?_⟩
      have e0 : LT.wos es [.node lz tz kz] = [(LT.node lz tz kz).wo es] := by
        rw [LT.wos, show (LT.node lz tz kz).lab = lz from rfl, co, if_neg (by decide), LT.wos]
      rw [ez, e0]
      refine ats_app (f1 M'' fun x g1 g2 => ?_) (ats_one (f2 M'' fun x g1 g2 => ?_))
      · have m2 : M2 x = M1 x := k2 x g2
        rw [hM x g1 (by rw [m2]; exact g2), m2]
      · refine hM x ?_ g2
        cases c2 : M x with
        | none => rfl
        | some o =>
          have := k1 x (by rw [c2]; exact fun z => nomatch z)
          rw [g1, c2] at this
          cases this
    · refine IfB.f rfl ?_
      refine q2 M1 ⟨k1, by omega, fun M'' hM => ?_⟩
      have e0 : LT.wos es [.node lz tz kz] = [] := by
        rw [LT.wos, show (LT.node lz tz kz).lab = lz from rfl, co, if_pos rfl, LT.wos]
      rw [ez, e0, List.append_nil]
      exact f1 M'' hM
  · obtain ⟨k1, la, f1⟩ := hI
    intro p hp
    decreasing_trivial_pre_omega
    intro a2 ha2
    have n2 : a2 ≠ p := fun z => by rw [z, mset_same] at ha2; cases ha2
    rw [mset_ne n2] at ha2
    have new : ∀ x, M1 x = none → M x = none := fun x hx => by
      cases c2 : M x with
      | none => rfl
      | some o =>
        have := k1 x (by rw [c2]; exact fun z => nomatch z)
        rw [hx, c2] at this
        cases this
    refine h3 a2 _ (fun x hx => ?_) fun M'' hM => ?_
    · rw [mset_ne (fun z => hx (by rw [z]; exact new _ ha2)), mset_ne (fun z => hx (by rw [z]; exact new _ hp))]
      exact k1 x hx
    · rw [LT.wo, LT.at]
      refine ⟨a2, p, acc, rfl, fun _ _ => trivial, ?_, ?_, ?_⟩
      · rw [hM a2 (new _ ha2) (by rw [mset_same]; exact fun z => nomatch z), mset_same]
      · rw [hM p (new _ hp) (by rw [mset_ne n2.symm, mset_same]; exact fun z => nomatch z), mset_ne n2.symm, mset_same]
      · have f2 := f1 M'' fun x g1 g2 => by
          have x1 : x ≠ a2 := fun z => g2 (by rw [z]; exact ha2)
          have x2 : x ≠ p := fun z => g2 (by rw [z]; exact hp)
          rw [hM x g1 (by rw [mset_ne x1, mset_ne x2]; exact g2), mset_ne x1, mset_ne x2]
        rw [List.take_length] at f2
        exact f2
theorem ok_woS {f : Addr} {fd : FuncData} (F : Fun K "_law_without" "_law_without" sWoS f fd) (mF : mg "_law_without" = some (.ref f)) (T : Bl mg) : ∀ n, FnOk P w K mg base CX0 n f fd ["_law_live_here", "_law_outs"] (spD K 2 (tfWoS n))
  | 0 => no0 fun ws M R RX ⟨_, _, _, _, ⟨_, h, _⟩, _⟩ => h
  | n + 1 => ok_woS1 F ⟨f, fd, ok_woS F mF T n, mF, F.kp, F.binds (ps := ["_law_live_here", "_law_outs"]) fun _ _ _ _ _ _ us hl => match us, hl with | [_, _], _ => rfl⟩ T
/-- where labels stand, as pairs -/
@[reducible] def whrD (x : List Nat × List Nat) : PyData := .tuple [pathD x.1, pathD x.2]
@[reducible] def tfWhr (n : Nat) : TF := fun ws M R _ => ∃ (t : LT) (w : W) (b : List Nat), ws = [w, .d (pathD b)] ∧ (t.at (fun _ _ => True) M w ∧ TrT n t.still ∧ nn t.still ≤ 200 ∧ b.length + n ≤ 100 ∧ (t.whr b).length ≤ 400) ∧ R (.d (.list ((t.whr b).map whrD))) M
theorem whr_node (l : Option (List Nat)) (t : Str) (ks : List LT) (b : List Nat) : (LT.node l t ks).whr b = (match l with | none => [] | some p => [(p, b)] : List (List Nat × List Nat)) ++ LT.whrs b 0 ks := by cases l <;> rw [LT.whr]
theorem whrs_cat (b : List Nat) : ∀ (i : Nat) (x : List LT) (k : LT), LT.whrs b i (x ++ [k]) = LT.whrs b i x ++ k.whr (b ++ [i + x.length]) := fun i x k => by
  rw [whrs_app, LT.whrs, LT.whrs, List.append_nil]
abbrev sWhr : Stmt := top 57
theorem scWhr : FnScope ["_law_live_here", "_law_path", "_law_found", "_law_at", "_law_kid"] ["_law_live_here", "_law_path"] (defScope sWhr) := ⟨rfl, rfl, rfl, by decide +kernel, rfl, by decide +kernel, by decide +kernel⟩
theorem ok_whr1 {f : Addr} {fd : FuncData} {n : Nat} (F : Fun K "_law_where" "_law_where" sWhr f fd) (U_law_where : Use P w K mg base "_law_where" ["_law_live_here", "_law_path"] n (spD K 2 (tfWhr n))) (T : Bl mg) : FnOk P w K mg base CX0 (n + 1) f fd ["_law_live_here", "_law_path"] (spD K 2 (tfWhr (n + 1))) := by
  refine okD F scWhr rfl fun cdv A outer s H E hr => ?_
  refine ⟨_, _, (pss_cons (ps_set (i := 2) scWhr.nd rfl (.inl rfl) (pe_lst pa_nil))
    (pss_cons (ps_if (pt_cmpR op_notN (pe_ix ix_list (pv 0) pe_int (fun _ _ => rfl)) pe_non (nomark _)) (pss_one (ps_set (i := 2) scWhr.nd rfl (.inl rfl) (pe_lst (pa_cons (pe_tup (pa_cons (pe_ix ix_list (pv 0) pe_int (fun _ _ => rfl)) (pa_cons (pv 1) pa_nil))) pa_nil)))) pss_nil)
    (pss_cons (ps_for PassesOwn.never rfl (pi_enum (by rfl) T.enum (pa_cons (pe_ix ix_list (pv 0) pe_int (fun _ _ => rfl)) pa_nil)) (pg_tup rfl (pgs_cons (pg_name (i := 3) scWhr.nd rfl (.inl rfl)) (pgs_cons (pg_name (i := 4) scWhr.nd rfl (.inl rfl)) pgs_nil))) (pss_one (ps_set (i := 2) scWhr.nd rfl (.inl rfl) (pe_op op_cat (pv 2) (pe_call U_law_where.ok (hr.mono (by omega)) rfl U_law_where.m U_law_where.kp U_law_where.b .nil pass0 (pa_cons (pv 4) (pa_cons (pe_op op_catA (pv 1) (pe_tup (pa_cons (pv 3) pa_nil))) pa_nil)))))))
    (pss_one (ps_ret (pv 2)))))),
    (ss_cons (ss_set (se_lsf sa_nil))
    (ss_cons (ss_if (st_test (se_op so_notN (se_op so_ixL se_nm se_int) se_non)) (ss_set (se_lsf (sa_cons (se_tup (sa_cons (se_op so_ixL se_nm se_int) (sa_cons se_nm sa_nil))) sa_nil))) ss_nil)
    (ss_cons (ss_for (si_enL (sa_cons (se_op so_ixL se_nm se_int) sa_nil)) sg_pair (ss_set (se_op so_catF se_nm (se_call (sa_cons se_nm (sa_cons (se_op so_catT se_nm (se_tup (sa_cons se_nm sa_nil))) sa_nil))))))
    (ss_ret se_nm)))), fun ws M R RX hl h => ?_⟩
  obtain ⟨t, w0, bb, rfl, ⟨ha, ht, hn, hbl, hwl⟩, h3⟩ := h
  obtain ⟨l, tg, ks⟩ := t
  rw [LT.at] at ha
  obtain ⟨a, b, ws, rfl, _, hA, hB, hw⟩ := ha
  rw [LT.still, stills_map] at ht hn
  obtain ⟨s0, ks0, e1, _, hk⟩ := ht
  simp only [PyData.tuple.injEq, List.cons.injEq, PyData.str.injEq, and_true] at e1
  obtain ⟨rfl, rfl⟩ := e1
  rw [nn] at hn
  have hl2 := len_nn (ks.map LT.still)
  rw [List.length_map] at hl2
  obtain ⟨zs, rfl, rfl, hz⟩ := ats_zip hw
  rw [List.length_map] at hl2
  have hN0 : isN (W.d (labD l)) = some l.isNone := by cases l <;> rfl
  have hB2 : ∀ i, LT.whrs bb 0 ((zs.take i).map (·.1)) <+: LT.whrs bb 0 (zs.map (·.1)) := fun i => by
    conv => rhs; rw [← List.take_append_drop i zs, List.map_append, whrs_app]
    exact List.prefix_append _ _
  simp only [start0, len_c, len_n, map_c, map_n, app_c, app_n, rep_0, rep_s, Nat.reduceAdd, Nat.reduceSub]
  decreasing_trivial_pre_omega
  rw [whr_node] at h3 hwl
  obtain ⟨pre, hpre⟩ : ∃ pre, pre = (match l with | none => [] | some p => [(p, bb)] : List (List Nat × List Nat)) := ⟨_, rfl⟩
  rw [← hpre] at h3 hwl
  have lpre : pre.length ≤ 1 := by rw [hpre]; cases l <;> simp
  rw [List.length_append] at hwl
  cases l with
  | none =>
    refine IfB.t rfl ?_
    have path1 : ∀ i : Nat, PyData.tuple ((bb.map fun n : Nat => PyData.int (n : Int)) ++ [.int (i : Int)]) = pathD (bb ++ [i]) := fun i => path_cat ..
    decreasing_trivial_pre_omega
    refine forE (fun i ρ M' => M' = M ∧ ∃ y3 y4 : Option W, ρ = [some (W.r a), some (W.d (pathD bb)), some (.d (.list ((pre ++ LT.whrs bb 0 ((zs.take i).map (·.1))).map whrD))), y3, y4])
      ⟨rfl, none, none, by rw [List.take_zero, List.map_nil, LT.whrs, List.append_nil, hpre]; rfl⟩ (fun i ρ M' _ pv => by rw [pv.1]; exact hB) (fun i kid ρ M' N hi pv hN => ?_) (fun ρ M' pv => ?_)
    · obtain ⟨rfl, y3, y4, rfl⟩ := pv
      rw [List.getElem?_map] at hi
      obtain ⟨z, hzi, rfl⟩ := Option.map_eq_some_iff.mp hi
      have hm := List.mem_of_getElem? hzi
      have hm2 : z.1 ∈ zs.map (·.1) := List.mem_map_of_mem hm
      have h4 : z.1.still ∈ (zs.map (·.1)).map LT.still := List.mem_map_of_mem hm2
      have hnk := nn_mem h4
      have hi2 := (List.getElem?_eq_some_iff.mp hzi).1
      have ez : LT.whrs bb 0 ((zs.take (i + 1)).map (·.1)) = LT.whrs bb 0 ((zs.take i).map (·.1)) ++ z.1.whr (bb ++ [i]) := by
        rw [List.take_add_one, hzi, List.map_append]
        show LT.whrs bb 0 ((zs.take i).map (·.1) ++ [z.1]) = _
        rw [whrs_cat, List.length_map, List.length_take, Nat.min_eq_left (by omega), Nat.zero_add]
      have l9 := (hB2 (i + 1)).length_le
      rw [ez, List.length_append] at l9
      unfold pathD
      decreasing_trivial_pre_omega
      rw [path1]
      refine ⟨z.1, z.2, bb ++ [i], rfl, ⟨hz z hm, hk _ h4, by omega, by rw [List.length_append, List.length_singleton]; omega, by omega⟩, ?_⟩
      decreasing_trivial_pre_omega
      refine ⟨sz1000 (by rw [List.length_map, List.length_map, List.length_append]; omega), ?_⟩
      refine hN _ _ ⟨rfl, some (.d (.int (i : Int))), some z.2, ?_⟩
      rw [ez, ← List.append_assoc, List.map_append (l₂ := z.1.whr (bb ++ [i]))]
      rfl
    · obtain ⟨rfl, y3, y4, rfl⟩ := pv
      rw [List.length_map, List.take_length]
      decreasing_trivial_pre_omega
      exact h3
  | some p =>
    refine IfB.f rfl ?_
    have path1 : ∀ i : Nat, PyData.tuple ((bb.map fun n : Nat => PyData.int (n : Int)) ++ [.int (i : Int)]) = pathD (bb ++ [i]) := fun i => path_cat ..
    decreasing_trivial_pre_omega
    refine forE (fun i ρ M' => M' = M ∧ ∃ y3 y4 : Option W, ρ = [some (W.r a), some (W.d (pathD bb)), some (.d (.list ((pre ++ LT.whrs bb 0 ((zs.take i).map (·.1))).map whrD))), y3, y4])
      ⟨rfl, none, none, by rw [List.take_zero, List.map_nil, LT.whrs, List.append_nil, hpre]; rfl⟩ (fun i ρ M' _ pv => by rw [pv.1]; exact hB) (fun i kid ρ M' N hi pv hN => ?_) (fun ρ M' pv => ?_)
    · obtain ⟨rfl, y3, y4, rfl⟩ := pv
      rw [List.getElem?_map] at hi
      obtain ⟨z, hzi, rfl⟩ := Option.map_eq_some_iff.mp hi
      have hm := List.mem_of_getElem? hzi
      have hm2 : z.1 ∈ zs.map (·.1) := List.mem_map_of_mem hm
      have h4 : z.1.still ∈ (zs.map (·.1)).map LT.still := List.mem_map_of_mem hm2
      have hnk := nn_mem h4
      have hi2 := (List.getElem?_eq_some_iff.mp hzi).1
      have ez : LT.whrs bb 0 ((zs.take (i + 1)).map (·.1)) = LT.whrs bb 0 ((zs.take i).map (·.1)) ++ z.1.whr (bb ++ [i]) := by
        rw [List.take_add_one, hzi, List.map_append]
        show LT.whrs bb 0 ((zs.take i).map (·.1) ++ [z.1]) = _
        rw [whrs_cat, List.length_map, List.length_take, Nat.min_eq_left (by omega), Nat.zero_add]
      have l9 := (hB2 (i + 1)).length_le
      rw [ez, List.length_append] at l9
      unfold pathD
      decreasing_trivial_pre_omega
      rw [path1]
      refine ⟨z.1, z.2, bb ++ [i], rfl, ⟨hz z hm, hk _ h4, by omega, by rw [List.length_append, List.length_singleton]; omega, by omega⟩, ?_⟩
      decreasing_trivial_pre_omega
      refine ⟨sz1000 (by rw [List.length_map, List.length_map, List.length_append]; omega), ?_⟩
      refine hN _ _ ⟨rfl, some (.d (.int (i : Int))), some z.2, ?_⟩
      rw [ez, ← List.append_assoc, List.map_append (l₂ := z.1.whr (bb ++ [i]))]
      rfl
    · obtain ⟨rfl, y3, y4, rfl⟩ := pv
      rw [List.length_map, List.take_length]
      decreasing_trivial_pre_omega
      exact h3
theorem ok_whr {f : Addr} {fd : FuncData} (F : Fun K "_law_where" "_law_where" sWhr f fd) (mF : mg "_law_where" = some (.ref f)) (T : Bl mg) : ∀ n, FnOk P w K mg base CX0 n f fd ["_law_live_here", "_law_path"] (spD K 2 (tfWhr n))
  | 0 => no0 fun ws M R RX ⟨_, _, _, _, ⟨_, h, _⟩, _⟩ => h
  | n + 1 => ok_whr1 F ⟨f, fd, ok_whr F mF T n, mF, F.kp, F.binds (ps := ["_law_live_here", "_law_path"]) fun _ _ _ _ _ _ us hl => match us, hl with | [_, _], _ => rfl⟩ T
end
end Tl
set_option Elab.async false
set_option linter.all false
set_option maxRecDepth 100000
set_option maxHeartbeats 4000000
/-! An edit more; the first place of a row with a label. -/
namespace Tl
open PySem L2
theorem nm_cons (e : Edt) (es : List Edt) (p : List Nat) : nmE (e :: es) p = (nmE es p).or (match e with | .name q t => if q = p then some t else none | _ => none) := by
  unfold nmE
  (rw [List.reverse_cons, List.findSome?_append, List.findSome?_singleton]) <;> (cases e <;> rfl)
theorem pt_cons (e : Edt) (es : List Edt) (p : List Nat) (n : Nat) : ptE (e :: es) p n = (ptE es p n).or (match e with | .put q m ts => if q = p ∧ m = n then some ts else none | _ => none) := by
  unfold ptE
  (rw [List.reverse_cons, List.findSome?_append, List.findSome?_singleton]) <;> (cases e <;> rfl)
/-- no two of one key -/
def UniqE (es : List Edt) : Prop := es.Pairwise fun a b => ¬ (a.q = b.q ∧ a.w = b.w ∧ a.n = b.n)
theorem nm_none {q : List Nat} {t : Str} {es : List Edt} (h : UniqE (.name q t :: es)) : nmE es q = none := by
  unfold nmE
  rw [List.findSome?_eq_none_iff]
  intro e he
  have := (List.pairwise_cons.mp h).1 e (List.mem_reverse.mp he)
  cases e with
  | name q2 t2 =>
    dsimp only
    rw [if_neg]
    intro z
    exact this ⟨z.symm, rfl, rfl⟩
  | _ => rfl
theorem pt_none {q : List Nat} {n : Nat} {ts : List PyData} {es : List Edt} (h : UniqE (.put q n ts :: es)) : ptE es q n = none := by
  unfold ptE
  rw [List.findSome?_eq_none_iff]
  intro e he
  have := (List.pairwise_cons.mp h).1 e (List.mem_reverse.mp he)
  cases e with
  | put q2 n2 t2 =>
    dsimp only
    rw [if_neg]
    rintro ⟨z1, z2⟩
    exact this ⟨z1.symm, rfl, z2.symm⟩
  | _ => rfl
theorem same_name {q : List Nat} {t : Str} {es : List Edt} : SameBut es (.name q t :: es) q := fun p hp => by
  refine ⟨?_, fun i => ?_⟩
  · rw [nm_cons]
    dsimp only
    rw [if_neg (fun z => hp z.symm), Option.or_none]
  · rw [pt_cons]
    dsimp only
    rw [Option.or_none]
theorem same_put {q : List Nat} {n : Nat} {ts : List PyData} {es : List Edt} : SameBut es (.put q n ts :: es) q := fun p hp => by
  refine ⟨?_, fun i => ?_⟩
  · rw [nm_cons]
    dsimp only
    rw [Option.or_none]
  · rw [pt_cons]
    dsimp only
    rw [if_neg (fun z => hp z.1.symm), Option.or_none]
mutual
theorem labd_out {q : List Nat} {es : List Edt} : ∀ {n : Nat} {d : PyData} (p : List Nat), TrT n d → labd (.out q :: es) p d = labd es p d
  | 0, _, _, t => t.elim
  | n + 1, d, p, t => by
    obtain ⟨s, ks, rfl, _, hk⟩ := t
    rw [labd, labd, labdR_out p 0 hk, nm_cons]
    dsimp only
    rw [Option.or_none]
theorem labdR_out {q : List Nat} {es : List Edt} : ∀ {n : Nat} {ks : List PyData} (p : List Nat) (j : Nat), (∀ k ∈ ks, TrT n k) → labdR (.out q :: es) p j ks = labdR es p j ks
  | _, [], p, j, _ => by
    rw [labdR, labdR, ptL, ptL, pt_cons]
    dsimp only
    rw [Option.or_none]
  | n, k :: ks, p, j, t => by
    rw [labdR, labdR, ptL, ptL, pt_cons, labd_out _ (t k (.head _)), labdR_out p (j + 1) fun z hz => t z (.tail _ hz)]
    dsimp only
    rw [Option.or_none]
end
theorem filter_first {α : Type} (P : α → Bool) : ∀ {a : List α} {k : α} {b : List α}, (∀ z ∈ a, P z = false) → P k = true → (a ++ k :: b).filter P = k :: b.filter P
  | [], k, b, _, h => by rw [List.nil_append, List.filter_cons_of_pos h]
  | z :: a, k, b, h1, h => by
    rw [List.cons_append, List.filter_cons_of_neg (by rw [h1 z (.head _)]; decide), filter_first P (fun y hy => h1 y (.tail _ hy)) h]
/-- the first with that label -/
theorem first_kid {M : Mem} {A : List Nat → Addr} {m n : Nat} {es : List Edt} (hp : PtOk m es) {p : List Nat} {ks : List PyData} (hk : ∀ k ∈ ks, TrT n k) {i : Nat} {k : PyData} (hi : ks[i]? = some k) {zs : List (LT × W)} (e : labdR es p 0 ks = zs.map (·.1)) (hz : ∀ z ∈ zs, z.1.at (fun q a => a = A q) M z.2) :
    ∃ rest, (zs.filter fun z => decide (z.1.lab = some (p ++ [i]))).map (·.2) = .r (A (p ++ [i])) :: rest := by
  have hi2 := (List.getElem?_eq_some_iff.mp hi).1
  obtain ⟨pre, rest, e1, e2, e3, _⟩ := row_part hp (p := p) (j := 0) (i := i) hk (by omega)
  rw [Nat.zero_add] at e1 e2 e3
  obtain ⟨r, rfl⟩ := e3 k hi
  rw [e1, ← List.append_assoc] at e
  obtain ⟨z1, z2, rfl, h1, h2⟩ := List.map_eq_append_iff.mp e.symm
  obtain ⟨zk, z3, rfl, h3, h4⟩ := List.map_eq_cons_iff.mp h2
  refine ⟨(z3.filter fun z => decide (z.1.lab = some (p ++ [i]))).map (·.2), ?_⟩
  rw [filter_first _ (fun z hz2 => ?_) (by rw [h3, labd_lab]; exact decide_eq_true rfl), List.map_cons]
  · congr 1
    have := hz zk (List.mem_append_right _ (.head _))
    rw [h3] at this
    obtain ⟨s, ks2, rfl, _⟩ : ∃ s ks2, k = .tuple [.str s, .tuple ks2] ∧ True := by
      have := hk k (List.mem_of_getElem? hi)
      cases n with
      | zero => exact this.elim
      | succ n => obtain ⟨s, ks2, e, _⟩ := this; exact ⟨s, ks2, e, trivial⟩
    exact (labd_root.mp this).1
  · refine decide_eq_false fun e9 => ?_
    have hm : z.1 ∈ pre ++ bares (ptL es p i) := by rw [← h1]; exact List.mem_map_of_mem hz2
    rcases List.mem_append.mp hm with hm | hm
    · exact e2 _ hm e9
    · rw [bares_map] at hm
      obtain ⟨y, _, hy⟩ := List.mem_map.mp hm
      rw [← hy, bare_lab] at e9
      cases e9
/-- the first number with that label, or how many there are -/
theorem first_ix {m n : Nat} {es : List Edt} (hp : PtOk m es) {p : List Nat} {ks : List PyData} (hk : ∀ k ∈ ks, TrT n k) {i : Nat} (hi : i ≤ ks.length) (h0 : ptE es p i = none) {zs : List (LT × W)} (e : labdR es p 0 ks = zs.map (·.1)) (L : Nat → Bool) (hL : ∀ (j : Nat) z, zs[j]? = some z → L j = decide (z.1.lab = some (p ++ [i]))) :
    ∃ pre post rest, labdR es p 0 ks = pre ++ post ∧ ((List.range zs.length).filter L) ++ [zs.length] = pre.length :: rest ∧ pre.length ≤ zs.length ∧ (∀ k ∈ pre, k.lab ≠ some (p ++ [i])) ∧ (∀ k, ks[i]? = some k → ∃ r, post = labd es (p ++ [i]) k :: r) ∧ (i = ks.length → post = []) := by
  obtain ⟨pre, post, e1, e2, e3, e4⟩ := row_part hp (p := p) (j := 0) (i := i) hk hi
  rw [Nat.zero_add] at e1 e2 e3
  rw [ptL, h0] at e1
  have e1' : labdR es p 0 ks = pre ++ post := by rw [e1]; simp [bares]
  have hl : zs.length = pre.length + post.length := by
    have := congrArg List.length (e.symm.trans e1')
    rw [List.length_map, List.length_append] at this
    exact this
  have get : ∀ (j : Nat) z, zs[j]? = some z → (pre ++ post)[j]? = some z.1 := fun j z h => by
    rw [← e1', e, List.getElem?_map, h]
    rfl
  have lo : ∀ j, j < pre.length → L j = false := fun j hj => by
    obtain ⟨z, hz⟩ : ∃ z, zs[j]? = some z := ⟨_, List.getElem?_eq_getElem (by omega)⟩
    rw [hL j z hz]
    have g := get j z hz
    rw [List.getElem?_append_left hj] at g
    exact decide_eq_false (e2 _ (List.mem_of_getElem? g))
  have r1 : ∀ (c : Nat), ((List.range (pre.length + c)).filter L) = ((List.range c).map (pre.length + ·)).filter L := fun c => by
    rw [List.range_add, List.filter_append]
    have : (List.range pre.length).filter L = [] := List.filter_eq_nil_iff.mpr fun j hj => by
      rw [lo j (List.mem_range.mp hj)]
      decide
    rw [this, List.nil_append]
  by_cases hi2 : i = ks.length
  · have hp0 := e4 hi2
    refine ⟨pre, post, [], e1', ?_, by omega, e2, e3, e4⟩
    subst hp0
    rw [List.length_nil] at hl
    rw [hl, r1 0]
    rfl
  · obtain ⟨k, hk2⟩ : ∃ k, ks[i]? = some k := ⟨_, List.getElem?_eq_getElem (by omega)⟩
    obtain ⟨r, hr⟩ := e3 k hk2
    have hpl : post.length = r.length + 1 := by rw [hr]; rfl
    have ht : L pre.length = true := by
      obtain ⟨z, hz⟩ : ∃ z, zs[pre.length]? = some z := ⟨_, List.getElem?_eq_getElem (by omega)⟩
      rw [hL _ z hz]
      have g := get _ z hz
      rw [List.getElem?_append_right (Nat.le_refl _), Nat.sub_self, hr] at g
      have g2 : labd es (p ++ [i]) k = z.1 := Option.some.inj g
      rw [← g2, labd_lab]
      exact decide_eq_true rfl
    refine ⟨pre, post, (((List.range r.length).map fun j => pre.length + (j + 1)).filter L) ++ [zs.length], e1', ?_, by omega, e2, e3, e4⟩
    rw [show zs.length = pre.length + (r.length + 1) by omega, r1, List.range_succ_eq_map, List.map_cons, Nat.add_zero, List.filter_cons_of_pos ht, List.map_map]
    rfl
end Tl
set_option Elab.async false
set_option linter.all false
set_option maxRecDepth 100000
set_option maxHeartbeats 8000000
namespace Tl
open PySem L2 RZ
local macro_rules
  | `(tactic| decreasing_trivial) => `(tactic| ((with_reducible (conv => whnf)); (repeat ((first | (with_reducible refine gDs_c ?_) | (with_reducible refine gDs_n ?_) | (with_reducible refine gNs_c ?_) | (with_reducible refine gNs_n ?_) | (with_reducible refine gO_i tyAny_lt ?_) | (with_reducible refine gIs_c ?_) | (with_reducible refine gIs_n ?_) | (with_reducible refine gBs_c ?_) | (with_reducible refine gBs_n ?_) | (with_reducible refine gSs_c ?_) | (with_reducible refine gSs_n ?_) | (with_reducible refine gO_i tyIs_int ?_) | (with_reducible refine gO_i tyIs_bool ?_) | (with_reducible refine gO_i tyIs_str ?_) | (with_reducible refine gO_i tyIs_tuple ?_) | (with_reducible refine gO_i tyIs_list ?_) | (with_reducible refine gDs_i ?_) | (with_reducible refine gO_i (Eq.refl _) ?_) | (with_reducible refine gO_i (by assumption) ?_) | (with_reducible refine gO_i at_0 ?_) | (with_reducible refine gO_i at_m0 ?_) | (with_reducible refine gO_i at_1 ?_) | (with_reducible refine gO_i at_m1 ?_) | (with_reducible refine gO_i at_2 ?_) | (with_reducible refine gO_i at_m2 ?_) | (with_reducible refine gO_i at_3 ?_) | (with_reducible refine gO_i at_m3 ?_) | (with_reducible refine gO_i at_4 ?_) | (with_reducible refine gO_i at_m4 ?_) | (with_reducible refine gO_i at_5 ?_) | (with_reducible refine gO_i at_m5 ?_) | (with_reducible refine gO_i at_6 ?_) | (with_reducible refine gO_i at_m6 ?_) | (with_reducible refine gO_i at_7 ?_) | (with_reducible refine gO_i at_m7 ?_) | (with_reducible refine IfB.ngf ?_) | (with_reducible refine IfB.ngt ?_) | (with_reducible refine IfB.not ?_) | (with_reducible refine IfB.nil ?_) | (with_reducible refine IfB.nilT ?_) | (with_reducible refine IfB.f isE_c ?_) | (with_reducible refine IfB.t isE_n ?_) | (with_reducible refine IfB.t ?gha ?_; (case gha => rfl)) | (with_reducible refine IfB.f ?gha ?_; (case gha => rfl)) | (with_reducible refine IfB.t ?gha ?_; (case gha => assumption)) | (with_reducible refine IfB.f ?gha ?_; (case gha => assumption)) | (with_reducible refine IfB.yes (Eq.refl _) ?_) | (with_reducible refine IfB.yes ?gha ?_; (case gha => (first | omega | (simp only [len_c, len_n, List.length_map]; omega)))) | (with_reducible refine IfB.no ?gha ?_; (case gha => (first | omega | (simp only [len_c, len_n, List.length_map]; omega)))) | (with_reducible refine IfB.t ?gha ?_; (case gha => decide +kernel)) | (with_reducible refine IfB.f ?gha ?_; (case gha => decide +kernel))); (with_reducible (conv => whnf))))))
local macro_rules
  | `(tactic| decreasing_trivial_pre_omega) => `(tactic| (decreasing_trivial; (repeat ((first | ((with_reducible refine And.intro ?gha ?_); (case gha => (first | assumption | omega | exact rfl | (exact mset_same) | (exact ⟨_, mset_same⟩) | (exact Exists.intro _ (by first | exact mset_same | assumption | (rw [mset_ne (by assumption)]; first | exact mset_same | assumption))) | (exact sm_of (by omega) (by omega)) | (exact sz1000 (by first | omega | (simp; done) | (simp; omega))) | (exact Or.inl ⟨by decide, by decide⟩) | decide | (simp; done) | (refine ⟨?_, ?_⟩ <;> (first | assumption | omega | exact rfl | (exact mset_same) | (exact ⟨_, mset_same⟩) | (exact Exists.intro _ (by first | exact mset_same | assumption | (rw [mset_ne (by assumption)]; first | exact mset_same | assumption))) | (exact sm_of (by omega) (by omega)) | (exact sz1000 (by first | omega | (simp; done) | (simp; omega))) | (exact Or.inl ⟨by decide, by decide⟩) | decide | (simp; done))) | (refine ⟨?_, ?_, ?_⟩ <;> (first | assumption | omega | exact rfl | (exact mset_same) | (exact ⟨_, mset_same⟩) | (exact Exists.intro _ (by first | exact mset_same | assumption | (rw [mset_ne (by assumption)]; first | exact mset_same | assumption))) | (exact sm_of (by omega) (by omega)) | (exact sz1000 (by first | omega | (simp; done) | (simp; omega))) | (exact Or.inl ⟨by decide, by decide⟩) | decide | (simp; done))) | (refine ⟨?_, ?_, ?_, ?_⟩ <;> (first | assumption | omega | exact rfl | (exact mset_same) | (exact ⟨_, mset_same⟩) | (exact Exists.intro _ (by first | exact mset_same | assumption | (rw [mset_ne (by assumption)]; first | exact mset_same | assumption))) | (exact sm_of (by omega) (by omega)) | (exact sz1000 (by first | omega | (simp; done) | (simp; omega))) | (exact Or.inl ⟨by decide, by decide⟩) | decide | (simp; done)))))) | (with_reducible refine exW (by first | exact mset_same | assumption | (rw [mset_ne (by assumption)]; first | exact mset_same | assumption)) ?_)); decreasing_trivial))))
theorem ptok_of {d : PyData} {es : List Edt} (h : ∀ e ∈ es, EdOk d e) : PtOk 12 es := fun p i x hx => by
  unfold ptL at hx
  cases c : ptE es p i with
  | none => rw [c] at hx; cases hx
  | some ts =>
    rw [c] at hx
    unfold ptE at c
    obtain ⟨e, he, h2⟩ := List.exists_of_findSome?_eq_some c
    have ok := h e (List.mem_reverse.mp he)
    cases e with
    | put q m us =>
      dsimp only at h2
      split at h2
      · cases h2; exact (tree_iff.mp (ok.2.2.2.1 x hx)).1
      · cases h2
    | name q t => cases h2
    | out q => cases h2
theorem pt_few {d : PyData} {es : List Edt} (h : ∀ e ∈ es, EdOk d e) (p : List Nat) (i : Nat) : (ptL es p i).length ≤ 1000 := by
  unfold ptL
  cases c : ptE es p i with
  | none => exact Nat.zero_le _
  | some ts =>
    unfold ptE at c
    obtain ⟨e, he, h2⟩ := List.exists_of_findSome?_eq_some c
    have ok := h e (List.mem_reverse.mp he)
    cases e with
    | put q m us =>
      dsimp only at h2
      split at h2
      · cases h2; exact ok.2.2.2.2
      · cases h2
    | name q t => cases h2
    | out q => cases h2
theorem row_len {d : PyData} {es : List Edt} (h : ∀ e ∈ es, EdOk d e) (p : List Nat) : ∀ (ks : List PyData) (j : Nat), (labdR es p j ks).length ≤ ks.length + (ks.length + 1) * 1000
  | [], j => by
    rw [labdR, bares_len]
    have := pt_few h p j
    simpa using this
  | k :: ks, j => by
    have h1 := pt_few h p j
    have h2 := row_len h p ks (j + 1)
    rw [labdR, List.length_append, bares_len, List.length_cons, List.length_cons]
    omega
theorem labdR_same {es es2 : List Edt} {p : List Nat} (sb : SameBut es es2 p) (h : ∀ i, ptE es2 p i = ptE es p i) {n : Nat} : ∀ {ks : List PyData} (j : Nat), (∀ k ∈ ks, TrT n k) → labdR es2 p j ks = labdR es p j ks
  | [], j, _ => by rw [labdR, labdR, ptL, ptL, h j]
  | k :: ks, j, hk => by
    have np : ¬ (p ++ [j]) <+: p := fun z => by
      have := z.length_le
      rw [List.length_append, List.length_singleton] at this
      omega
    rw [labdR, labdR, ptL, ptL, h j, labd_congr sb _ (hk k (.head _)) np, labdR_same sb h (j + 1) fun z hz => hk z (.tail _ hz)]
/-- a side, done by the law on lists -/
@[reducible] def tfSideD : TF := fun ws M R _ => ∃ (d : PyData) (es : List Edt), ws = [.d d, .d (.tuple (es.map Edt.d))] ∧ (TrT 12 d ∧ nn d ≤ 60 ∧ UniqE es ∧ (∀ e ∈ es, EdOk d e) ∧ es.length ≤ 100 ∧ TrT 30 (labd es [] d).still ∧ nn (labd es [] d).still ≤ 200) ∧
  ∀ (a : Addr) (M' : Mem), (∀ x, M x ≠ none → M' x = M x) → (∀ M'' : Mem, (∀ x, M x = none → M' x ≠ none → M'' x = M' x) → ((labd es [] d).wo es).at (fun _ _ => True) M'' (.r a)) → R (.r a) M'
theorem szB {n : Nat} (h : n ≤ 100000) : n ≤ sizeLine := Nat.le_trans h (by decide)
theorem sub_pre {n : Nat} {d e : PyData} {q : List Nat} (ht : TrT n d) (h : sub d q = some e) {i c : Nat} (hi : q[i]? = some c) : ∃ (s : Str) (ks : List PyData) (k : PyData) (m : Nat), sub d (q.take i) = some (.tuple [.str s, .tuple ks]) ∧ ks[c]? = some k ∧ (∀ z ∈ ks, TrT m z) ∧ nnAll ks ≤ nn d := by
  have e1 : q = q.take (i + 1) ++ q.drop (i + 1) := (List.take_append_drop _ _).symm
  rw [e1] at h
  obtain ⟨u, hu⟩ := sub_cut ht h
  rw [List.take_add_one, hi] at hu
  obtain ⟨s, ks, h1, h2, _⟩ := sub_snoc ht hu
  obtain ⟨t1, _, t3⟩ := sub_tr ht h1
  obtain ⟨m, hm⟩ : ∃ m, n - (q.take i).length = m + 1 := by
    cases c : n - (q.take i).length with
    | zero => rw [c] at t1; exact t1.elim
    | succ m => exact ⟨m, rfl⟩
  rw [hm] at t1
  obtain ⟨s2, ks2, e2, _, hk⟩ := t1
  cases e2
  rw [nn] at t3
  exact ⟨s, ks, u, m, h1, h2, hk, by omega⟩
/-- the walk down to a place -/
theorem walk_ok {A : List Nat → Addr} {S : List Edt} {m n : Nat} (hp : PtOk m S) {d e : PyData} {q : List Nat} (ht : TrT n d) (hn : nn d ≤ 60) (hs : sub d q = some e) (hq : q.length ≤ 50) {M1 : Mem} {w0 : W} (hat : (labd S [] d).at (RootA A) M1 w0) (hlen : ∀ p s ks b ws, sub d p = some (.tuple [.str s, .tuple ks]) → NodeAt A S M1 p s ks b ws → ws.length ≤ 70000) {D : EndD} {x0 x1 x2 x3 y5 y6 y7 y8 y9 y10 : Option W}
    (go : ∀ M2 z5 z9, (∀ x, M1 x ≠ none → M2 x = M1 x) → D.nx [x0, x1, x2, x3, some (.r (A q)), z5, y6, y7, y8, z9, y10] M2) :
    forGo (bName 5) any1 (setS 4 (opT fIxL (lcL (itLst (opT fIxL (nmT 4) (cT (W.d (.int 2))))) (bName 9) (tbT (opT (fEqD false) (opT fIxL (nmT 9) (cT (W.d (.int 0)))) (opT fCatT (opT fIxL (nmT 4) (cT (W.d (.int 0)))) (tupT (consA (nmT 5) nilA))))) (nmT 9) [9]) (cT (W.d (.int 0))))) D (rows1 ((q.map fun n : Nat => PyData.int (n : Int)).map W.d)) [x0, x1, x2, x3, some (.r (A [])), y5, y6, y7, y8, y9, y10] M1 := by
  rw [List.map_map]
  show forGo _ _ _ _ (rows1 (q.map fun n : Nat => W.d (.int (n : Int)))) _ _
  refine for1 (fun i ρ M2 => (∀ x, M1 x ≠ none → M2 x = M1 x) ∧ ∃ z5 z9, ρ = [x0, x1, x2, x3, some (.r (A (q.take i))), z5, y6, y7, y8, z9, y10])
    ⟨fun _ _ => rfl, y5, y9, rfl⟩ (fun _ _ _ _ _ => trivial) (fun i c ρ M2 N hi pv hN => ?_) (fun ρ M2 pv => ?_)
  · obtain ⟨k2, z5, z9, rfl⟩ := pv
    obtain ⟨s, ks, k, m2, h1, h2, h3, h4⟩ := sub_pre ht hs hi
    obtain ⟨b, ws, nd⟩ := node_of (q := []) ht h1 hat
    rw [List.nil_append] at nd
    have hwl := hlen _ _ _ _ _ h1 nd
    obtain ⟨n1, n2, n3⟩ := nd
    have n1' : M2 (A (q.take i)) = _ := (k2 _ (by rw [n1]; exact fun z => nomatch z)).trans n1
    have n2' : M2 b = _ := (k2 _ (by rw [n2]; exact fun z => nomatch z)).trans n2
    obtain ⟨zs, e1, rfl, hz⟩ := ats_zip n3
    have ltk : (q.take i).length ≤ 50 := by rw [List.length_take]; omega
    rw [List.length_map] at hwl
    obtain ⟨rest, hfirst⟩ := first_kid hp h3 h2 e1 hz
    have path1 : PyData.tuple (((q.take i).map fun n : Nat => PyData.int (n : Int)) ++ [.int (c : Int)]) = pathD (q.take i ++ [c]) := path_cat ..
    decreasing_trivial_pre_omega
    refine lc1f (keep := fun M => M b = some (.lst (zs.map (·.2)))) (xs := zs) (f := fun z => z.2) (fun z => decide (z.1.lab = some (q.take i ++ [c]))) (fun z => z.2) n2' (fun z hm Rk Rn q1 q2 => ?_) (szB (by omega)) ?_
    · have az := hz z hm
      obtain ⟨⟨lz, tz, kz⟩, wz⟩ := z
      dsimp only at az q1 q2 ⊢
      rw [LT.at] at az
      obtain ⟨az1, bz, wsz, rfl, _, hz1, hz2, hz3⟩ := az
      have hz4 : M2 az1 = _ := (k2 az1 (by rw [hz1]; exact fun z => nomatch z)).trans hz1
      unfold pathD at n1'
      decreasing_trivial_pre_omega
      rw [path1]
      refine ⟨⟨eqOk_lab lz, eqOk_path _⟩, ?_⟩
      rw [eqv_lab]
      by_cases hc : lz = some (q.take i ++ [c])
      · rw [decide_eq_true hc]
        refine IfB.t rfl ?_
        exact q1 (decide_eq_true hc)
      · rw [decide_eq_false hc]
        refine IfB.f rfl ?_
        exact q2 (decide_eq_false hc)
    · intro p9 hp9
      rw [hfirst]
      have tk : q.take (i + 1) = q.take i ++ [c] := by rw [List.take_add_one, hi]; rfl
      decreasing_trivial_pre_omega
      exact hN _ _ ⟨fun x hx => by rw [mset_ne (fun z => hx (by rw [← k2 x hx, z]; exact hp9))]; exact k2 x hx, some (.d (.int (c : Int))), z9, by rw [tk]⟩
  · obtain ⟨k2, z5, z9, rfl⟩ := pv
    rw [List.take_length]
    exact go M2 z5 z9 k2
section
variable {P : Program} {w : World} {K : PySem.W.Frag} {mg : Str → Option Value} {base : Heap}
abbrev sSideD : Stmt := top 55
theorem scSideD : FnScope ["_law_tree_here", "_law_side_here", "_law_live_here", "_law_edit_here", "_law_here", "_law_at", "_law_kids", "_law_spot", "_law_part_here", "_law_kid", "_law_k"] ["_law_tree_here", "_law_side_here"] (defScope sSideD) := ⟨rfl, rfl, rfl, by decide +kernel, rfl, by decide +kernel, by decide +kernel⟩
theorem ok_sideD {f : Addr} {fd : FuncData} {k j : Nat} (F : Fun K "_law_side_done" "_law_side_done" sSideD f fd) (U_law_live : Use P w K mg base "_law_live" ["_law_tree_here", "_law_path"] j (spD K 2 (tfLiveS 12))) (U_law_without : Use P w K mg base "_law_without" ["_law_live_here", "_law_outs"] j (spD K 2 (tfWoS 30))) (hj : j ≤ k) (T : Bl mg) : FnOk P w K mg base CX0 (k + 1) f fd ["_law_tree_here", "_law_side_here"] (spD K 2 tfSideD) := by
  refine okD F scSideD rfl fun cdv A outer s H E hr => ?_
  refine ⟨_, _, (pss_cons (ps_set (i := 2) scSideD.nd rfl (.inl rfl) (pe_call U_law_live.ok (hr.mono (by omega)) rfl U_law_live.m U_law_live.kp U_law_live.b .nil pass0 (pa_cons (pv 0) (pa_cons (pe_tup pa_nil) pa_nil))))
    (pss_cons (ps_for PassesOwn.never rfl (pi_tup (pe_revT (pv 1))) (pg_name (i := 3) scSideD.nd rfl (.inr rfl)) (pss_cons (ps_set (i := 4) scSideD.nd rfl (.inr rfl) (pv 2))
      (pss_cons (ps_for PassesOwn.never rfl (pi_tup (pe_ix ix_tup (pv 3) pe_int (fun _ _ => rfl))) (pg_name (i := 5) scSideD.nd rfl (.inr rfl)) (pss_one (ps_set (i := 4) scSideD.nd rfl (.inr rfl) (pe_ix ix_list (pe_lc (own := [("_law_kid", 9)]) (g := gName 9) (by rfl) scSideD.nd (pi_list (pe_ix ix_list (pv 4) pe_int (fun _ _ => rfl))) (blkOk_by (N := ["_law_tree_here", "_law_side_here", "_law_live_here", "_law_edit_here", "_law_here", "_law_at", "_law_kids", "_law_spot", "_law_part_here", "_law_kid", "_law_k"]) (sc := defScope sSideD) (own := [("_law_kid", 9)]) (by decide +kernel)) (fun _ _ _ _ _ => pg_name (i := 9) scSideD.nd rfl (Or.inl rfl)) (fun _ _ _ _ _ => (pts_one (pt_cmpR (op_eqD hr.units) (pe_ix ix_list (pv 9) pe_int (fun _ _ => rfl)) (pe_op op_catA (pe_ix ix_list (pv 4) pe_int (fun _ _ => rfl)) (pe_tup (pa_cons (pv 5) pa_nil))) (nomark _)))) (fun _ _ _ _ _ => (pv 9))) pe_int (fun _ _ => rfl)))))
      (pss_cons (ps_if (pt_cmpR op_eq (pe_ix ix_tup (pv 3) pe_int (fun _ _ => rfl)) pe_str (nomark _)) (pss_cons (ps_setLc (i := 6) (own := [("_law_part_here", 8)]) (g := gName 8) (tt := tYes) (by rfl) scSideD.nd rfl rfl (sw_true rfl rfl rfl (by decide +kernel)) (pi_tup (pe_ix ix_tup (pv 3) pe_int (fun _ _ => rfl))) (blkOk_by (N := ["_law_tree_here", "_law_side_here", "_law_live_here", "_law_edit_here", "_law_here", "_law_at", "_law_kids", "_law_spot", "_law_part_here", "_law_kid", "_law_k"]) (sc := defScope sSideD) (own := [("_law_part_here", 8)]) (by decide +kernel)) (fun _ _ _ _ _ => pg_name (i := 8) scSideD.nd rfl (Or.inl rfl)) (fun _ _ _ _ _ => pts_nil) (fun _ _ _ _ _ => (pe_call U_law_live.ok (hr.mono (by omega)) rfl U_law_live.m U_law_live.kp U_law_live.b .nil pass0 (pa_cons (pv 8) (pa_cons pe_non pa_nil)))))
        (pss_cons (ps_set (i := 7) scSideD.nd rfl (.inl rfl) (pe_op op_cat (pe_lc (own := [("_law_k", 10)]) (g := gName 10) (by rfl) scSideD.nd (pi_range1 (by rfl) T.range (pa_cons (pe_callB call_len_seq (by rfl) T.len PySem.boot_len (pa_cons (pe_ix ix_list (pv 4) pe_int (fun _ _ => rfl)) pa_nil)) pa_nil)) (blkOk_by (N := ["_law_tree_here", "_law_side_here", "_law_live_here", "_law_edit_here", "_law_here", "_law_at", "_law_kids", "_law_spot", "_law_part_here", "_law_kid", "_law_k"]) (sc := defScope sSideD) (own := [("_law_k", 10)]) (by decide +kernel)) (fun _ _ _ _ _ => pg_name (i := 10) scSideD.nd rfl (Or.inl rfl)) (fun _ _ _ _ _ => (pts_one (pt_cmpR (op_eqD hr.units) (pe_ix ix_list (pe_ix ix_list (pe_ix ix_list (pv 4) pe_int (fun _ _ => rfl)) (pv 10) (fun _ _ => rfl)) pe_int (fun _ _ => rfl)) (pe_op op_catA (pe_ix ix_list (pv 4) pe_int (fun _ _ => rfl)) (pe_tup (pa_cons (pe_ix ix_tup (pv 3) pe_int (fun _ _ => rfl)) pa_nil))) (nomark _)))) (fun _ _ _ _ _ => (pv 10))) (pe_lst (pa_cons (pe_callB call_len_seq (by rfl) T.len PySem.boot_len (pa_cons (pe_ix ix_list (pv 4) pe_int (fun _ _ => rfl)) pa_nil)) pa_nil))))
        (pss_one (ps_asg (pe_op op_cat (pe_op op_cat (pe_slice sl_list (pe_ix ix_list (pv 4) pe_int (fun _ _ => rfl)) po_none (po_some (pe_ix ix_list (pv 7) pe_int (fun _ _ => rfl)))) (pv 6)) (pe_slice sl_list (pe_ix ix_list (pv 4) pe_int (fun _ _ => rfl)) (po_some (pe_ix ix_list (pv 7) pe_int (fun _ _ => rfl))) po_none)) (pg_sub (pv 4) pe_int set_list))))) pss_nil)
      (pss_one (ps_if (pt_cmpR op_eq (pe_ix ix_tup (pv 3) pe_int (fun _ _ => rfl)) pe_str (nomark _)) (pss_one (ps_asg (pe_ix ix_tup (pv 3) pe_int (fun _ _ => rfl)) (pg_sub (pv 4) pe_int set_list))) pss_nil))))))
    (pss_one (ps_ret (pe_call U_law_without.ok (hr.mono (by omega)) rfl U_law_without.m U_law_without.kp U_law_without.b .nil pass0 (pa_cons (pv 2) (pa_cons (pe_lc (own := [("_law_edit_here", 3)]) (g := gName 3) (by rfl) scSideD.nd (pi_tup (pv 1)) (blkOk_by (N := ["_law_tree_here", "_law_side_here", "_law_live_here", "_law_edit_here", "_law_here", "_law_at", "_law_kids", "_law_spot", "_law_part_here", "_law_kid", "_law_k"]) (sc := defScope sSideD) (own := [("_law_edit_here", 3)]) (by decide +kernel)) (fun _ _ _ _ _ => pg_name (i := 3) scSideD.nd rfl (Or.inl rfl)) (fun _ _ _ _ _ => (pts_one (pt_cmpR op_eq (pe_ix ix_tup (pv 3) pe_int (fun _ _ => rfl)) pe_str (nomark _)))) (fun _ _ _ _ _ => (pe_ix ix_tup (pv 3) pe_int (fun _ _ => rfl)))) pa_nil))))))),
    (ss_cons (ss_set (se_call (sa_cons se_nm (sa_cons (se_tup sa_nil) sa_nil))))
    (ss_cons (ss_for (si_tup (se_rvT se_nm)) sg_name (ss_cons (ss_set se_nm)
      (ss_cons (ss_for (si_tup (se_op so_ixT se_nm se_int)) sg_name (ss_set (se_op so_ixL (se_lcL (si_lst (se_op so_ixL se_nm se_int)) sg_name (st_test (se_op so_eqD (se_op so_ixL se_nm se_int) (se_op so_catT (se_op so_ixL se_nm se_int) (se_tup (sa_cons se_nm sa_nil))))) se_nm) se_int)))
      (ss_cons (ss_if (st_test (se_op so_eqS (se_op so_ixT se_nm se_int) se_str)) (ss_cons (ss_set (se_lcL (si_tup (se_op so_ixT se_nm se_int)) sg_name st_yes (se_call (sa_cons se_nm (sa_cons se_non sa_nil)))))
        (ss_cons (ss_set (se_op so_catF (se_lcF (si_r1 (sa_cons (se_cb sc_len (sa_cons (se_op so_ixL se_nm se_int) sa_nil)) sa_nil)) sg_name (st_test (se_op so_eqD (se_op so_ixL (se_op so_ixL (se_op so_ixL se_nm se_int) se_nm) se_int) (se_op so_catT (se_op so_ixL se_nm se_int) (se_tup (sa_cons (se_op so_ixT se_nm se_int) sa_nil))))) se_nm) (se_lsf (sa_cons (se_cb sc_len (sa_cons (se_op so_ixL se_nm se_int) sa_nil)) sa_nil))))
        (ss_setIx (se_op so_catL (se_op so_catL (se_sl sl_L (se_op so_ixL se_nm se_int) sp_no (sp_some (se_op so_ixL se_nm se_int))) se_nm) (se_sl sl_L (se_op so_ixL se_nm se_int) (sp_some (se_op so_ixL se_nm se_int)) sp_no)) se_nm se_int ts_list))) ss_nil)
      (ss_if (st_test (se_op so_eqS (se_op so_ixT se_nm se_int) se_str)) (ss_setIx (se_op so_ixT se_nm se_int) se_nm se_int ts_list) ss_nil)))))
    (ss_ret (se_call (sa_cons se_nm (sa_cons (se_lcF (si_tup se_nm) sg_name (st_test (se_op so_eqS (se_op so_ixT se_nm se_int) se_str)) (se_op so_ixT se_nm se_int)) sa_nil)))))), fun ws M R RX hl h => ?_⟩
  obtain ⟨d, es, rfl, ⟨ht, hn, hu, ho, hl1, hb1, hb2⟩, h3⟩ := h
  simp only [start0, len_c, len_n, map_c, map_n, app_c, app_n, rep_0, rep_s, Nat.reduceAdd, Nat.reduceSub]
  decreasing_trivial_pre_omega
  refine ⟨d, some [], rfl, ⟨ht, by omega, fun p hp => by cases hp; decide⟩, fun A0 a0 M0 k0 f0 => ?_⟩
  have hat0 : (labd [] [] d).at (RootA A0) M0 (.r a0) := f0 M0 fun _ _ _ => rfl
  have newA : ∀ q s ks, sub d q = some (.tuple [.str s, .tuple ks]) → M (A0 q) = none := fun q s ks hs => by
    have h1 : (labd [] [] d).at (RootA A0) (fun x => match M x with | none => M0 x | some _ => none) (.r a0) := f0 _ fun x g1 g2 => by
      show (match M x with | none => M0 x | some _ => none) = M0 x
      rw [g1]
    obtain ⟨b, ws, h2, _⟩ := node_of (q := []) ht hs h1
    rw [List.nil_append] at h2
    have h2' : (match M (A0 q) with | none => M0 (A0 q) | some _ => none) = _ := h2
    cases c : M (A0 q) with
    | none => rfl
    | some o => rw [c] at h2'; cases h2'
  decreasing_trivial_pre_omega
  have mw : (((es.map Edt.d).reverse).map W.d) = es.reverse.map fun e => W.d e.d := by rw [← List.map_reverse, List.map_map]; rfl
  rw [mw]
  refine for1 (fun i ρ M1 => ∃ (y3 y4 y5 y6 y7 y8 y9 y10 : Option W), ρ = [some (.d d), some (.d (.tuple (es.map Edt.d))), some (.r (A0 [])), y3, y4, y5, y6, y7, y8, y9, y10] ∧ (∀ x, M x ≠ none → M1 x = M x) ∧ (labd (es.drop (es.length - i)) [] d).at (RootA A0) M1 (.r (A0 [])))
    ⟨none, none, none, none, none, none, none, none, ?_, k0, ?_⟩ (fun _ _ _ _ _ => trivial) (fun i e ρ M1 N hi pv hN => ?_) (fun ρ M1 pv => ?_)
  · have e0 : (W.r a0) = .r (A0 []) := by
      obtain ⟨s0, ks0, ed, _⟩ := ht
      rw [ed] at hat0
      exact (labd_root.mp hat0).1
    rw [e0]
  · obtain ⟨s0, ks0, ed, _⟩ := id ht
    have e0 : (W.r a0) = .r (A0 []) := by
      rw [ed] at hat0
      exact (labd_root.mp hat0).1
    rw [show es.drop (es.length - 0) = [] by rw [Nat.sub_zero, List.drop_length], ← e0]
    exact hat0
  · obtain ⟨y3, y4, y5, y6, y7, y8, y9, y10, rfl, k1, hat⟩ := pv
    have hi2 := (List.getElem?_eq_some_iff.mp hi).1
    rw [List.length_reverse] at hi2
    have he : es.drop (es.length - (i + 1)) = e :: es.drop (es.length - i) := by
      have h9 : es.length - (i + 1) < es.length := by omega
      rw [List.drop_eq_getElem_cons h9, show es.length - (i + 1) + 1 = es.length - i by omega]
      rw [List.getElem?_reverse (by omega)] at hi
      congr 1
      have := (List.getElem?_eq_some_iff.mp hi).2
      rw [← this]
      congr 1
      omega
    have hsuf : es.drop (es.length - (i + 1)) <:+ es := List.drop_suffix _ _
    rw [he] at hsuf
    have hmem : e ∈ es := hsuf.subset (.head _)
    have hoe := ho e hmem
    have hue : UniqE (e :: es.drop (es.length - i)) := hu.sublist hsuf.sublist
    generalize hS : es.drop (es.length - i) = S at hat he hue hsuf
    have hSo : ∀ x ∈ S, EdOk d x := fun x hx => ho x (hsuf.subset (.tail _ hx))
    have hp := ptok_of hSo
    have hlen : ∀ p s ks b ws, sub d p = some (.tuple [.str s, .tuple ks]) → NodeAt A0 S M1 p s ks b ws → ws.length ≤ 70000 := fun p s ks b ws h1 h2 => by
      have r1 := row_len hSo p ks 0
      rw [ats_len h2.2.2]
      obtain ⟨_, _, r2⟩ := sub_tr ht h1
      rw [nn] at r2
      have r3 := len_nn ks
      have r4 : (ks.length + 1) * 1000 ≤ 61 * 1000 := Nat.mul_le_mul_right _ (by omega)
      omega
    have hpath : ∃ u, sub d e.q = some u := by
      cases e with
      | name q t => exact hoe.2.1
      | out q => exact hoe.2.1
      | put q n2 ts => obtain ⟨u, hu2, _⟩ := hoe.2.1; exact ⟨u, hu2⟩
    obtain ⟨u, hsu⟩ := hpath
    have hql := hoe.len
    obtain ⟨s, ks, rfl, hq50, hnk, hkk, htag⟩ := node_at ht hsu
    have hkk' : ∀ z ∈ ks, TrT 12 z := fun z hz => (hkk z hz).mono (by omega)
    have walk := fun D x0 x1 x2 x3 y5 y6 y7 y8 y9 y10 go => walk_ok (D := D) (x0 := x0) (x1 := x1) (x2 := x2) (x3 := x3) (y5 := y5) (y6 := y6) (y7 := y7) (y8 := y8) (y9 := y9) (y10 := y10) hp ht hn hsu (by omega) hat hlen go
    obtain ⟨b, ws, nd⟩ := node_of (q := []) ht hsu hat
    rw [List.nil_append] at nd
    have K2 : ∀ {M2 : Mem}, (∀ x, M1 x ≠ none → M2 x = M1 x) → ∀ x, M x ≠ none → M2 x = M x := fun k2 x hx => by rw [k2 x (by rw [k1 x hx]; exact hx)]; exact k1 x hx
    have mono : ∀ {M2 : Mem}, (∀ x, M1 x ≠ none → M2 x = M1 x) → ∀ b o, M1 b = some o → M2 b = some o := fun k2 b o h => by rw [k2 b (by rw [h]; exact fun z => nomatch z)]; exact h
    obtain ⟨n1, m1, n3⟩ := nd
    cases e with
    | out q =>
      rw [show (Edt.out q).d = .tuple [.str "out", pathD q] from rfl]
      decreasing_trivial_pre_omega
      unfold pathD
      decreasing_trivial_pre_omega
      refine walk _ _ _ _ _ _ _ _ _ _ _ fun M2 z5 z9 k2 => ?_
      decreasing_trivial_pre_omega
      exact hN _ _ ⟨_, _, _, _, _, _, _, _, rfl, K2 k2, by rw [he, labd_out [] ht]; exact at_mono (mono k2) hat⟩
    | name q t =>
      rw [show (Edt.name q t).d = .tuple [.str "name", pathD q, .str t] from rfl]
      decreasing_trivial_pre_omega
      unfold pathD
      decreasing_trivial_pre_omega
      refine walk _ _ _ _ _ _ _ _ _ _ _ fun M2 z5 z9 k2 => ?_
      have n1' : M2 (A0 q) = _ := mono k2 _ _ n1
      have n2' : M2 b = _ := mono k2 _ _ m1
      have nb : b ≠ A0 q := fun z => by
        rw [z, n1'] at n2'
        simp only [Option.some.injEq, MO.lst.injEq] at n2'
        obtain ⟨c, hc⟩ := ats_refs n3 (.d (pathD q)) (by rw [← n2']; exact .head _)
        cases hc
      decreasing_trivial_pre_omega
      refine ⟨_, n1', ?_⟩
      decreasing_trivial_pre_omega
      refine hN _ _ ⟨_, _, _, _, _, _, _, _, rfl, fun x hx => ?_, ?_⟩
      · have nx : x ≠ A0 q := fun z => hx (by rw [z]; exact newA q s ks hsu)
        show mset M2 (A0 q) _ x = _
        rw [mset_ne nx]
        exact K2 k2 x hx
      · rw [he]
        have np : ∀ i, ¬ (q ++ [i]) <+: q := fun i z => by
          have := z.length_le
          rw [List.length_append, List.length_singleton] at this
          omega
        have kk : ∀ c o, c ≠ A0 q → M2 c = some o → mset M2 (A0 q) (.lst [.d (pathD q), .d (.str t), .r b]) c = some o := fun c o h1 h2 => by rw [mset_ne h1]; exact h2
        refine upd_node hp (M := M2) (M' := mset M2 (A0 q) (.lst [.d (pathD q), .d (.str t), .r b])) (same_name (q := q) (t := t)) n1' kk (s := s) (ks := ks) (b2 := b) (ws2 := ws) ⟨?_, ?_, ?_⟩ (r := q) rfl ht hsu (at_mono (mono k2) hat)
        · rw [mset_same, nm_cons, nm_none hue]
          dsimp only
          rw [if_pos rfl]
          rfl
        · rw [mset_ne nb]; exact n2'
        · rw [labdR_same same_name (fun i => by rw [pt_cons]; dsimp only; rw [Option.or_none]) 0 hkk']
          exact ats_far n1' kk (noLs_labd hp q 0 hkk' fun i _ => np i) (ats_mono (mono k2) n3)
    | put q n2 ts =>
      have hql2 : q.length ≤ 100 := hql
      dsimp only [Edt.q] at walk hsu n1 n3
      rw [show (Edt.put q n2 ts).d = .tuple [.str "put", pathD q, .int (n2 : Nat), .tuple ts] from rfl]
      decreasing_trivial_pre_omega
      unfold pathD
      decreasing_trivial_pre_omega
      refine walk _ _ _ _ _ _ _ _ _ _ _ fun M2 z5 z9 k2 => ?_
      have n1' : M2 (A0 q) = _ := mono k2 _ _ n1
      have n2' : M2 b = _ := mono k2 _ _ m1
      decreasing_trivial_pre_omega
      have tsOk := hoe.2.2.2.1
      have tsl := hoe.2.2.2.2
      have tsT : ∀ x ∈ ts, TrT 12 x := fun x hx => (tree_iff.mp (tsOk x hx)).1
      refine lc_inv (keep := any1) (f := fun x : PyData => W.d x) (M := M2) (fun i acc M3 => (∀ x, M2 x ≠ none → M3 x = M2 x) ∧ acc.length = i ∧ ∀ M'' : Mem, (∀ x, M2 x = none → M3 x ≠ none → M'' x = M3 x) → LT.ats (RootA A0) M'' (bares (ts.take i)) acc) (xs := ts)
        ⟨fun x _ => rfl, rfl, fun M'' _ => by rw [List.take_zero, bares]; exact ats_nil⟩ (fun i acc M3 h => ⟨trivial, Nat.le_of_eq h.2.1⟩) (sz1000 tsl) (fun i x acc M3 Rk Rn hi hI q1 q2 => ?_) (fun acc M3 hI => ?_)
      · obtain ⟨k3, la, f3⟩ := hI
        have hm := List.mem_of_getElem? hi
        obtain ⟨tx1, tx2⟩ := tree_iff.mp (tsOk x hm)
        refine IfB.t rfl ?_
        decreasing_trivial_pre_omega
        refine ⟨x, none, rfl, ⟨tx1, by omega, fun p hp2 => by cases hp2⟩, fun A1 c M4 k4 f4 => ?_⟩
        refine q1 (.r c) M4 ⟨fun y hy => by rw [k4 y (by rw [k3 y hy]; exact hy)]; exact k3 y hy, by rw [List.length_append, la]; rfl, fun M'' hM => ?_⟩
        have e9 : bares (ts.take (i + 1)) = bares (ts.take i) ++ [bare x] := by
          rw [List.take_add_one, hi, bares_map, bares_map, List.map_append]
          rfl
        rw [e9]
        refine ats_app (f3 M'' fun y g1 g2 => ?_) (ats_one (bare_weak tx1 (f4 M'' fun y g1 g2 => ?_)))
        · have m9 : M4 y = M3 y := k4 y g2
          rw [hM y g1 (by rw [m9]; exact g2), m9]
        · refine hM y ?_ g2
          cases c2 : M2 y with
          | none => rfl
          | some o =>
            have := k3 y (by rw [c2]; exact fun z => nomatch z)
            rw [g1, c2] at this
            cases this
      obtain ⟨k3, la, f3⟩ := hI
      rw [List.take_length] at f3
      intro p1 hp1
      have K3 : ∀ x, M2 x ≠ none → mset M3 p1 (.lst acc) x = M2 x := fun x hx => by
        rw [mset_ne (fun z => hx (by rw [← k3 x hx, z]; exact hp1))]
        exact k3 x hx
      have P1 : mset M3 p1 (.lst acc) p1 = some (.lst acc) := mset_same
      have F1 : LT.ats (RootA A0) (mset M3 p1 (.lst acc)) (bares ts) acc := f3 _ fun x g1 g2 => mset_ne fun z => g2 (by rw [z]; exact hp1)
      show seqS _ _ _ _ (mset M3 p1 (.lst acc))
      generalize mset M3 p1 (.lst acc) = M4 at K3 P1 F1 ⊢
      have a4 : M4 (A0 q) = _ := (K3 _ (by rw [n1']; exact fun z => nomatch z)).trans n1'
      have b4 : M4 b = _ := (K3 _ (by rw [n2']; exact fun z => nomatch z)).trans n2'
      obtain ⟨zs, ez, rfl, hz⟩ := ats_zip n3
      have hz4 : ∀ z ∈ zs, z.1.at (RootA A0) M4 z.2 := fun z hm => at_mono (fun c o h => by rw [K3 c (by rw [k2 c (by rw [h]; exact fun z => nomatch z), h]; exact fun z => nomatch z)]; exact mono k2 c o h) (hz z hm)
      have path1 : PyData.tuple ((q.map fun n : Nat => PyData.int (n : Int)) ++ [.int (n2 : Int)]) = pathD (q ++ [n2]) := path_cat ..
      have zl : zs.length ≤ 70000 := by have := hlen _ _ _ _ _ hsu ⟨n1, m1, n3⟩; rw [List.length_map] at this; omega
      obtain ⟨L, hL0⟩ : ∃ L : Nat → Bool, ∀ j, L j = match zs[j]? with | some z => decide (z.1.lab = some (q ++ [n2])) | none => false := ⟨_, fun _ => rfl⟩
      have hL : ∀ (j : Nat) z, zs[j]? = some z → L j = decide (z.1.lab = some (q ++ [n2])) := fun j z h => by rw [hL0, h]
      obtain ⟨pre, post, rest, g1, g2, g3, g4, g5, g6⟩ := first_ix hp hkk' (i := n2) (by obtain ⟨u2, hu2, hu3⟩ := hoe.2.1; change sub d q = _ at hsu; rw [hsu] at hu2; cases hu2; exact hu3) (pt_none hue) ez L hL
      unfold pathD at a4
      decreasing_trivial_pre_omega
      refine ⟨sm_of (by omega) (by rw [List.length_map]; omega), ?_⟩
      rw [List.length_map]
      unfold rng
      refine lc1f (xs := List.range zs.length) (f := fun j : Nat => W.d (.int (0 + (j : Nat)))) L (fun j => W.d (.int (j : Nat))) trivial (fun jx hm Rk Rn q1 q2 => ?_) (szB (by rw [List.length_range]; omega)) ?_
      · obtain ⟨z, hzj⟩ : ∃ z, zs[jx]? = some z := ⟨_, List.getElem?_eq_getElem (List.mem_range.mp hm)⟩
        have az := hz4 z (List.mem_of_getElem? hzj)
        have atz : atI (zs.map (·.2)) (jx : Int) = some z.2 := atI_nat (by rw [List.getElem?_map, hzj]; rfl)
        have hLz := hL jx z hzj
        obtain ⟨⟨lz, tz, kz⟩, wz⟩ := z
        dsimp only at az atz
        rw [LT.at] at az
        obtain ⟨az1, bz, wsz, rfl, _, hz1, hz2, hz3⟩ := az
        rw [Int.zero_add]
        decreasing_trivial_pre_omega
        rw [path1]
        refine ⟨⟨eqOk_lab lz, eqOk_path _⟩, ?_⟩
        rw [eqv_lab]
        by_cases hc : lz = some (q ++ [n2])
        · rw [decide_eq_true hc]
          refine IfB.t rfl ?_
          exact q1 (by rw [hLz]; exact decide_eq_true hc)
        · rw [decide_eq_false hc]
          refine IfB.f rfl ?_
          exact q2 (by rw [hLz]; exact decide_eq_false hc)
      · rw [show ((List.range zs.length).filter L).map (fun j : Nat => W.d (.int (j : Int))) = (((List.range zs.length).filter L).map fun j : Nat => PyData.int (j : Int)).map W.d by rw [List.map_map]; rfl, gDs_map]
        have fl : ((List.range zs.length).filter L).length ≤ 70000 := Nat.le_trans (List.length_filter_le _ _) (by rw [List.length_range]; exact zl)
        decreasing_trivial_pre_omega
        refine ⟨szB (by rw [List.length_map]; show _ + 1 ≤ _; omega), ?_⟩
        have g7 : (((List.range zs.length).filter L).map fun j : Nat => PyData.int (j : Int)) ++ [.int (((zs.map (·.2)).length : Nat) : Int)] = .int ((pre.length : Nat) : Int) :: rest.map fun j : Nat => PyData.int (j : Int) := by
          have := congrArg (List.map fun j : Nat => PyData.int (j : Int)) g2
          simp only [List.map_append, List.map_cons, List.map_nil] at this
          rw [List.length_map]
          exact this
        rw [g7]
        decreasing_trivial_pre_omega
        intro p2 hp2
        have K5 := kept_new (o := .lst (cut (zs.map (·.2)) none (some ((pre.length : Nat) : Int)))) hp2
        have P2 : mset M4 p2 (.lst (cut (zs.map (·.2)) none (some ((pre.length : Nat) : Int)))) p2 = _ := mset_same
        generalize mset M4 p2 (.lst (cut (zs.map (·.2)) none (some ((pre.length : Nat) : Int)))) = M5 at K5 P2 ⊢
        have a5 := (K5 _ (by rw [a4]; exact fun z => nomatch z)).trans a4
        have b5 := (K5 _ (by rw [b4]; exact fun z => nomatch z)).trans b4
        have P15 := (K5 _ (by rw [P1]; exact fun z => nomatch z)).trans P1
        rw [cut_to] at P2
        decreasing_trivial_pre_omega
        refine ⟨szB (by rw [List.length_take, List.length_map]; omega), ?_⟩
        intro p3 hp3
        have K6 := kept_new (o := .lst ((zs.map (·.2)).take pre.length ++ acc)) hp3
        have P3 : mset M5 p3 (.lst ((zs.map (·.2)).take pre.length ++ acc)) p3 = _ := mset_same
        generalize mset M5 p3 (.lst ((zs.map (·.2)).take pre.length ++ acc)) = M6 at K6 P3 ⊢
        have a6 := (K6 _ (by rw [a5]; exact fun z => nomatch z)).trans a5
        have b6 := (K6 _ (by rw [b5]; exact fun z => nomatch z)).trans b5
        decreasing_trivial_pre_omega
        intro p4 hp4
        have K7 := kept_new (o := .lst (cut (zs.map (·.2)) (some ((pre.length : Nat) : Int)) none)) hp4
        have P4 : mset M6 p4 (.lst (cut (zs.map (·.2)) (some ((pre.length : Nat) : Int)) none)) p4 = _ := mset_same
        generalize mset M6 p4 (.lst (cut (zs.map (·.2)) (some ((pre.length : Nat) : Int)) none)) = M7 at K7 P4 ⊢
        have a7 := (K7 _ (by rw [a6]; exact fun z => nomatch z)).trans a6
        have P37 := (K7 _ (by rw [P3]; exact fun z => nomatch z)).trans P3
        rw [cut_from] at P4
        decreasing_trivial_pre_omega
        refine ⟨szB (by rw [List.length_append, List.length_take, List.length_drop, List.length_map]; omega), ?_⟩
        intro p5 hp5
        have K8 := kept_new (o := .lst ((zs.map (·.2)).take pre.length ++ acc ++ (zs.map (·.2)).drop pre.length)) hp5
        have P5 : mset M7 p5 (.lst ((zs.map (·.2)).take pre.length ++ acc ++ (zs.map (·.2)).drop pre.length)) p5 = _ := mset_same
        generalize mset M7 p5 (.lst ((zs.map (·.2)).take pre.length ++ acc ++ (zs.map (·.2)).drop pre.length)) = M8 at K8 P5 ⊢
        have a8 := (K8 _ (by rw [a7]; exact fun z => nomatch z)).trans a7
        have K48 : ∀ x, M4 x ≠ none → M8 x = M4 x := fun x hx => by
          have e5 := K5 x hx
          have e6 := K6 x (by rw [e5]; exact hx)
          have e7 := K7 x (by rw [e6, e5]; exact hx)
          rw [K8 x (by rw [e7, e6, e5]; exact hx), e7, e6, e5]
        decreasing_trivial_pre_omega
        have kall : ∀ x, M2 x ≠ none → M8 x = M2 x := fun x hx => by rw [K48 x (by rw [K3 x hx]; exact hx)]; exact K3 x hx
        refine hN _ _ ⟨_, _, _, _, _, _, _, _, rfl, fun x hx => ?_, ?_⟩
        · have nx : x ≠ A0 q := fun z => hx (by rw [z]; exact newA q s ks hsu)
          show mset M8 (A0 q) _ x = _
          rw [mset_ne nx, kall x (by rw [K2 k2 x hx]; exact hx)]
          exact K2 k2 x hx
        · rw [he]
          have a8' : M8 (A0 q) = some (.lst [.d (pathD q), .d (.str ((nmE S q).getD s)), .r b]) := a8
          have np : ∀ i, ¬ (q ++ [i]) <+: q := fun i z => by
            have := z.length_le
            rw [List.length_append, List.length_singleton] at this
            omega
          have kk : ∀ c o, c ≠ A0 q → M8 c = some o → mset M8 (A0 q) (.lst [.d (pathD q), .d (.str ((nmE S q).getD s)), .r p5]) c = some o := fun c o h1 h2 => by rw [mset_ne h1]; exact h2
          have n5 : p5 ≠ A0 q := fun z => by rw [z, a7] at hp5; cases hp5
          have mono8 : ∀ c o, M1 c = some o → M8 c = some o := fun c o h => by
            have h2 := mono k2 c o h
            rw [kall c (by rw [h2]; exact fun z => nomatch z)]
            exact h2
          have mono48 : ∀ c o, M4 c = some o → M8 c = some o := fun c o h => by rw [K48 c (by rw [h]; exact fun z => nomatch z)]; exact h
          obtain ⟨u1, u2, ew, q8, q9⟩ := ats_split (a := pre) (b := post) (by rw [← g1]; exact n3)
          have lu := ats_len q8
          have e1 : (zs.map (·.2)).take pre.length = u1 := by rw [ew, ← lu, List.take_left]
          have e2 : (zs.map (·.2)).drop pre.length = u2 := by rw [ew, ← lu, List.drop_left]
          have npre : LT.noLs q (labdR S q 0 ks) := noLs_labd hp q 0 hkk' fun i _ => np i
          have spl : ∀ {a b : List LT}, LT.noLs q (a ++ b) → LT.noLs q a ∧ LT.noLs q b := fun {a b} => by
            induction a with
            | nil => intro h; exact ⟨by rw [LT.noLs]; trivial, h⟩
            | cons y a ih => intro h; rw [List.cons_append, LT.noLs] at h; obtain ⟨h1, h2⟩ := h; rw [LT.noLs]; exact ⟨⟨h1, (ih h2).1⟩, (ih h2).2⟩
          rw [g1] at npre
          obtain ⟨np1, np2⟩ := spl npre
          refine upd_node hp (M := M8) (M' := mset M8 (A0 q) (.lst [.d (pathD q), .d (.str ((nmE S q).getD s)), .r p5])) (same_put (q := q) (n := n2) (ts := ts)) a8' kk (s := s) (ks := ks) (b2 := p5) (ws2 := (zs.map (·.2)).take pre.length ++ acc ++ (zs.map (·.2)).drop pre.length) ⟨?_, ?_, ?_⟩ (r := q) rfl ht hsu (at_mono mono8 hat)
          · rw [mset_same, nm_cons]
            dsimp only
            rw [Option.or_none]
          · rw [mset_ne n5]; exact P5
          · have hn2 : n2 ≤ ks.length := by obtain ⟨v2, hv2, hv3⟩ := hoe.2.1; rw [hsu] at hv2; cases hv2; exact hv3
            rw [row_put same_put (pt_none hue) (by rw [pt_cons, pt_none hue]; dsimp only; rw [if_pos ⟨rfl, rfl⟩]; rfl) (fun i hi9 => by rw [pt_cons]; dsimp only; rw [if_neg (fun z => hi9 z.2.symm), Option.or_none]) hkk' (Nat.zero_add n2) hn2 g1 g4 g5 g6, e1, e2, List.append_assoc]
            refine ats_app (ats_far a8' kk np1 (ats_mono mono8 q8)) (ats_app ?_ (ats_far a8' kk np2 (ats_mono mono8 q9)))
            exact ats_far a8' kk (noLs_bare q tsT) (ats_mono mono48 F1)
  · obtain ⟨y3, y4, y5, y6, y7, y8, y9, y10, rfl, k1, hat⟩ := pv
    rw [List.length_reverse, Nat.sub_self, List.drop_zero] at hat
    have mw2 : (es.map Edt.d).map W.d = es.map fun e => W.d e.d := by rw [List.map_map]; rfl
    decreasing_trivial_pre_omega
    rw [mw2]
    refine lc1f (f := fun e : Edt => W.d e.d) Edt.isOut (fun e => W.d (pathD e.q)) trivial (fun e hm Rk Rn q1 q2 => ?_) (szB (by omega)) ?_
    · cases e with
      | out q => rw [show (Edt.out q).d = .tuple [.str "out", pathD q] from rfl]; decreasing_trivial_pre_omega; exact q1 rfl
      | name q t => rw [show (Edt.name q t).d = .tuple [.str "name", pathD q, .str t] from rfl]; decreasing_trivial_pre_omega; exact q2 rfl
      | put q n ts => rw [show (Edt.put q n ts).d = .tuple [.str "put", pathD q, .int (n : Nat), .tuple ts] from rfl]; decreasing_trivial_pre_omega; exact q2 rfl
    · rw [show (es.filter Edt.isOut).map (fun e => W.d (pathD e.q)) = (outsD es).map W.d by rw [List.map_map]; rfl, gDs_map]
      decreasing_trivial_pre_omega
      refine ⟨labd es [] d, .r (A0 []), es, rfl, ⟨at_weak (fun _ _ _ => trivial) hat, hb1, hb2, hl1⟩, fun c M9 k9 f9 => ?_⟩
      refine h3 c M9 (fun x hx => by rw [k9 x (by rw [k1 x hx]; exact hx)]; exact k1 x hx) fun M'' hM => f9 M'' fun x g1 g2 => hM x ?_ g2
      cases c2 : M x with
      | none => rfl
      | some o =>
        have := k1 x (by rw [c2]; exact fun z => nomatch z)
        rw [g1, c2] at this
        cases this
end
end Tl
set_option Elab.async false
set_option linter.all false
set_option maxRecDepth 100000
set_option maxHeartbeats 4000000
/-! Sides that are drawn: their order, how great what they lead to is. -/
namespace Tl
open PySem L2
open PySem.W (dataLe dataLt)
mutual
theorem labd_ext {es es2 : List Edt} (h : ∀ q, nmE es2 q = nmE es q ∧ ∀ i, ptE es2 q i = ptE es q i) : ∀ {n : Nat} {d : PyData} (p : List Nat), TrT n d → labd es2 p d = labd es p d
  | 0, _, _, t => t.elim
  | n + 1, d, p, t => by
    obtain ⟨s, ks, rfl, _, hk⟩ := t
    rw [labd, labd, (h p).1, labdR_ext h p 0 hk]
theorem labdR_ext {es es2 : List Edt} (h : ∀ q, nmE es2 q = nmE es q ∧ ∀ i, ptE es2 q i = ptE es q i) : ∀ {n : Nat} {ks : List PyData} (p : List Nat) (j : Nat), (∀ k ∈ ks, TrT n k) → labdR es2 p j ks = labdR es p j ks
  | _, [], p, j, _ => by rw [labdR, labdR, ptL, ptL, (h p).2 j]
  | n, k :: ks, p, j, t => by rw [labdR, labdR, ptL, ptL, (h p).2 j, labd_ext h _ (t k (.head _)), labdR_ext h p (j + 1) fun z hz => t z (.tail _ hz)]
end
/-- all but outs -/
def nOut (es : List Edt) : List Edt := es.filter fun e => !e.isOut
theorem nOut_same (es : List Edt) : ∀ q, nmE (nOut es) q = nmE es q ∧ ∀ i, ptE (nOut es) q i = ptE es q i := by
  intro q
  unfold nOut
  induction es with
  | nil => exact ⟨rfl, fun _ => rfl⟩
  | cons e es ih =>
    cases e with
    | out p =>
      rw [List.filter_cons_of_neg (by simp [Edt.isOut])]
      refine ⟨?_, fun i => ?_⟩
      · rw [ih.1, nm_cons]; dsimp only; rw [Option.or_none]
      · rw [ih.2 i, pt_cons]; dsimp only; rw [Option.or_none]
    | name p t =>
      rw [List.filter_cons_of_pos (by simp [Edt.isOut])]
      refine ⟨?_, fun i => ?_⟩
      · rw [nm_cons, nm_cons, ih.1]
      · rw [pt_cons, pt_cons, ih.2 i]
    | put p n ts =>
      rw [List.filter_cons_of_pos (by simp [Edt.isOut])]
      refine ⟨?_, fun i => ?_⟩
      · rw [nm_cons, nm_cons, ih.1]
      · rw [pt_cons, pt_cons, ih.2 i]
theorem nOut_out (es : List Edt) (p : List Nat) : outE (nOut es) p = false := by
  unfold outE nOut
  rw [List.any_eq_false]
  intro e he
  have := (List.mem_filter.mp he).2
  cases e with
  | out q => cases this
  | name _ _ => simp
  | put _ _ _ => simp
mutual
theorem wo_id {es : List Edt} (h : ∀ p, outE es p = false) : ∀ t : LT, t.wo es = t
  | .node l t ks => by rw [LT.wo, wos_id h ks]
theorem wos_id {es : List Edt} (h : ∀ p, outE es p = false) : ∀ ks : List LT, LT.wos es ks = ks
  | [] => by rw [LT.wos]
  | k :: ks => by
    have : isOutL es k.lab = false := by
      cases c : k.lab with
      | none => rfl
      | some p => exact h p
    rw [LT.wos, this, if_neg (by decide), wo_id h k, wos_id h ks]
end
theorem still_labd {m : Nat} {es : List Edt} (hp : PtOk m es) {n : Nat} {d : PyData} (p : List Nat) (t : TrT n d) : (labd es p d).still = bhd (nOut es) p d := by
  have hp2 : PtOk m (nOut es) := fun q i x hx => by
    rw [ptL, (nOut_same es q).2 i] at hx
    exact hp q i x hx
  rw [← labd_ext (nOut_same es) p t, ← still_wo hp2 p t, wo_id (nOut_out es)]
mutual
theorem bhd_nil : ∀ {n : Nat} {d : PyData} (p : List Nat), TrT n d → bhd [] p d = d
  | 0, _, _, t => t.elim
  | n + 1, d, p, t => by
    obtain ⟨s, ks, rfl, _, hk⟩ := t
    rw [bhd, bhdR_nil p 0 hk]
    rfl
theorem bhdR_nil : ∀ {n : Nat} {ks : List PyData} (p : List Nat) (j : Nat), (∀ k ∈ ks, TrT n k) → bhdR [] p j ks = ks
  | _, [], p, j, _ => by rw [bhdR]; rfl
  | n, k :: ks, p, j, t => by
    rw [bhdR, bhd_nil _ (t k (.head _)), bhdR_nil p (j + 1) fun z hz => t z (.tail _ hz)]
    rfl
end
/-- few and small trees are put in -/
def FewT (e : Edt) : Prop := ∀ q n ts, e = .put q n ts → (∀ x ∈ ts, TrT 11 x) ∧ nnAll ts ≤ 4
theorem few_mild {d : PyData} {es : List Edt} (h : ∀ e ∈ es, EdOk d e) (f : ∀ e ∈ es, FewT e) : Mild 11 4 es := by
  have pt : ∀ p i, ptL es p i = [] ∨ ((∀ x ∈ ptL es p i, TrT 11 x) ∧ nnAll (ptL es p i) ≤ 4) := fun p i => by
    unfold ptL
    cases c : ptE es p i with
    | none => exact .inl rfl
    | some ts =>
      unfold ptE at c
      obtain ⟨e, he, h2⟩ := List.exists_of_findSome?_eq_some c
      have ok := f e (List.mem_reverse.mp he)
      cases e with
      | put q m us =>
        dsimp only at h2
        split at h2
        · cases h2; exact .inr (ok _ _ _ rfl)
        · cases h2
      | name q t => cases h2
      | out q => cases h2
  refine ⟨fun p t ht => ?_, fun p i x hx => ?_, fun p i => ?_⟩
  · unfold nmE at ht
    obtain ⟨e, he, h2⟩ := List.exists_of_findSome?_eq_some ht
    have ok := h e (List.mem_reverse.mp he)
    cases e with
    | name q u =>
      dsimp only at h2
      split at h2
      · cases h2; exact ok.2.2
      · cases h2
    | put q m us => cases h2
    | out q => cases h2
  · rcases pt p i with h1 | h1
    · rw [h1] at hx; cases hx
    · exact h1.1 x hx
  · rcases pt p i with h1 | h1
    · rw [h1, nnAll]; exact Nat.zero_le _
    · exact h1.2
/-! ### sorted -/
def leE (a b : Edt) : Bool := !ltE b a
theorem ltE_neg {a b c : Edt} (h : ltE a c = true) : ltE a b = true ∨ ltE b c = true := (PyProof.Rows.listOrd PyProof.Rows.itemOrd).negTrans _ _ _ h
theorem leE_tr (a b c : Edt) (h1 : leE a b = true) (h2 : leE b c = true) : leE a c = true := by
  unfold leE at *
  rw [Bool.not_eq_true'] at *
  cases z : ltE c a with
  | false => rfl
  | true => rcases ltE_neg (b := b) z with h | h
            · rw [h] at h2; cases h2
            · rw [h] at h1; cases h1
theorem leE_tot (a b : Edt) : (leE a b || leE b a) = true := by
  unfold leE
  cases z : ltE b a with
  | false => rfl
  | true =>
    cases z2 : ltE a b with
    | false => rfl
    | true => have := ltE_tr z z2; rw [ltE_irr] at this; cases this
def srtE (es : List Edt) : List Edt := es.mergeSort leE
theorem srtE_perm (es : List Edt) : (srtE es).Perm es := List.mergeSort_perm _ _
theorem uniq_perm {a b : List Edt} (h : a.Perm b) (u : UniqE a) : UniqE b := (h.pairwise_iff fun {x y} hxy z => hxy ⟨z.1.symm, z.2.1.symm, z.2.2.symm⟩).mp u
theorem apart_perm {a b : List Edt} (h : a.Perm b) (u : a.Pairwise fun x y => takesE x y = false ∧ takesE y x = false) : b.Pairwise fun x y => takesE x y = false ∧ takesE y x = false := (h.pairwise_iff fun {x y} hxy => ⟨hxy.2, hxy.1⟩).mp u
theorem srtE_up {es : List Edt} (u : UniqE es) : (srtE es).Pairwise fun a b => ltE a b = true := by
  have h1 : (srtE es).Pairwise fun a b => leE a b = true := List.pairwise_mergeSort leE_tr leE_tot es
  have h2 : UniqE (srtE es) := uniq_perm (srtE_perm es).symm u
  refine (h1.and h2).imp fun {a b} hab => ?_
  cases z : ltE a b with
  | true => rfl
  | false =>
    have z2 : ltE b a = false := by
      have := hab.1
      unfold leE at this
      simpa using this
    exact absurd (ltE_tot z z2) hab.2
/-- the law's key, of data -/
def keyLf : PyData → PyData
  | .tuple (.str w :: p :: r) => .list [p, .str w, if w = "put" then (match r with | n :: _ => n | [] => .int 0) else .int 0]
  | _ => .none
theorem keyL_d (e : Edt) : keyLf e.d = e.kL := by
  cases e with
  | name q t => show PyData.list [pathD q, .str "name", if ("name" : Str) = "put" then _ else _] = _; rw [if_neg (by decide +kernel)]; rfl
  | out q => show PyData.list [pathD q, .str "out", if ("out" : Str) = "put" then _ else _] = _; rw [if_neg (by decide +kernel)]; rfl
  | put q n ts => show PyData.list [pathD q, .str "put", if ("put" : Str) = "put" then _ else _] = _; rw [if_pos rfl]; rfl
mutual
theorem whr_len : ∀ (t : LT) (b : List Nat), (t.whr b).length ≤ nn t.still
  | .node none t ks, b => by
    have := whrs_len ks b 0
    rw [LT.whr, LT.still, nn, List.length_append]
    simp only [List.length_nil]
    omega
  | .node (some p) t ks, b => by
    have := whrs_len ks b 0
    rw [LT.whr, LT.still, nn, List.length_append]
    simp only [List.length_singleton]
    omega
theorem whrs_len : ∀ (ks : List LT) (b : List Nat) (i : Nat), (LT.whrs b i ks).length ≤ nnAll (LT.stills ks)
  | [], b, i => by rw [LT.whrs]; exact Nat.zero_le _
  | k :: ks, b, i => by
    have h1 := whr_len k (b ++ [i])
    have h2 := whrs_len ks b (i + 1)
    rw [LT.whrs, LT.stills, nnAll, List.length_append]
    omega
end
end Tl
set_option Elab.async false
set_option linter.all false
set_option maxRecDepth 100000
set_option maxHeartbeats 8000000
namespace Tl
open PySem L2 RZ
local macro_rules
  | `(tactic| decreasing_trivial) => `(tactic| ((with_reducible (conv => whnf)); (repeat ((first | (with_reducible refine gDs_c ?_) | (with_reducible refine gDs_n ?_) | (with_reducible refine gNs_c ?_) | (with_reducible refine gNs_n ?_) | (with_reducible refine gO_i tyAny_lt ?_) | (with_reducible refine gIs_c ?_) | (with_reducible refine gIs_n ?_) | (with_reducible refine gBs_c ?_) | (with_reducible refine gBs_n ?_) | (with_reducible refine gSs_c ?_) | (with_reducible refine gSs_n ?_) | (with_reducible refine gO_i tyIs_int ?_) | (with_reducible refine gO_i tyIs_bool ?_) | (with_reducible refine gO_i tyIs_str ?_) | (with_reducible refine gO_i tyIs_tuple ?_) | (with_reducible refine gO_i tyIs_list ?_) | (with_reducible refine gDs_i ?_) | (with_reducible refine gO_i (Eq.refl _) ?_) | (with_reducible refine gO_i (by assumption) ?_) | (with_reducible refine gO_i at_0 ?_) | (with_reducible refine gO_i at_m0 ?_) | (with_reducible refine gO_i at_1 ?_) | (with_reducible refine gO_i at_m1 ?_) | (with_reducible refine gO_i at_2 ?_) | (with_reducible refine gO_i at_m2 ?_) | (with_reducible refine gO_i at_3 ?_) | (with_reducible refine gO_i at_m3 ?_) | (with_reducible refine gO_i at_4 ?_) | (with_reducible refine gO_i at_m4 ?_) | (with_reducible refine gO_i at_5 ?_) | (with_reducible refine gO_i at_m5 ?_) | (with_reducible refine gO_i at_6 ?_) | (with_reducible refine gO_i at_m6 ?_) | (with_reducible refine gO_i at_7 ?_) | (with_reducible refine gO_i at_m7 ?_) | (with_reducible refine IfB.ngf ?_) | (with_reducible refine IfB.ngt ?_) | (with_reducible refine IfB.not ?_) | (with_reducible refine IfB.nil ?_) | (with_reducible refine IfB.nilT ?_) | (with_reducible refine IfB.f isE_c ?_) | (with_reducible refine IfB.t isE_n ?_) | (with_reducible refine IfB.t ?gha ?_; (case gha => rfl)) | (with_reducible refine IfB.f ?gha ?_; (case gha => rfl)) | (with_reducible refine IfB.t ?gha ?_; (case gha => assumption)) | (with_reducible refine IfB.f ?gha ?_; (case gha => assumption)) | (with_reducible refine IfB.yes (Eq.refl _) ?_) | (with_reducible refine IfB.yes ?gha ?_; (case gha => (first | omega | (simp only [len_c, len_n, List.length_map]; omega)))) | (with_reducible refine IfB.no ?gha ?_; (case gha => (first | omega | (simp only [len_c, len_n, List.length_map]; omega)))) | (with_reducible refine IfB.t ?gha ?_; (case gha => decide +kernel)) | (with_reducible refine IfB.f ?gha ?_; (case gha => decide +kernel))); (with_reducible (conv => whnf))))))
local macro_rules
  | `(tactic| decreasing_trivial_pre_omega) => `(tactic| (decreasing_trivial; (repeat ((first | ((with_reducible refine And.intro ?gha ?_); (case gha => (first | assumption | omega | exact rfl | (exact mset_same) | (exact ⟨_, mset_same⟩) | (exact Exists.intro _ (by first | exact mset_same | assumption | (rw [mset_ne (by assumption)]; first | exact mset_same | assumption))) | (exact sm_of (by omega) (by omega)) | (exact sz1000 (by first | omega | (simp; done) | (simp; omega))) | (exact Or.inl ⟨by decide, by decide⟩) | decide | (simp; done) | (refine ⟨?_, ?_⟩ <;> (first | assumption | omega | exact rfl | (exact mset_same) | (exact ⟨_, mset_same⟩) | (exact Exists.intro _ (by first | exact mset_same | assumption | (rw [mset_ne (by assumption)]; first | exact mset_same | assumption))) | (exact sm_of (by omega) (by omega)) | (exact sz1000 (by first | omega | (simp; done) | (simp; omega))) | (exact Or.inl ⟨by decide, by decide⟩) | decide | (simp; done))) | (refine ⟨?_, ?_, ?_⟩ <;> (first | assumption | omega | exact rfl | (exact mset_same) | (exact ⟨_, mset_same⟩) | (exact Exists.intro _ (by first | exact mset_same | assumption | (rw [mset_ne (by assumption)]; first | exact mset_same | assumption))) | (exact sm_of (by omega) (by omega)) | (exact sz1000 (by first | omega | (simp; done) | (simp; omega))) | (exact Or.inl ⟨by decide, by decide⟩) | decide | (simp; done))) | (refine ⟨?_, ?_, ?_, ?_⟩ <;> (first | assumption | omega | exact rfl | (exact mset_same) | (exact ⟨_, mset_same⟩) | (exact Exists.intro _ (by first | exact mset_same | assumption | (rw [mset_ne (by assumption)]; first | exact mset_same | assumption))) | (exact sm_of (by omega) (by omega)) | (exact sz1000 (by first | omega | (simp; done) | (simp; omega))) | (exact Or.inl ⟨by decide, by decide⟩) | decide | (simp; done)))))) | (with_reducible refine exW (by first | exact mset_same | assumption | (rw [mset_ne (by assumption)]; first | exact mset_same | assumption)) ?_)); decreasing_trivial))))
@[reducible] def tfEditL : TF := fun ws M R _ => ∃ (st : Addr) (d : PyData), ws = [.r st, .d d] ∧ (M st = some (.src false) ∧ TrT 12 d ∧ nn d ≤ 60) ∧ ∀ e : Edt, EdOk d e → FewT e → R (.d e.d) M
theorem dats_any {Pq : PyData → Prop} : ∀ {ys : List W}, (∀ y ∈ ys, ∃ x, y = .d x ∧ Pq x) → ∃ xs : List PyData, ys = xs.map W.d ∧ ∀ x ∈ xs, Pq x
  | [], _ => ⟨[], rfl, fun x hx => by cases hx⟩
  | y :: ys, h => by
    obtain ⟨x, rfl, hx⟩ := h y (.head _)
    obtain ⟨xs, rfl, hxs⟩ := dats_any fun z hz => h z (.tail _ hz)
    exact ⟨x :: xs, rfl, fun z hz => by
      rcases List.mem_cons.mp hz with rfl | hz
      · exact hx
      · exact hxs z hz⟩
theorem rows1_len (xs : List W) : (rows1 xs).length = xs.length := by unfold rows1; rw [List.length_map]
theorem edt_gk {d : PyData} {e : Edt} (ht : TrT 12 d) (hd : nn d ≤ 60) (h : EdOk d e) (f : FewT e) : Gk 300000 27 e.d := by
  have mk : ∀ {ds : List PyData}, (∀ d ∈ ds, Gk 40000 26 d) → ds.length ≤ 6 → Gk 300000 27 (.tuple ds) := fun h1 h2 => (Gks.ofL (n := 6) (m' := 290000) h1 h2 (by decide)).tup (by decide)
  have up : ∀ {d : PyData}, Gk 40000 24 d → Gk 40000 26 d := fun h => h.mono (Nat.le_refl _) (by decide)
  cases e with
  | name q t => exact mk (all1 (up (wrd_gk (by decide) (by decide +kernel))) (all1 (up (pathOk_gk h.1)) (all1 (up (tag_gk h.2.2)) all0))) (by show 3 ≤ 6; decide)
  | out q => exact mk (all1 (up (wrd_gk (by decide) (by decide +kernel))) (all1 (up (pathOk_gk h.1)) all0)) (by show 2 ≤ 6; decide)
  | put q n ts =>
    obtain ⟨f1, f2⟩ := f _ _ _ rfl
    have l1 := len_nn ts
    have gt : Gk 40000 26 (.tuple ts) := ((Gks.ofL (m := 6000) (k := 24) (n := 4) (m' := 25000) (fun x hx => tree_gk ((f1 x hx).mono (by decide)) (by have := nn_mem hx; omega)) (by omega) (by decide)).tup (m' := 40000) (by decide)).mono (Nat.le_refl _) (by decide)
    obtain ⟨u, hu, hn⟩ := h.2.1
    have n60 : n ≤ 100000 := by
      obtain ⟨s, ks, rfl, _, e2, _⟩ := node_at ht hu
      have := len_nn ks
      rw [kidsD_node] at hn
      omega
    exact mk (all1 (up (wrd_gk (by decide) (by decide +kernel))) (all1 (up (pathOk_gk h.1)) (all1 ((gk_i (k := 26) (by omega) (by omega)).mono (by decide) (Nat.le_refl _)) (all1 gt all0)))) (by show 4 ≤ 6; decide)
theorem eqv_root {d : PyData} {e : Edt} (h : EdOk d e) : PyData.eqv e.d (.tuple [.str "out", .tuple []]) = false := by
  have e1 : ∀ a b : PyData, ∀ xs ys : List PyData, PyData.eqv (.tuple (a :: xs)) (.tuple (b :: ys)) = (PyData.eqv a b && PyData.eqv (.tuple xs) (.tuple ys)) := fun a b xs ys => by rw [PyData.eqv, PyData.eqv, PyData.eqvAll]
  cases e with
  | name q t => show PyData.eqv (.tuple [.str "name", pathD q, .str t]) _ = _; rw [e1, eqv_ss, show (("name" : Str) == "out") = false by decide +kernel, Bool.false_and]
  | put q n ts => show PyData.eqv (.tuple [.str "put", pathD q, .int (n : Nat), .tuple ts]) _ = _; rw [e1, eqv_ss, show (("put" : Str) == "out") = false by decide +kernel, Bool.false_and]
  | out q =>
    show PyData.eqv (.tuple [.str "out", pathD q]) _ = _
    rw [e1, e1, show PyData.tuple [] = pathD [] from rfl, eqv_path, decide_eq_false h.2.2, Bool.false_and, Bool.and_false]
theorem eqv_kL (a b : Edt) : PyData.eqv a.kL b.kL = decide (a.q = b.q ∧ a.w = b.w ∧ a.n = b.n) := by
  show PyData.eqv (.list [pathD a.q, .str a.w, .int (a.n : Nat)]) (.list [pathD b.q, .str b.w, .int (b.n : Nat)]) = _
  rw [PyData.eqv, PyData.eqvAll, PyData.eqvAll, PyData.eqvAll, PyData.eqvAll, eqv_path, eqv_ss, PyData.eqv, Bool.and_true]
  rw [Bool.eq_iff_iff]
  simp only [Bool.and_eq_true, decide_eq_true_eq, beq_iff_eq]
  constructor
  · rintro ⟨h1, h2, h3⟩
    exact ⟨h1, h2, by omega⟩
  · rintro ⟨h1, h2, h3⟩
    exact ⟨h1, h2, by omega⟩
theorem w_small (a : Edt) : a.w.length ≤ 8 ∧ PyData.strOk a.w = true := by
  cases a with
  | name q t => exact ⟨show ("name" : Str).length ≤ 8 by decide, show PyData.strOk "name" = true by decide +kernel⟩
  | out q => exact ⟨show ("out" : Str).length ≤ 8 by decide, show PyData.strOk "out" = true by decide +kernel⟩
  | put q n ts => exact ⟨show ("put" : Str).length ≤ 8 by decide, show PyData.strOk "put" = true by decide +kernel⟩
theorem n_small {d : PyData} {e : Edt} (ht : TrT 12 d) (hd : nn d ≤ 60) (h : EdOk d e) : e.n ≤ 100000 := by
  cases e with
  | name q t => exact Nat.zero_le _
  | out q => exact Nat.zero_le _
  | put q n ts =>
    obtain ⟨u, hu, hn⟩ := h.2.1
    obtain ⟨s, ks, rfl, _, e2, _⟩ := node_at ht hu
    have := len_nn ks
    rw [kidsD_node] at hn
    show n ≤ 100000
    omega
theorem q_ok {d : PyData} {e : Edt} (h : EdOk d e) : pathOk e.q := by
  cases e with
  | name q t => exact h.1
  | out q => exact h.1
  | put q n ts => exact h.1
theorem kL_eq {d : PyData} {a : Edt} (ht : TrT 12 d) (hd : nn d ≤ 60) (h : EdOk d a) : eqOk a.kL = true ∧ a.kL.depth ≤ 60 ∧ a.kL.hasDict = false := by
  have n6 := n_small ht hd h
  have g : Gk 300000 25 a.kL := (Gks.ofL (n := 3) (m := 40000) (k := 24) (m' := 290000) (all1 (pathOk_gk (q_ok h)) (all1 (wrd_gk (w_small a).1 (w_small a).2) (all1 ((gk_i (k := 24) (by omega) (by omega)).mono (by decide) (Nat.le_refl _)) all0))) (by show 3 ≤ 3; decide) (by decide)).lst (by decide)
  exact ⟨gd_eqOk g.1 (by have := g.2.2; omega), by have := g.2.2; omega, gd_nd _ g.1⟩
theorem edt_eq {d : PyData} {e : Edt} (ht : TrT 12 d) (hd : nn d ≤ 60) (h : EdOk d e) (f : FewT e) : e.d.depth ≤ 27 ∧ e.d.hasDict = false ∧ eqOk e.d = true := by
  obtain ⟨g, _, dp⟩ := edt_gk ht hd h f
  exact ⟨dp, gd_nd _ g, gd_eqOk g (by omega)⟩
section
variable {P : Program} {w : World} {K : PySem.W.Frag} {mg : Str → Option Value} {base : Heap}
abbrev sEditL : Stmt := top 58
theorem scEditL : FnScope ["_law_state_here", "_law_tree_here", "_law_places_here", "_law_path", "_law_way", "_law_trees", "_law_k"] ["_law_state_here", "_law_tree_here"] (defScope sEditL) := ⟨rfl, rfl, rfl, by decide +kernel, rfl, by decide +kernel, by decide +kernel⟩
theorem ok_editL {f : Addr} {fd : FuncData} {k j : Nat} (F : Fun K "_law_edit" "_law_edit" sEditL f fd) (U_law_next : Use P w K mg base "_law_next" ["_law_state_here", "_law_below"] j (spD K 2 (tfNext false))) (U_law_tag : Use P w K mg base "_law_tag" ["_law_state_here"] j (spD K 1 tfTag)) (U_law_tree : Use P w K mg base "_law_tree" ["_law_state_here", "_law_bound"] j (spD K 2 (tfTreeL false))) (U_law_places : Use P w K mg base "_law_places" ["_law_tree_here", "_law_path"] j (spD K 2 (tfPls 12))) (U_law_part : Use P w K mg base "_law_part" ["_law_tree_here", "_law_path"] j (spD K 2 tfPart)) (hj : j ≤ k) (T : Bl mg) : FnOk P w K mg base CX0 (k + 1) f fd ["_law_state_here", "_law_tree_here"] (spD K 2 tfEditL) := by
  refine okD F scEditL rfl fun cdv A outer s H E hr => ?_
  refine ⟨_, _, (pss_cons (ps_set (i := 2) scEditL.nd rfl (.inl rfl) (pe_call U_law_places.ok (hr.mono (by omega)) rfl U_law_places.m U_law_places.kp U_law_places.b .nil pass0 (pa_cons (pv 1) (pa_cons (pe_tup pa_nil) pa_nil))))
    (pss_cons (ps_set (i := 3) scEditL.nd rfl (.inl rfl) (pe_ix ix_list (pv 2) (pe_call U_law_next.ok (hr.mono (by omega)) rfl U_law_next.m U_law_next.kp U_law_next.b .nil pass0 (pa_cons (pv 0) (pa_cons (pe_callB call_len_seq (by rfl) T.len PySem.boot_len (pa_cons (pv 2) pa_nil)) pa_nil))) (fun _ _ => rfl)))
    (pss_cons (ps_set (i := 4) scEditL.nd rfl (.inl rfl) (pe_call U_law_next.ok (hr.mono (by omega)) rfl U_law_next.m U_law_next.kp U_law_next.b .nil pass0 (pa_cons (pv 0) (pa_cons pe_int pa_nil))))
    (pss_cons (ps_if (pt_cmpR op_lt (pv 4) pe_int (nomark _)) (pss_one (ps_ret (pe_tup (pa_cons pe_str (pa_cons (pv 3) (pa_cons (pe_call U_law_tag.ok (hr.mono (by omega)) rfl U_law_tag.m U_law_tag.kp U_law_tag.b .nil pass0 (pa_cons (pv 0) pa_nil)) pa_nil)))))) pss_nil)
    (pss_cons (ps_if (PW.pt (pw_and (pt_cmpR op_eq (pv 4) pe_int (nomark _)) (pw_and1 (pt_cmpR (op_neD hr.units) (pv 3) (pe_tup pa_nil) (nomark _))))) (pss_one (ps_ret (pe_tup (pa_cons pe_str (pa_cons (pv 3) pa_nil))))) pss_nil)
    (pss_cons (ps_set (i := 5) scEditL.nd rfl (.inl rfl) (pe_callTy call_tuple_of (by rfl) T.tuple PyProof.Rows.boot_tuple (pa_cons (pe_lc (own := [("_law_k", 6)]) (g := gName 6) (tt := tYes) (by rfl) scEditL.nd (pi_range1 (by rfl) T.range (pa_cons (pe_op op_add pe_int (pe_call U_law_next.ok (hr.mono (by omega)) rfl U_law_next.m U_law_next.kp U_law_next.b .nil pass0 (pa_cons (pv 0) (pa_cons pe_int pa_nil)))) pa_nil)) (blkOk_by (N := ["_law_state_here", "_law_tree_here", "_law_places_here", "_law_path", "_law_way", "_law_trees", "_law_k"]) (sc := defScope sEditL) (own := [("_law_k", 6)]) (by decide +kernel)) (fun _ _ _ _ _ => pg_name (i := 6) scEditL.nd rfl (Or.inl rfl)) (fun _ _ _ _ _ => pts_nil) (fun _ _ _ _ _ => (pe_call U_law_tree.ok (hr.mono (by omega)) rfl U_law_tree.m U_law_tree.kp U_law_tree.b .nil pass0 (pa_cons (pv 0) (pa_cons pe_int pa_nil))))) pa_nil)))
    (pss_one (ps_ret (pe_tup (pa_cons pe_str (pa_cons (pv 3) (pa_cons (pe_call U_law_next.ok (hr.mono (by omega)) rfl U_law_next.m U_law_next.kp U_law_next.b .nil pass0 (pa_cons (pv 0) (pa_cons (pe_op op_add (pe_callB call_len_seq (by rfl) T.len PySem.boot_len (pa_cons (pe_ix ix_tup (pe_call U_law_part.ok (hr.mono (by omega)) rfl U_law_part.m U_law_part.kp U_law_part.b .nil pass0 (pa_cons (pv 1) (pa_cons (pv 3) pa_nil))) pe_int (fun _ _ => rfl)) pa_nil)) pe_int) pa_nil))) (pa_cons (pv 5) pa_nil))))))))))))),
    (ss_cons (ss_set (se_call (sa_cons se_nm (sa_cons (se_tup sa_nil) sa_nil))))
    (ss_cons (ss_set (se_op so_ixL se_nm (se_call (sa_cons se_nm (sa_cons (se_cb sc_len (sa_cons se_nm sa_nil)) sa_nil)))))
    (ss_cons (ss_set (se_call (sa_cons se_nm (sa_cons se_int sa_nil))))
    (ss_cons (ss_if (st_test (se_op so_lt se_nm se_int)) (ss_ret (se_tup (sa_cons se_str (sa_cons se_nm (sa_cons (se_call (sa_cons se_nm sa_nil)) sa_nil))))) ss_nil)
    (ss_cons (ss_if (st_and (st_test (se_op so_eqS se_nm se_int)) (st_test (se_op so_neD se_nm (se_tup sa_nil)))) (ss_ret (se_tup (sa_cons se_str (sa_cons se_nm sa_nil)))) ss_nil)
    (ss_cons (ss_set (se_cb sc_tuple (sa_cons (se_lcF (si_r1 (sa_cons (se_op so_add se_int (se_call (sa_cons se_nm (sa_cons se_int sa_nil)))) sa_nil)) sg_name st_yes (se_call (sa_cons se_nm (sa_cons se_int sa_nil)))) sa_nil)))
    (ss_ret (se_tup (sa_cons se_str (sa_cons se_nm (sa_cons (se_call (sa_cons se_nm (sa_cons (se_op so_add (se_cb sc_len (sa_cons (se_op so_ixT (se_call (sa_cons se_nm (sa_cons se_nm sa_nil))) se_int) sa_nil)) se_int) sa_nil))) (sa_cons se_nm sa_nil)))))))))))), fun ws M R RX hl h => ?_⟩
  obtain ⟨st, d, rfl, ⟨hM, ht, hn⟩, h2⟩ := h
  have hlen : (plc d).length = nn d := plc_len ht
  have hnp := nn_pos d
  simp only [start0, len_c, len_n, map_c, map_n, app_c, app_n, rep_0, rep_s, Nat.reduceAdd, Nat.reduceSub]
  decreasing_trivial_pre_omega
  refine ⟨d, [], rfl, ⟨ht, by omega, by decide⟩, ?_⟩
  have lp : (pls [] (plc d)).length = nn d := by unfold pls; rw [List.length_map]; exact hlen
  have lpw : ((pls [] (plc d)).map W.d).length = nn d := by rw [List.length_map]; exact lp
  have pg : ∀ x ∈ pls [] (plc d), ∃ q e, x = pathD q ∧ sub d q = some e ∧ pathOk q := fun x hx => by
    unfold pls at hx
    obtain ⟨q, hq, rfl⟩ := List.mem_map.mp hx
    obtain ⟨e, he⟩ := plc_sub ht q hq
    exact ⟨q, e, rfl, he, place_ok ht hn he⟩
  decreasing_trivial_pre_omega
  intro r r0 r1
  decreasing_trivial_pre_omega
  refine gO_atD (fun x => ∃ q e, x = pathD q ∧ sub d q = some e ∧ pathOk q) r0 (by rw [lpw] at r1; rw [lp]; exact r1) pg fun x ⟨q, e, ex, hs, hq⟩ => ?_
  subst ex
  decreasing_trivial_pre_omega
  intro way w0 w1
  decreasing_trivial_pre_omega
  refine IfB.d (fun c => ?_) (fun c => ?_)
  · decreasing_trivial_pre_omega
    intro tg htg
    decreasing_trivial_pre_omega
    exact h2 (.name q tg) ⟨hq, ⟨e, hs⟩, htg⟩ fun _ _ _ z => by cases z
  decreasing_trivial_pre_omega
  by_cases c2 : way = 2
  · subst c2
    refine IfB.yes rfl ?_
    decreasing_trivial_pre_omega
    refine ⟨⟨eqOk_path q, by decide +kernel⟩, ?_⟩
    rw [show PyData.tuple [] = pathD [] from rfl, eqv_path]
    by_cases cq : q = []
    · rw [decide_eq_true cq]
      decreasing_trivial_pre_omega
      intro m m0 m1
      decreasing_trivial_pre_omega
      refine lc_any (fun y => ∃ x, y = .d x ∧ TrT 11 x ∧ nn x ≤ 2) trivial _ [] (fun row hrow Rk Rn q9 => ?_) (sz1000 (by unfold rng; rw [List.length_nil, rows1_len, List.length_map, List.length_range]; omega)) (fun ys hy1 hy2 => ?_)
      · obtain ⟨w0, _, rfl⟩ := List.mem_map.mp hrow
        decreasing_trivial_pre_omega
        intro x hx1 hx2
        exact q9 _ ⟨x, rfl, hx1, by omega⟩
      · obtain ⟨xs, rfl, hxs⟩ : ∃ xs : List PyData, ys = xs.map W.d ∧ ∀ x ∈ xs, TrT 11 x ∧ nn x ≤ 2 := dats_any hy2
        have hxl : xs.length = (1 + m).toNat := by
          have := hy1
          unfold rng at this
          rw [List.length_map, rows1_len, List.length_map, List.length_range] at this
          exact this
        rw [List.nil_append, gDs_map]
        obtain ⟨s0, ks, rfl, hkl⟩ : ∃ s0 ks, e = .tuple [.str s0, .tuple ks] ∧ ks.length ≤ 60 := by
          obtain ⟨s, ks, e1, _, e2, _⟩ := node_at ht hs
          have := len_nn ks
          exact ⟨s, ks, e1, by omega⟩
        decreasing_trivial_pre_omega
        refine ⟨d, _, q, 12, rfl, ⟨ht, hs⟩, ?_⟩
        decreasing_trivial_pre_omega
        intro n n0 n1
        decreasing_trivial_pre_omega
        have en : (.int n : PyData) = .int ((n.toNat : Nat) : Int) := by congr 1; omega
        rw [en]
        have f4 : nnAll xs ≤ 4 := by
          have : ∀ l : List PyData, (∀ x ∈ l, TrT 11 x ∧ nn x ≤ 2) → nnAll l ≤ 2 * l.length := fun l => by
            induction l with
            | nil => intro _; rw [nnAll]; exact Nat.zero_le _
            | cons x l ih =>
              intro h
              have a1 := (h x (.head _)).2
              have a2 := ih fun z hz => h z (.tail _ hz)
              rw [nnAll, List.length_cons]
              omega
          have := this xs hxs
          omega
        refine h2 (.put q n.toNat xs) ⟨hq, ⟨_, hs, by rw [kidsD_node]; omega⟩, fun z => ?_, fun x hx => tree_iff.mpr ⟨(hxs x hx).1.mono (by decide), by have := (hxs x hx).2; omega⟩, by omega⟩ fun q2 n2 t2 z => ?_
        · rw [z] at hxl
          simp at hxl
          omega
        · cases z
          exact ⟨fun x hx => (hxs x hx).1, f4⟩
    · rw [decide_eq_false cq]
      decreasing_trivial_pre_omega
      exact h2 (.out q) ⟨hq, ⟨e, hs⟩, cq⟩ fun _ _ _ z => by cases z
  · refine IfB.no c2 ?_
    decreasing_trivial_pre_omega
    intro m m0 m1
    decreasing_trivial_pre_omega
    refine lc_any (fun y => ∃ x, y = .d x ∧ TrT 11 x ∧ nn x ≤ 2) trivial _ [] (fun row hrow Rk Rn q9 => ?_) (sz1000 (by unfold rng; rw [List.length_nil, rows1_len, List.length_map, List.length_range]; omega)) (fun ys hy1 hy2 => ?_)
    · obtain ⟨w0, _, rfl⟩ := List.mem_map.mp hrow
      decreasing_trivial_pre_omega
      intro x hx1 hx2
      exact q9 _ ⟨x, rfl, hx1, by omega⟩
    · obtain ⟨xs, rfl, hxs⟩ : ∃ xs : List PyData, ys = xs.map W.d ∧ ∀ x ∈ xs, TrT 11 x ∧ nn x ≤ 2 := dats_any hy2
      have hxl : xs.length = (1 + m).toNat := by
        have := hy1
        unfold rng at this
        rw [List.length_map, rows1_len, List.length_map, List.length_range] at this
        exact this
      rw [List.nil_append, gDs_map]
      obtain ⟨s0, ks, rfl, hkl⟩ : ∃ s0 ks, e = .tuple [.str s0, .tuple ks] ∧ ks.length ≤ 60 := by
        obtain ⟨s, ks, e1, _, e2, _⟩ := node_at ht hs
        have := len_nn ks
        exact ⟨s, ks, e1, by omega⟩
      decreasing_trivial_pre_omega
      refine ⟨d, _, q, 12, rfl, ⟨ht, hs⟩, ?_⟩
      decreasing_trivial_pre_omega
      intro n n0 n1
      decreasing_trivial_pre_omega
      have en : (.int n : PyData) = .int ((n.toNat : Nat) : Int) := by congr 1; omega
      rw [en]
      have f4 : nnAll xs ≤ 4 := by
        have : ∀ l : List PyData, (∀ x ∈ l, TrT 11 x ∧ nn x ≤ 2) → nnAll l ≤ 2 * l.length := fun l => by
          induction l with
          | nil => intro _; rw [nnAll]; exact Nat.zero_le _
          | cons x l ih =>
            intro h
            have a1 := (h x (.head _)).2
            have a2 := ih fun z hz => h z (.tail _ hz)
            rw [nnAll, List.length_cons]
            omega
        have := this xs hxs
        omega
      refine h2 (.put q n.toNat xs) ⟨hq, ⟨_, hs, by rw [kidsD_node]; omega⟩, fun z => ?_, fun x hx => tree_iff.mpr ⟨(hxs x hx).1.mono (by decide), by have := (hxs x hx).2; omega⟩, by omega⟩ fun q2 n2 t2 z => ?_
      · rw [z] at hxl
        simp at hxl
        omega
      · cases z
        exact ⟨fun x hx => (hxs x hx).1, f4⟩
/-- a drawn side -/
@[reducible] def tfSideL : TF := fun ws M R _ => ∃ (st : Addr) (d : PyData) (m : Nat), ws = [.r st, .d d, .d (.int (m : Nat))] ∧ (M st = some (.src false) ∧ TrT 11 d ∧ nn d ≤ 14 ∧ m ≤ 9) ∧ ∀ es : List Edt, OkSide d es → (∀ e ∈ es, FewT e) → es.length ≤ 9 → R (.d (.tuple (es.map Edt.d))) M
abbrev sSideL : Stmt := top 59
theorem scSideL : FnScope ["_law_state_here", "_law_tree_here", "_law_many", "_law_found", "_law_k", "_law_behind", "_law_edit_here", "_law_one"] ["_law_state_here", "_law_tree_here", "_law_many"] (defScope sSideL) := ⟨rfl, rfl, rfl, by decide +kernel, rfl, by decide +kernel, by decide +kernel⟩
theorem ok_sideL {f : Addr} {fd : FuncData} {k j : Nat} (F : Fun K "_law_side" "_law_side" sSideL f fd) (U_law_edit : Use P w K mg base "_law_edit" ["_law_state_here", "_law_tree_here"] j (spD K 2 tfEditL)) (U_law_key : Use P w K mg base "_law_key" ["_law_edit_here"] j (spD K 1 tfKeyL)) (U_law_disturbs : Use P w K mg base "_law_disturbs" ["_law_edit_here", "_law_other"] j (spD K 2 tfDist)) (U_law_side_done : Use P w K mg base "_law_side_done" ["_law_tree_here", "_law_side_here"] j (spD K 2 tfSideD)) (U_law_still : Use P w K mg base "_law_still" ["_law_live_here"] j (spD K 1 (tfStillS 30))) (U_law_places : Use P w K mg base "_law_places" ["_law_tree_here", "_law_path"] j (spD K 2 (tfPls 30))) (U_law_levels : Use P w K mg base "_law_levels" ["_law_tree_here"] j (spD K 1 (tfN lev 30))) (hj : j + 1 ≤ k) (T : Bl mg) (mSrt : mg "sorted" = none) : FnOk P w K mg base CX0 (k + 1) f fd ["_law_state_here", "_law_tree_here", "_law_many"] (spD K 3 tfSideL) := by
  refine okDL F scSideL rfl fun cdv A outer s H E hr => ?_
  refine ⟨_, _, (pss_cons (ps_set (i := 3) scSideL.nd rfl (.inl rfl) (pe_lst pa_nil))
    (pss_cons (ps_for PassesOwn.never rfl (pi_range1 (by rfl) T.range (pa_cons (pv 2) pa_nil)) (pg_name (i := 4) scSideL.nd rfl (.inl rfl)) (pss_cons (ps_set (i := 6) scSideL.nd rfl (.inr rfl) (pe_call U_law_edit.ok (hr.mono (by omega)) rfl U_law_edit.m U_law_edit.kp U_law_edit.b .nil pass0 (pa_cons (pv 0) (pa_cons (pv 1) pa_nil))))
      (pss_one (ps_if (PW.pt (pw_and (pt_cmpR (op_neD hr.units) (pv 6) (pe_tup (pa_cons pe_str (pa_cons (pe_tup pa_nil) pa_nil))) (nomark _)) (pw_and1 (pt_cmpR (op_eqN hr.units) (pe_lc (own := [("_law_one", 7)]) (g := gName 7) (by rfl) scSideL.nd (pi_list (pv 3)) (blkOk_by (N := ["_law_state_here", "_law_tree_here", "_law_many", "_law_found", "_law_k", "_law_behind", "_law_edit_here", "_law_one"]) (sc := defScope sSideL) (own := [("_law_one", 7)]) (by decide +kernel)) (fun _ _ _ _ _ => pg_name (i := 7) scSideL.nd rfl (Or.inl rfl)) (fun _ _ _ _ _ => (pts_one (pt_cmpR (op_eqD hr.units) (pe_call U_law_key.ok (hr.mono (by omega)) rfl U_law_key.m U_law_key.kp U_law_key.b .nil pass0 (pa_cons (pv 7) pa_nil)) (pe_call U_law_key.ok (hr.mono (by omega)) rfl U_law_key.m U_law_key.kp U_law_key.b .nil pass0 (pa_cons (pv 6) pa_nil)) (nomark _)))) (fun _ _ _ _ _ => (pv 7))) (pe_lst pa_nil) (nomark _))))) (pss_one (ps_if (pt_cmpR (op_eqN hr.units) (pe_lc (own := [("_law_one", 7)]) (g := gName 7) (by rfl) scSideL.nd (pi_list (pv 3)) (blkOk_by (N := ["_law_state_here", "_law_tree_here", "_law_many", "_law_found", "_law_k", "_law_behind", "_law_edit_here", "_law_one"]) (sc := defScope sSideL) (own := [("_law_one", 7)]) (by decide +kernel)) (fun _ _ _ _ _ => pg_name (i := 7) scSideL.nd rfl (Or.inl rfl)) (fun _ _ _ _ _ => (pts_one (PW.pt (pw_or (pt_val (pe_call U_law_disturbs.ok (hr.mono (by omega)) rfl U_law_disturbs.m U_law_disturbs.kp U_law_disturbs.b .nil pass0 (pa_cons (pv 7) (pa_cons (pv 6) pa_nil)))) (pw_or1 (pt_val (pe_call U_law_disturbs.ok (hr.mono (by omega)) rfl U_law_disturbs.m U_law_disturbs.kp U_law_disturbs.b .nil pass0 (pa_cons (pv 6) (pa_cons (pv 7) pa_nil))))))))) (fun _ _ _ _ _ => (pv 7))) (pe_lst pa_nil) (nomark _)) (pss_one (ps_expr (pe_bm PySem.F.plainAttrs_list PySem.F.slot_list_append PySem.F.type_list_append mt_append (pv 3) (pa_cons (pv 6) pa_nil)))) pss_nil)) pss_nil))))
    (pss_cons (ps_set (i := 3) scSideL.nd rfl (.inl rfl) (pe_sortedFn (key := keyLf) U_law_key.ok U_law_key.b (hr.mono (by omega)) (by rfl) mSrt (by rfl) U_law_key.m (pa_cons (pv 3) pa_nil)))
    (pss_cons (ps_set (i := 5) scSideL.nd rfl (.inl rfl) (pe_call U_law_still.ok (hr.mono (by omega)) rfl U_law_still.m U_law_still.kp U_law_still.b .nil pass0 (pa_cons (pe_call U_law_side_done.ok (hr.mono (by omega)) rfl U_law_side_done.m U_law_side_done.kp U_law_side_done.b .nil pass0 (pa_cons (pv 1) (pa_cons (pe_callTy call_tuple_of (by rfl) T.tuple PyProof.Rows.boot_tuple (pa_cons (pv 3) pa_nil)) pa_nil))) pa_nil)))
    (pss_cons (ps_if (PW.pt (pw_or (pt_cmpR op_gt (pe_callB call_len_seq (by rfl) T.len PySem.boot_len (pa_cons (pe_call U_law_places.ok (hr.mono (by omega)) rfl U_law_places.m U_law_places.kp U_law_places.b .nil pass0 (pa_cons (pv 5) (pa_cons (pe_tup pa_nil) pa_nil))) pa_nil)) pe_int (nomark _)) (pw_or1 (pt_cmpR op_gt (pe_call U_law_levels.ok (hr.mono (by omega)) rfl U_law_levels.m U_law_levels.kp U_law_levels.b .nil pass0 (pa_cons (pv 5) pa_nil)) pe_int (nomark _))))) (pss_one (ps_ret (pe_tup pa_nil))) pss_nil)
    (pss_one (ps_ret (pe_callTy call_tuple_of (by rfl) T.tuple PyProof.Rows.boot_tuple (pa_cons (pv 3) pa_nil))))))))),
    (ss_cons (ss_set (se_lst sa_nil))
    (ss_cons (ss_for (si_r1 (sa_cons se_nm sa_nil)) sg_name (ss_cons (ss_set (se_call (sa_cons se_nm (sa_cons se_nm sa_nil))))
      (ss_if (st_and (st_test (se_op so_neD se_nm (se_tup (sa_cons se_str (sa_cons (se_tup sa_nil) sa_nil))))) (st_test (se_op so_eqN (se_lcF (si_lst se_nm) sg_name (st_test (se_op so_eqD (se_call (sa_cons se_nm sa_nil)) (se_call (sa_cons se_nm sa_nil)))) se_nm) (se_lsf sa_nil)))) (ss_if (st_test (se_op so_eqN (se_lcF (si_lst se_nm) sg_name (st_or (st_val (se_call (sa_cons se_nm (sa_cons se_nm sa_nil)))) (st_val (se_call (sa_cons se_nm (sa_cons se_nm sa_nil))))) se_nm) (se_lsf sa_nil))) (ss_drop (se_bmL sm_append se_nm (sa_cons se_nm sa_nil))) ss_nil) ss_nil)))
    (ss_cons (ss_set (se_sortedFn (sa_cons se_nm sa_nil)))
    (ss_cons (ss_set (se_call (sa_cons (se_call (sa_cons se_nm (sa_cons (se_cb sc_tuple (sa_cons se_nm sa_nil)) sa_nil))) sa_nil)))
    (ss_cons (ss_if (st_or (st_test (se_op so_gt (se_cb sc_len (sa_cons (se_call (sa_cons se_nm (sa_cons (se_tup sa_nil) sa_nil))) sa_nil)) se_int)) (st_test (se_op so_gt (se_call (sa_cons se_nm sa_nil)) se_int))) (ss_ret (se_tup sa_nil)) ss_nil)
    (ss_ret (se_cb sc_tuple (sa_cons se_nm sa_nil)))))))), fun ws M R RX hl h => ?_⟩
  obtain ⟨st, d, m, rfl, ⟨hM, ht, hn, hm⟩, h2⟩ := h
  have ht12 : TrT 12 d := ht.mono (by decide)
  simp only [start0, len_c, len_n, map_c, map_n, app_c, app_n, rep_0, rep_s, Nat.reduceAdd, Nat.reduceSub]
  decreasing_trivial_pre_omega
  intro p hp
  have sp : st ≠ p := fun z => by rw [z, hp] at hM; cases hM
  decreasing_trivial_pre_omega
  have hrl : (rng 0 (m : Int).toNat).length = m := by unfold rng; rw [List.length_map, List.length_range]; rfl
  refine forR (fun i ρ M1 => ∃ (es : List Edt) (y4 y5 y6 y7 : Option W), ρ = [some (.r st), some (.d d), some (.d (.int (m : Int))), some (.r p), y4, y5, y6, y7] ∧ M1 = mset M p (.lst (es.map fun e => W.d e.d)) ∧ es.length ≤ i ∧ (∀ e ∈ es, EdOk d e) ∧ (∀ e ∈ es, FewT e) ∧ UniqE es ∧ (es.Pairwise fun a b => takesE a b = false ∧ takesE b a = false))
    ⟨[], none, none, none, none, rfl, rfl, Nat.le_refl _, (fun e he => by cases he), (fun e he => by cases he), .nil, .nil⟩ (fun _ _ _ _ _ => trivial) (fun i ρ M1 N hi pv hN => ?_) (fun ρ M1 pv => ?_)
  · obtain ⟨es, y4, y5, y6, y7, rfl, rfl, le, ho, hf, hu, ha⟩ := pv
    have M1st : mset M p (.lst (es.map fun e => W.d e.d)) st = some (.src false) := by rw [mset_ne sp]; exact hM
    decreasing_trivial_pre_omega
    refine ⟨st, d, rfl, ⟨M1st, ht12, by omega⟩, fun e oe fe => ?_⟩
    obtain ⟨q1, q2, q3⟩ := edt_eq ht12 (by omega) oe fe
    have ql := oe.len
    decreasing_trivial_pre_omega
    refine ⟨⟨q3, by decide +kernel⟩, ?_⟩
    rw [eqv_root oe]
    refine IfB.t rfl ?_
    have kl2 := kL_eq ht12 (by omega) oe
    decreasing_trivial_pre_omega
    refine lc1f (keep := fun M9 => M9 p = some (.lst (es.map fun e => W.d e.d))) (xs := es) (f := fun e => W.d e.d) (fun o => decide (o.q = e.q ∧ o.w = e.w ∧ o.n = e.n)) (fun o => W.d o.d) mset_same (fun o hm Rk Rn q4 q5 => ?_) (sz1000 (by omega)) ?_
    · have kl1 := kL_eq ht12 (by omega) (ho o hm)
      decreasing_trivial_pre_omega
      refine ⟨o, rfl, ?_⟩
      decreasing_trivial_pre_omega
      refine ⟨e, rfl, ?_⟩
      decreasing_trivial_pre_omega
      refine ⟨⟨kl1.1, kl2.1⟩, ?_⟩
      rw [eqv_kL]
      by_cases hc : o.q = e.q ∧ o.w = e.w ∧ o.n = e.n
      · rw [decide_eq_true hc]
        exact IfB.t rfl (q4 (decide_eq_true hc))
      · rw [decide_eq_false hc]
        exact IfB.f rfl (q5 (decide_eq_false hc))
    rw [show (es.filter fun o => decide (o.q = e.q ∧ o.w = e.w ∧ o.n = e.n)).map (fun o => W.d o.d) = ((es.filter fun o => decide (o.q = e.q ∧ o.w = e.w ∧ o.n = e.n)).map Edt.d).map W.d by rw [List.map_map]; rfl, gDs_map]
    decreasing_trivial_pre_omega
    cases hf1 : (es.filter fun o => decide (o.q = e.q ∧ o.w = e.w ∧ o.n = e.n)).map Edt.d with
    | cons z zs =>
      refine IfB.f rfl ?_
      decreasing_trivial_pre_omega
      exact hN _ _ ⟨es, _, _, _, _, rfl, rfl, by omega, ho, hf, hu, ha⟩
    | nil =>
      have hno : ∀ o ∈ es, ¬ (o.q = e.q ∧ o.w = e.w ∧ o.n = e.n) := fun o hm z => by
        have : o ∈ es.filter fun o => decide (o.q = e.q ∧ o.w = e.w ∧ o.n = e.n) := List.mem_filter.mpr ⟨hm, decide_eq_true z⟩
        rw [List.map_eq_nil_iff] at hf1
        rw [hf1] at this
        cases this
      decreasing_trivial_pre_omega
      refine lc1f (keep := fun M9 => M9 p = some (.lst (es.map fun e => W.d e.d))) (xs := es) (f := fun e => W.d e.d) (fun o => takesE o e || takesE e o) (fun o => W.d o.d) mset_same (fun o hm Rk Rn q4 q5 => ?_) (sz1000 (by omega)) ?_
      · have ol := (ho o hm).len
        decreasing_trivial_pre_omega
        refine ⟨o, e, rfl, ⟨ol, ql⟩, ?_⟩
        cases c1 : takesE o e
        · rw [c1, Bool.false_or] at q4 q5
          decreasing_trivial_pre_omega
          refine ⟨e, o, rfl, ⟨ql, ol⟩, ?_⟩
          cases c2 : takesE e o
          · exact IfB.f rfl (q5 c2)
          · exact IfB.t rfl (q4 c2)
        · rw [c1, Bool.true_or] at q4
          decreasing_trivial_pre_omega
          exact q4 rfl
      rw [show (es.filter fun o => takesE o e || takesE e o).map (fun o => W.d o.d) = ((es.filter fun o => takesE o e || takesE e o).map Edt.d).map W.d by rw [List.map_map]; rfl, gDs_map]
      decreasing_trivial_pre_omega
      cases hf2 : (es.filter fun o => takesE o e || takesE e o).map Edt.d with
      | cons z zs =>
        refine IfB.f rfl ?_
        decreasing_trivial_pre_omega
        exact hN _ _ ⟨es, _, _, _, _, rfl, rfl, by omega, ho, hf, hu, ha⟩
      | nil =>
        have hno2 : ∀ o ∈ es, takesE o e = false ∧ takesE e o = false := fun o hm => by
          have : ¬ (takesE o e || takesE e o) = true := fun z => by
            have : o ∈ es.filter fun o => takesE o e || takesE e o := List.mem_filter.mpr ⟨hm, z⟩
            rw [List.map_eq_nil_iff] at hf2
            rw [hf2] at this
            cases this
          rw [Bool.not_eq_true, Bool.or_eq_false_iff] at this
          exact this
        decreasing_trivial_pre_omega
        rw [mset_mset]
        refine hN _ _ ⟨es ++ [e], _, _, _, _, rfl, by rw [List.map_append]; rfl, by rw [List.length_append, List.length_singleton]; omega, fun o hm => ?_, fun o hm => ?_, ?_, ?_⟩
        · rcases List.mem_append.mp hm with hm | hm
          · exact ho o hm
          · rw [List.mem_singleton.mp hm]; exact oe
        · rcases List.mem_append.mp hm with hm | hm
          · exact hf o hm
          · rw [List.mem_singleton.mp hm]; exact fe
        · refine List.pairwise_append.mpr ⟨hu, List.pairwise_singleton _ _, fun o hm z hz => ?_⟩
          rw [List.mem_singleton.mp hz]
          exact hno o hm
        · refine List.pairwise_append.mpr ⟨ha, List.pairwise_singleton _ _, fun o hm z hz => ?_⟩
          rw [List.mem_singleton.mp hz]
          exact hno2 o hm
  · obtain ⟨es, y4, y5, y6, y7, rfl, rfl, le, ho, hf, hu, ha⟩ := pv
    rw [show ((m : Int)).toNat = m from rfl] at le
    have mw : (es.map fun e => W.d e.d) = (es.map Edt.d).map W.d := by rw [List.map_map]; rfl
    rw [mw]
    have kf : KeysF keyLf (es.map Edt.d) := by
      have ek : (es.map Edt.d).map keyLf = es.map Edt.kL := by rw [List.map_map]; exact List.map_congr_left fun e _ => keyL_d e
      refine ⟨?_, .inr fun x hx => ?_, fun x hx => ?_⟩
      · rw [ek]
        intro x hx y hy
        obtain ⟨a, _, rfl⟩ := List.mem_map.mp hx
        obtain ⟨b, _, rfl⟩ := List.mem_map.mp hy
        show PySem.W.alike (.list [pathD a.q, .str a.w, .int (a.n : Nat)]) (.list [pathD b.q, .str b.w, .int (b.n : Nat)]) = true
        simp [PySem.W.alike, PySem.W.alikeAll, alike_path]
      · rw [ek] at hx
        obtain ⟨a, _, rfl⟩ := List.mem_map.mp hx
        exact ⟨(fun z => by cases z), fun xs z => by cases z⟩
      · obtain ⟨a, ha2, rfl⟩ := List.mem_map.mp hx
        rw [keyL_d]
        exact (kL_eq ht12 (by omega) (ho a ha2)).2
    have es2 : srtF keyLf (es.map Edt.d) = (srtE es).map Edt.d := by
      unfold srtF srtE
      rw [← List.map_mergeSort (f := Edt.d) (r := leE) (s := PySem.W.dataLe false keyLf)]
      intro a _ b _
      show (!PySem.W.dataLt b.kL a.kL) = (!PySem.W.dataLt (keyLf b.d) (keyLf a.d))
      rw [keyL_d, keyL_d]
    have hoS : ∀ e ∈ srtE es, EdOk d e := fun e he => ho e ((srtE_perm es).mem_iff.mp he)
    have hfS : ∀ e ∈ srtE es, FewT e := fun e he => hf e ((srtE_perm es).mem_iff.mp he)
    have uS : UniqE (srtE es) := uniq_perm (srtE_perm es).symm hu
    have sr : SideR d (srtE es) := side_of hoS (srtE_up hu) (apart_perm (srtE_perm es).symm ha)
    have lS : (srtE es).length = es.length := (srtE_perm es).length_eq
    generalize srtE es = ss at es2 hoS hfS uS sr lS
    have mild := few_mild hoS hfS
    have sub2 : ∀ e ∈ nOut ss, e ∈ ss := fun e he => (List.mem_filter.mp he).1
    have mild2 := few_mild (fun e he => hoS e (sub2 e he)) (fun e he => hfS e (sub2 e he))
    have bt := bhd_tr mild [] ht
    have bn := bhd_nn mild [] ht
    have bt2 := bhd_tr mild2 [] ht
    have bn2 := bhd_nn mild2 [] ht
    have e9 := still_labd mild.tr [] ht
    have e8 := still_wo mild.tr [] ht
    have n60 : nn d ≤ 60 := by omega
    decreasing_trivial_pre_omega
    refine ⟨⟨kf, fun x hx R' RX hR => ?_⟩, ?_⟩
    · obtain ⟨a, _, rfl⟩ := List.mem_map.mp hx
      rw [keyL_d] at hR
      exact ⟨a, rfl, hR⟩
    rw [es2]
    decreasing_trivial_pre_omega
    refine ⟨d, ss, rfl, ⟨ht12, n60, uS, hoS, by omega, by rw [e9]; exact bt2.mono (by decide), by rw [e9]; omega⟩, fun a M' k9 f9 => ?_⟩
    decreasing_trivial_pre_omega
    refine ⟨(labd ss [] d).wo ss, .r a, rfl, ⟨f9 M' fun _ _ _ => rfl, by rw [e8]; exact bt.mono (by decide), by rw [e8]; omega⟩, ?_⟩
    rw [e8]
    have b30 : TrT 30 (bhd ss [] d) := bt.mono (by decide)
    have bnn : nn (bhd ss [] d) ≤ 200 := by omega
    have plen : ((pls [] (plc (bhd ss [] d))).map W.d).length = nn (bhd ss [] d) := by
      unfold pls
      rw [List.length_map, List.length_map, plc_len b30]
    have keepM : ∀ x o, M x = some o → M' x = some o := fun x o h => by
      have nx : x ≠ p := fun z => by rw [z, hp] at h; cases h
      rw [k9 x (by rw [mset_ne nx, h]; exact fun z => nomatch z), mset_ne nx]
      exact h
    have none_ok : lax R (W.d (.tuple [])) M' := ⟨M, keepM, h2 [] ⟨tree_iff.mpr ⟨ht12, n60⟩, .nil, by decide, by rw [bhd_nil [] ht]; exact n60, by rw [bhd_nil [] ht]; exact lev_le ht12⟩ (fun e he => by cases he) (by decide)⟩
    decreasing_trivial_pre_omega
    refine ⟨_, [], rfl, ⟨b30, bnn, by decide⟩, ?_⟩
    decreasing_trivial_pre_omega
    refine IfB.d (fun c1 => ?_) (fun c1 => ?_)
    · decreasing_trivial_pre_omega
      exact none_ok
    rw [plen] at c1
    decreasing_trivial_pre_omega
    refine IfB.d (fun c2 => ?_) (fun c2 => ?_)
    · decreasing_trivial_pre_omega
      exact none_ok
    decreasing_trivial_pre_omega
    exact ⟨M, keepM, h2 ss ⟨tree_iff.mpr ⟨ht12, n60⟩, sr, by omega, by omega, by omega⟩ hfS (by omega)⟩
end
end Tl
set_option Elab.async false
set_option linter.all false
set_option maxRecDepth 100000
set_option maxHeartbeats 4000000
/-! A tree read out of a row of numbers. -/
namespace Tl
open PySem L2
def ltr (cs : List Nat) : Str := Str.mk (cs.map fun c => c + 96).toArray
/-- so many, one behind another -/
def rep (f : Nat → Nat → Nat ⊕ (PyData × Nat × Nat)) : Nat → Nat → Nat → Nat ⊕ (List PyData × Nat × Nat)
  | 0, i, due => .inr ([], i, due)
  | m + 1, i, due => match f i due with
    | .inl j => .inl j
    | .inr (d, i2, due2) => match rep f m i2 due2 with
      | .inl j => .inl j
      | .inr (ks, i3, due3) => .inr (d :: ks, i3, due3)
end Tl
set_option Elab.async false
set_option linter.all false
set_option maxRecDepth 100000
set_option maxHeartbeats 4000000
/-! The numbers of a tree; what is read out of a row is the tree that has it. -/
namespace Tl
open PySem L2
mutual
def nums : PyData → List PyData
  | .tuple [.str s, .tuple ks] => (PyData.int (ks.length : Nat) :: .int (s.length : Nat) :: s.cps.toList.map fun c : Nat => PyData.int ((c : Int) - 96)) ++ numsAll ks
  | _ => []
def numsAll : List PyData → List PyData
  | [] => []
  | k :: ks => nums k ++ numsAll ks
end
end Tl
set_option Elab.async false
set_option linter.all false
set_option maxRecDepth 100000
set_option maxHeartbeats 4000000
/-! A tree read out of a text. -/
set_option Elab.async false
set_option linter.all false
set_option maxRecDepth 100000
set_option maxHeartbeats 4000000
/-! Parts of a text. -/
namespace Tl
open PySem L2
theorem mk_of (s : Str) : Str.mk s.cps.toList.toArray = s := rfl
end Tl
set_option Elab.async false
set_option linter.all false
set_option maxRecDepth 100000
set_option maxHeartbeats 4000000
/-! The text of a tree: how long, and as a join. -/
set_option Elab.async false
set_option linter.all false
set_option maxRecDepth 100000
set_option maxHeartbeats 4000000
/-! Where a text stops, told sign by sign: s is 0 where a tag is needed, 1 in a tag, 2 behind a part. -/
set_option Elab.async false
set_option linter.all false
set_option maxRecDepth 100000
set_option maxHeartbeats 4000000
/-! The automaton stops where the reader stops. -/
set_option Elab.async false
set_option linter.all false
set_option maxRecDepth 100000
set_option maxHeartbeats 4000000
/-! The automaton stops where the reader stops: whole parts. -/
set_option Elab.async false
set_option linter.all false
set_option maxRecDepth 100000
set_option maxHeartbeats 4000000
/-! Signs of a tree's text; where the automaton stops. -/
set_option Elab.async false
set_option linter.all false
set_option maxRecDepth 100000
set_option maxHeartbeats 4000000
/-! The numbers of a tree are small. -/
set_option Elab.async false
set_option linter.all false
set_option maxRecDepth 100000
set_option maxHeartbeats 4000000
/-! What is sent of a tree is read back. -/
set_option Elab.async false
set_option linter.all false
set_option maxRecDepth 100000
set_option maxHeartbeats 4000000
/-! The places of a tree, one behind another, with their parts; where they begin in what is sent. -/
set_option Elab.async false
set_option linter.all false
set_option maxRecDepth 100000
set_option maxHeartbeats 4000000
/-! Own ==, != and len. -/
namespace Tl
open PySem PySem.Spec PyProof.Rows L2
/-- what of a class with an own == must stand -/
structure EqC (K : PySem.W.Frag) (C f : Addr) : Prop where
  at_ : PySem.W.findIn K (.ref C) "__eq__" = some (some (.ref f))
  fn : PySem.W.isFn K (.ref f) = true
  ne : PySem.W.findIn K (.ref C) "__ne__" = some (some (.builtin "object.__ne__"))
  ob : PySem.W.mroIn K C (.type "object") = some true
end Tl
set_option Elab.async false
set_option linter.all false
set_option maxRecDepth 100000
set_option maxHeartbeats 4000000
/-! Except clauses with and without a name; what is read of own classes; try .. finally. -/
namespace Tl
open PySem PySem.Spec PyProof.Rows L2
/-- what the clauses wish, one behind another -/
def wML (K : PySem.W.Frag) (i : Nat) (Wout : WX) (D : Ends) : List (Bool × Value × (Addr → Value → Option Addr → TS)) → WX
  | [] => Wout
  | (true, c, ts) :: r => wAs K c i ts (wML K i Wout D r) D
  | (false, c, ts) :: r => wOnly K c ts (wML K i Wout D r) D
inductive HdsM (X : Cx) (n : Str) : List ExceptHandler → List (Bool × Value × (Addr → Value → Option Addr → TS)) → Prop
  | nil : HdsM X n [] []
  | cons {x : Str} {c : Value} {ts : Addr → Value → Option Addr → TS} {s0 : Stmt} {su : List Stmt} {np ps : Pos} {hds : List ExceptHandler} {l : List (Bool × Value × (Addr → Value → Option Addr → TS))} (hc : Names X x c)
      (hsu : ∀ (a : Addr) (oe : Obj) (cls : Value) (d : Option Addr) (pn : List (Addr × Obj)), Zc cls d oe → (∃ vs, oe.data = .fields vs) → PSs (X.suite a ((a, oe) :: pn)) (s0 :: su) (ts a cls d)) (r : HdsM X n hds l) :
      HdsM X n (.ExceptHandler (some (.Name x np)) (some n) (s0 :: su) ps :: hds) ((true, c, ts) :: l)
  | anon {x : Str} {c : Value} {ts : Addr → Value → Option Addr → TS} {s0 : Stmt} {su : List Stmt} {np ps : Pos} {hds : List ExceptHandler} {l : List (Bool × Value × (Addr → Value → Option Addr → TS))} (hc : Names X x c)
      (hsu : ∀ (a : Addr) (oe : Obj) (cls : Value) (d : Option Addr) (pn : List (Addr × Obj)), Zc cls d oe → (∃ vs, oe.data = .fields vs) → PSs (X.suite a ((a, oe) :: pn)) (s0 :: su) (ts a cls d)) (r : HdsM X n hds l) :
      HdsM X n (.ExceptHandler (some (.Name x np)) none (s0 :: su) ps :: hds) ((false, c, ts) :: l)
section
variable {X : Cx} {n : Str} {i : Nat} {bd : List Stmt} {h0 : ExceptHandler} {hds : List ExceptHandler} {l : List (Bool × Value × (Addr → Value → Option Addr → TS))} {pt : Pos} {tb : WX → TS} {Wout : WX}
/-- the end of the try where its body has raised -/
theorem mL_catch (hs : X.stack = X.env :: X.outer) (hf : X.env.frame = some X.env.locals) (hN : X.N.Nodup) (hi : X.N[i]? = some n) (hln : X.env.kindOf n = some .local) (tk : Takes X Wout) (hh : HdsM X n hds l)
    {pins pn' : List (Addr × Obj)} {xe' : Value → Shared → Prop} {D : Ends} {u : Value} {t : Shared} (ok : X.Ok) (xx : XE (X.tr (X.pn ++ pins) xe') (wML X.K i Wout D l) u t) :
    wpAny (model X.prog X.w) X.A (noteFrame u X.env) (fun _ t2 => wpAny (model X.prog X.w) X.A (setFlight u none) (fun _ t3 => wpAny (model X.prog X.w) X.A (handleBy u X.env hds) (SP X pins D) X.xe t3) X.xe t2) X.xe t := by
  obtain ⟨a, B, t0, _, τ, G, cls, d, rfl, J0, nb, up, sky, na, os, ag, hw⟩ := xx
  have J : Inv X pins τ G t0 := by
    have := J0.ofTry ok
    exact this
  have frames : X.A.frames = some (X.env :: X.outer) := by rw [ok.frames, hs]
  have sky1 : Sky B (X.env :: X.outer) a (Zc cls d) X.env.locals t.heap := hs ▸ sky
  refine Sky.land Zc.steady frames hf sky1 fun hA flA upA => ?_
  have JA : Inv X pins τ G { t with heap := hA } := J.landed nb flA.1 (up.trans upA) os ag
  obtain ⟨oA, vA, gA, zA, dA⟩ := flA.there
  have far : a ∉ frs (X.env :: X.outer) := fun m => by
    obtain ⟨_, o2, g2, no⟩ := flA.2.2.1.mem m
    have e2 : oA = o2 := Option.some.inj (gA.symm.trans g2)
    exact no _ (e2 ▸ dA)
  have nL : a ≠ X.env.locals := fun z => far (List.mem_filterMap.mpr ⟨_, List.mem_cons_self, by rw [hf, z]⟩)
  have nF : a ∉ X.fs := fun m => by
    obtain ⟨e, me, qe⟩ := List.mem_filterMap.mp m
    exact far (List.mem_filterMap.mpr ⟨e, .tail _ me, qe⟩)
  have SA := JA.suite gA dA na nL nF
  induction hh with
  | nil =>
    refine wpAny_handleBy_nil ?_
    obtain ⟨_, _, _, o5, v5, tr, _, _, g5, _, d5, h5, _⟩ := id flA
    unfold PySem.passOn
    refine wpAny_bind (wpAny_field g5 d5 h5 ?_)
    rw [if_neg (by simp)]
    have last : wpAny (model X.prog X.w) X.A (setFlight (.ref a) X.env.frame) (fun _ t4 => wpAny (model X.prog X.w) X.A (throw (.ref a) : Sem Flow) (SP X pins D) X.xe t4) X.xe { t with heap := hA } := by
      rw [hf]
      refine HandSPX.setFlight_upZ flA fun h6 hl6 up6 => wpAny_throw (tk _ _ ⟨a, B, t0, pins, τ, G, cls, d, rfl, J, nb, (up.trans upA).trans up6, ?_, na, os, ag, hw⟩)
      rw [hs]
      exact .inr (.inr hl6)
    first
      | exact wpAny_bind (wpAny_pure (wpAny_bind last))
      | exact wpAny_bind last
  | @cons x c ts s0 su np ps hds2 l2 hc hsu r ih =>
    obtain ⟨yes, hy, hyes, hno⟩ := hw
    refine wpAny_handleBy_cons (codeAny_handlers_test ?_) (fun q => nomatch q)
    have fits := PySem.W.exm_one (M := model X.prog X.w) JA.kIn (fun A Q E r k q => wpAny_typeOf_ref (k _ _ gA) (by rw [zA.1]; exact q)) hy
    have name : ∀ {Q : Value → Shared → Prop} {E : Value → Shared → Prop}, Q c { t with heap := hA } → wpAny (model X.prog X.w) (X.A.mark (some (.ref a))) (eval (.Name x np) X.env) Q E { t with heap := hA } := by
      intro Q E q
      rcases hc with ⟨g, db, m | ⟨m, v, nn⟩⟩
      · exact ld_glob (X := X.suite a ((a, oA) :: (X.pn ++ pins))) SA g m q db
      · exact ld_blt (X := X.suite a ((a, oA) :: (X.pn ++ pins))) SA g m v q nn db
    refine name (fits.here ?_)
    cases yes with
    | false => exact ih (hno rfl)
    | true =>
      refine codeAny_handlers_suite_as (HandSPX.lands_againZ flA fun hC flC upC => ?_)
      have JC : Inv X pins τ G { t with heap := hC } := J.landed nb flC.1 ((up.trans upA).trans upC) os ag
      obtain ⟨oC, vC, gC, zC, dC⟩ := flC.there
      refine store_ok (X := X.suite a ((a, oC) :: (X.pn ++ pins))) (v := .ref a) (JC.suite gC dC na nL nF) hN hi (.inl hln) rfl (fun t5 S5 => ?_) (.inr hln)
      refine wpAny_mono ((hsu a oC cls d (X.pn ++ pins) zC ⟨_, dC⟩).run [] t5 _ G _ S5 (hyes rfl a na)) (fun f t6 got => ?_) (fun _ _ z => z.elim)
      have plain : ∀ {τ6 : L2.St} {G6 : Hp} {Q : Shared → Prop}, Inv (X.suite a ((a, oC) :: (X.pn ++ pins))) [] τ6 G6 t6 → (∀ t7, Inv X pins (τ6.set i none) G6 t7 → Q t7) →
          wpAny (model X.prog X.w) X.A (do bindName X.env n .none; unbindBehindTheSuite X.env n ps) (fun _ t7 => Q t7) X.xe t6 := fun S q => gone_ok (S.unsuite ok) hN hi hln q
      cases f with
      | next =>
        obtain ⟨_, _, S6, q6⟩ := got
        exact plain S6 fun _ J7 => ⟨_, _, J7, q6⟩
      | brk =>
        obtain ⟨_, _, S6, q6⟩ := got
        exact plain S6 fun _ J7 => ⟨_, _, J7, q6⟩
      | cont =>
        obtain ⟨_, _, S6, q6⟩ := got
        exact plain S6 fun _ J7 => ⟨_, _, J7, q6⟩
      | ret v =>
        obtain ⟨_, _, _, S6, r6, q6⟩ := got
        exact plain S6 fun _ J7 => ⟨_, _, _, J7, r6, q6⟩
  | @anon x c ts s0 su np ps hds2 l2 hc hsu r ih =>
    obtain ⟨yes, hy, hyes, hno⟩ := hw
    refine wpAny_handleBy_cons (codeAny_handlers_test ?_) (fun q => nomatch q)
    have fits := PySem.W.exm_one (M := model X.prog X.w) JA.kIn (fun A Q E r k q => wpAny_typeOf_ref (k _ _ gA) (by rw [zA.1]; exact q)) hy
    have name : ∀ {Q : Value → Shared → Prop} {E : Value → Shared → Prop}, Q c { t with heap := hA } → wpAny (model X.prog X.w) (X.A.mark (some (.ref a))) (eval (.Name x np) X.env) Q E { t with heap := hA } := by
      intro Q E q
      rcases hc with ⟨g, db, m | ⟨m, v, nn⟩⟩
      · exact ld_glob (X := X.suite a ((a, oA) :: (X.pn ++ pins))) SA g m q db
      · exact ld_blt (X := X.suite a ((a, oA) :: (X.pn ++ pins))) SA g m v q nn db
    refine name (fits.here ?_)
    cases yes with
    | false => exact ih (hno rfl)
    | true =>
      refine codeAny_handlers_suite (HandSPX.lands_againZ flA fun hC flC upC => ?_)
      have JC : Inv X pins τ G { t with heap := hC } := J.landed nb flC.1 ((up.trans upA).trans upC) os ag
      obtain ⟨oC, vC, gC, zC, dC⟩ := flC.there
      refine wpAny_mono ((hsu a oC cls d (X.pn ++ pins) zC ⟨_, dC⟩).run [] _ _ G _ (JC.suite gC dC na nL nF) (hyes rfl a na)) (fun f t6 got => ?_) (fun _ _ z => z.elim)
      cases f with
      | next =>
        obtain ⟨_, _, S6, q6⟩ := got
        exact ⟨_, _, S6.unsuite ok, q6⟩
      | brk =>
        obtain ⟨_, _, S6, q6⟩ := got
        exact ⟨_, _, S6.unsuite ok, q6⟩
      | cont =>
        obtain ⟨_, _, S6, q6⟩ := got
        exact ⟨_, _, S6.unsuite ok, q6⟩
      | ret v =>
        obtain ⟨_, _, _, S6, r6, q6⟩ := got
        exact ⟨_, _, _, S6.unsuite ok, r6, q6⟩
/-- try: body / except clauses with or without a name -/
theorem ps_try_mix (hs : X.stack = X.env :: X.outer) (hf : X.env.frame = some X.env.locals) (hN : X.N.Nodup) (hi : X.N[i]? = some n) (hln : X.env.kindOf n = some .local) (tk : Takes X Wout)
    (hb : ∀ (W : WX) (pn : List (Addr × Obj)) (xe : Value → Shared → Prop), Takes (X.tr pn xe) W → PassesOwn (model X.prog X.w) X.A X.env xe → PSs (X.tr pn xe) bd (tb W))
    (hh : HdsM X n (h0 :: hds) l) : PS X (.Try bd (h0 :: hds) [] [] pt) (fun D σ H => tb (wML X.K i Wout D l) D σ H) := by
  refine ⟨fun pins s σ H D I h => wpAny_Try_except ?_⟩
  have ok := I.ok
  refine wpAny_mono ((hb _ (X.pn ++ pins) _ (fun u t xx => mL_catch (pn' := []) hs hf hN hi hln tk hh ok xx) PassesOwn.looking).run [] s σ H D (I.toTry _) h) (fun f t got => ?_) (fun _ _ z => z)
  cases f with
  | next =>
    obtain ⟨_, _, S, q⟩ := got
    exact wpAny_execs_nil ⟨_, _, S.ofTry ok, q⟩
  | brk =>
    obtain ⟨_, _, S, q⟩ := got
    exact ⟨_, _, S.ofTry ok, q⟩
  | cont =>
    obtain ⟨_, _, S, q⟩ := got
    exact ⟨_, _, S.ofTry ok, q⟩
  | ret v =>
    obtain ⟨_, _, _, S, r, q⟩ := got
    exact ⟨_, _, _, S.ofTry ok, r, q⟩
end
variable {K : PySem.W.Frag} {Wx Wout : WX} {RE : REx}
/-! ### try .. finally -/
/-! ### what is read of own classes -/
/-- what must be known of a class for isinstance and == -/
structure OwnC (K : PySem.W.Frag) (C f : Addr) : Prop where
  cls : L2.Cls K C
  eq : EqC K C f
  ha : PySem.W.findIn K (.ref C) "__class__" = some (some (.builtin "object.__class__"))
  hn : PySem.W.specialIn K (.builtin "object.__class__") "__get__" = some (some (.builtin "getset_descriptor.__get__"))
  htk : PySem.W.takesIn K (.builtin "object.__class__") = some true
  self : PySem.W.kitOne K (.ref C) (.ref C) = some true
  data : ∀ d : PyData, PySem.W.kitOne K (.type (tyName d)) (.ref C) = some false ∧ PySem.W.notFirst K C (.type (tyName d)) = true
section
variable {K : PySem.W.Frag} {C f : Addr}
theorem OwnC.ty (O : OwnC K C f) {H : Hp} {a dx : Addr} {fs : List (Str × V)} (h : H a = some (.ins C dx fs)) : TyX K H (.ref a) (.ref C) := .base (.ins h O.cls O.ha O.hn O.htk O.eq.ob)
end
end Tl
set_option Elab.async false
set_option linter.all false
set_option maxRecDepth 100000
set_option maxHeartbeats 4000000
/-! Any number of except clauses, each with or without a name. -/
namespace Tl
open PySem PySem.Spec PyProof.Rows L2
variable {K : PySem.W.Frag} {Wx Wout : WX} {RE : REx}
/-- what the clauses wish, as data -/
abbrev HR := EndD → Ex → EnvD → Mem → Prop
@[reducible] def hNil (RE : REx) : HR := fun _ x ρ M => RE x ρ M
@[reducible] def hOn (K : PySem.W.Frag) (c : Value) (TU : TDS) (r : HR) : HR := fun D x ρ M => gO (PySem.W.exmOne K x.cls c) fun yes => IfB yes (TU D ρ M) (r D x ρ M)
def SH (K : PySem.W.Frag) (i : Nat) (Wout : WX) (RE : REx) (l : List (Bool × Value × (Addr → Value → Option Addr → TS))) (R : HR) : Prop :=
  ∀ F H M (D : EndD) (E : Ends), XOk K F H M Wout RE → EK K F H M D E → XOk K F H M (wML K i Wout E l) (fun x ρ' M' => R D x ρ' M')
theorem sh_nil {i : Nat} : SH K i Wout RE [] (hNil RE) := fun F H M D E hx k => hx
theorem sh_on {i : Nat} {c : Value} {ts : Addr → Value → Option Addr → TS} {TU : TDS} {l : List (Bool × Value × (Addr → Value → Option Addr → TS))} {R : HR} (hu : ∀ a cls d, SSt K (fun _ _ _ _ => False) (fun _ _ _ => False) (ts a cls d) TU) (h : SH K i Wout RE l R) : SH K i Wout RE ((false, c, ts) :: l) (hOn K c TU R) := fun F H M D E hx k F' H' M' σ' ρ' cls d x g r s xr hre => by
  obtain ⟨yes, h1, h2⟩ := gO_of hre
  have h2 := h2.ite
  refine ⟨yes, by rw [xr.1]; exact h1, fun hy a ha => ?_, fun hn => h F H M D E hx k F' H' M' σ' ρ' cls d x g r s xr (by rw [hn, if_neg Bool.false_ne_true] at h2; exact h2)⟩
  rw [if_pos hy] at h2
  exact hu a cls d F' H' M' _ _ _ _ r (fun _ _ _ _ _ _ _ _ _ _ _ _ z => z) s h2 (k.mono g)
/-- try: .. and any clauses -/
@[reducible] def tryM (TB : REx → TDS) (R : HR) : TDS := fun D ρ M => TB (fun x ρ' M' => R D x ρ' M') D ρ M
theorem ss_tryM {i : Nat} {l : List (Bool × Value × (Addr → Value → Option Addr → TS))} {R : HR} {tb : WX → TS} {TB : REx → TDS} (hb : ∀ Wx RE, SSt K Wx RE (tb Wx) (TB RE)) (hh : SH K i Wout RE l R) : SSt K Wout RE (fun D σ H => tb (wML K i Wout D l) D σ H) (tryM TB R) := fun F H M σ ρ D E hr hx hs ht k =>
  hb _ _ F H M σ ρ D E hr (hh F H M D E hx k) hs ht k
end Tl
set_option Elab.async false
set_option linter.all false
set_option maxRecDepth 100000
set_option maxHeartbeats 8000000
namespace Tl
open PySem L2 RZ
local macro_rules
  | `(tactic| decreasing_trivial) => `(tactic| ((with_reducible (conv => whnf)); (repeat ((first | (with_reducible refine gDs_c ?_) | (with_reducible refine gDs_n ?_) | (with_reducible refine gNs_c ?_) | (with_reducible refine gNs_n ?_) | (with_reducible refine gO_i tyAny_lt ?_) | (with_reducible refine gIs_c ?_) | (with_reducible refine gIs_n ?_) | (with_reducible refine gBs_c ?_) | (with_reducible refine gBs_n ?_) | (with_reducible refine gSs_c ?_) | (with_reducible refine gSs_n ?_) | (with_reducible refine gO_i tyIs_int ?_) | (with_reducible refine gO_i tyIs_bool ?_) | (with_reducible refine gO_i tyIs_str ?_) | (with_reducible refine gO_i tyIs_tuple ?_) | (with_reducible refine gO_i tyIs_list ?_) | (with_reducible refine gDs_i ?_) | (with_reducible refine gO_i (Eq.refl _) ?_) | (with_reducible refine gO_i (by assumption) ?_) | (with_reducible refine gO_i at_0 ?_) | (with_reducible refine gO_i at_m0 ?_) | (with_reducible refine gO_i at_1 ?_) | (with_reducible refine gO_i at_m1 ?_) | (with_reducible refine gO_i at_2 ?_) | (with_reducible refine gO_i at_m2 ?_) | (with_reducible refine gO_i at_3 ?_) | (with_reducible refine gO_i at_m3 ?_) | (with_reducible refine gO_i at_4 ?_) | (with_reducible refine gO_i at_m4 ?_) | (with_reducible refine gO_i at_5 ?_) | (with_reducible refine gO_i at_m5 ?_) | (with_reducible refine gO_i at_6 ?_) | (with_reducible refine gO_i at_m6 ?_) | (with_reducible refine gO_i at_7 ?_) | (with_reducible refine gO_i at_m7 ?_) | (with_reducible refine IfB.ngf ?_) | (with_reducible refine IfB.ngt ?_) | (with_reducible refine IfB.not ?_) | (with_reducible refine IfB.nil ?_) | (with_reducible refine IfB.nilT ?_) | (with_reducible refine IfB.f isE_c ?_) | (with_reducible refine IfB.t isE_n ?_) | (with_reducible refine IfB.t ?gha ?_; (case gha => rfl)) | (with_reducible refine IfB.f ?gha ?_; (case gha => rfl)) | (with_reducible refine IfB.t ?gha ?_; (case gha => assumption)) | (with_reducible refine IfB.f ?gha ?_; (case gha => assumption)) | (with_reducible refine IfB.yes (Eq.refl _) ?_) | (with_reducible refine IfB.yes ?gha ?_; (case gha => (first | omega | (simp only [len_c, len_n, List.length_map]; omega)))) | (with_reducible refine IfB.no ?gha ?_; (case gha => (first | omega | (simp only [len_c, len_n, List.length_map]; omega)))) | (with_reducible refine IfB.t ?gha ?_; (case gha => decide +kernel)) | (with_reducible refine IfB.f ?gha ?_; (case gha => decide +kernel))); (with_reducible (conv => whnf))))))
local macro_rules
  | `(tactic| decreasing_trivial_pre_omega) => `(tactic| (decreasing_trivial; (repeat ((first | ((with_reducible refine And.intro ?gha ?_); (case gha => (first | assumption | omega | exact rfl | (exact mset_same) | (exact ⟨_, mset_same⟩) | (exact Exists.intro _ (by first | exact mset_same | assumption | (rw [mset_ne (by assumption)]; first | exact mset_same | assumption))) | (exact sm_of (by omega) (by omega)) | (exact sz1000 (by first | omega | (simp; done) | (simp; omega))) | (exact Or.inl ⟨by decide, by decide⟩) | decide | (simp; done) | (refine ⟨?_, ?_⟩ <;> (first | assumption | omega | exact rfl | (exact mset_same) | (exact ⟨_, mset_same⟩) | (exact Exists.intro _ (by first | exact mset_same | assumption | (rw [mset_ne (by assumption)]; first | exact mset_same | assumption))) | (exact sm_of (by omega) (by omega)) | (exact sz1000 (by first | omega | (simp; done) | (simp; omega))) | (exact Or.inl ⟨by decide, by decide⟩) | decide | (simp; done))) | (refine ⟨?_, ?_, ?_⟩ <;> (first | assumption | omega | exact rfl | (exact mset_same) | (exact ⟨_, mset_same⟩) | (exact Exists.intro _ (by first | exact mset_same | assumption | (rw [mset_ne (by assumption)]; first | exact mset_same | assumption))) | (exact sm_of (by omega) (by omega)) | (exact sz1000 (by first | omega | (simp; done) | (simp; omega))) | (exact Or.inl ⟨by decide, by decide⟩) | decide | (simp; done))) | (refine ⟨?_, ?_, ?_, ?_⟩ <;> (first | assumption | omega | exact rfl | (exact mset_same) | (exact ⟨_, mset_same⟩) | (exact Exists.intro _ (by first | exact mset_same | assumption | (rw [mset_ne (by assumption)]; first | exact mset_same | assumption))) | (exact sm_of (by omega) (by omega)) | (exact sz1000 (by first | omega | (simp; done) | (simp; omega))) | (exact Or.inl ⟨by decide, by decide⟩) | decide | (simp; done)))))) | (with_reducible refine exW (by first | exact mset_same | assumption | (rw [mset_ne (by assumption)]; first | exact mset_same | assumption)) ?_)); decreasing_trivial))))
structure Cls (K : PySem.W.Frag) (mg : Str → Option Value) where
  c_TreeError : Addr
  c_NoThing : Addr
  c_NoFit : Addr
  c_NoTree : Addr
  c_NoPath : Addr
  c_NoSide : Addr
  c_NoPlace : Addr
  c_Edits : Addr
  m_TreeError : mg "TreeError" = some (.ref c_TreeError)
  m_NoThing : mg "NoThing" = some (.ref c_NoThing)
  m_NoFit : mg "NoFit" = some (.ref c_NoFit)
  m_NoTree : mg "NoTree" = some (.ref c_NoTree)
  m_NoPath : mg "NoPath" = some (.ref c_NoPath)
  m_NoSide : mg "NoSide" = some (.ref c_NoSide)
  m_NoPlace : mg "NoPlace" = some (.ref c_NoPlace)
  m_Edits : mg "Edits" = some (.ref c_Edits)
  e_NoTree : Er K mg "NoTree" c_NoTree
  x_NoTree : ExcC K c_NoTree
  v_NoTree : PySem.W.kitOne K (.ref c_NoTree) (.type "ValueError") = some true
  k_NoTree_TreeError : PySem.W.kitOne K (.ref c_NoTree) (.ref c_TreeError) = some true
  k_NoTree_NoThing : PySem.W.kitOne K (.ref c_NoTree) (.ref c_NoThing) = some true
  k_NoTree_NoFit : PySem.W.kitOne K (.ref c_NoTree) (.ref c_NoFit) = some false
  k_NoTree_NoTree : PySem.W.kitOne K (.ref c_NoTree) (.ref c_NoTree) = some true
  k_NoTree_NoPath : PySem.W.kitOne K (.ref c_NoTree) (.ref c_NoPath) = some false
  k_NoTree_NoSide : PySem.W.kitOne K (.ref c_NoTree) (.ref c_NoSide) = some false
  k_NoTree_NoPlace : PySem.W.kitOne K (.ref c_NoTree) (.ref c_NoPlace) = some false
  k_NoTree_Edits : PySem.W.kitOne K (.ref c_NoTree) (.ref c_Edits) = some false
  h_NoTree_NoPath : PySem.W.exmOne K (.ref c_NoTree) (.ref c_NoPath) = some false
  h_NoTree_NoPlace : PySem.W.exmOne K (.ref c_NoTree) (.ref c_NoPlace) = some false
  e_NoSide : ErF K mg "NoSide" "NoSide.__init__" "at" sI_NoSide c_NoSide
  x_NoSide : ExcC K c_NoSide
  v_NoSide : PySem.W.kitOne K (.ref c_NoSide) (.type "ValueError") = some true
  k_NoSide_TreeError : PySem.W.kitOne K (.ref c_NoSide) (.ref c_TreeError) = some true
  k_NoSide_NoThing : PySem.W.kitOne K (.ref c_NoSide) (.ref c_NoThing) = some true
  k_NoSide_NoFit : PySem.W.kitOne K (.ref c_NoSide) (.ref c_NoFit) = some false
  k_NoSide_NoTree : PySem.W.kitOne K (.ref c_NoSide) (.ref c_NoTree) = some false
  k_NoSide_NoPath : PySem.W.kitOne K (.ref c_NoSide) (.ref c_NoPath) = some false
  k_NoSide_NoSide : PySem.W.kitOne K (.ref c_NoSide) (.ref c_NoSide) = some true
  k_NoSide_NoPlace : PySem.W.kitOne K (.ref c_NoSide) (.ref c_NoPlace) = some false
  k_NoSide_Edits : PySem.W.kitOne K (.ref c_NoSide) (.ref c_Edits) = some false
  h_NoSide_NoPath : PySem.W.exmOne K (.ref c_NoSide) (.ref c_NoPath) = some false
  h_NoSide_NoPlace : PySem.W.exmOne K (.ref c_NoSide) (.ref c_NoPlace) = some false
  e_NoPath : Er K mg "NoPath" c_NoPath
  x_NoPath : ExcC K c_NoPath
  v_NoPath : PySem.W.kitOne K (.ref c_NoPath) (.type "ValueError") = some true
  k_NoPath_TreeError : PySem.W.kitOne K (.ref c_NoPath) (.ref c_TreeError) = some true
  k_NoPath_NoThing : PySem.W.kitOne K (.ref c_NoPath) (.ref c_NoThing) = some true
  k_NoPath_NoFit : PySem.W.kitOne K (.ref c_NoPath) (.ref c_NoFit) = some false
  k_NoPath_NoTree : PySem.W.kitOne K (.ref c_NoPath) (.ref c_NoTree) = some false
  k_NoPath_NoPath : PySem.W.kitOne K (.ref c_NoPath) (.ref c_NoPath) = some true
  k_NoPath_NoSide : PySem.W.kitOne K (.ref c_NoPath) (.ref c_NoSide) = some false
  k_NoPath_NoPlace : PySem.W.kitOne K (.ref c_NoPath) (.ref c_NoPlace) = some false
  k_NoPath_Edits : PySem.W.kitOne K (.ref c_NoPath) (.ref c_Edits) = some false
  h_NoPath_NoPath : PySem.W.exmOne K (.ref c_NoPath) (.ref c_NoPath) = some true
  h_NoPath_NoPlace : PySem.W.exmOne K (.ref c_NoPath) (.ref c_NoPlace) = some false
  e_NoPlace : ErF K mg "NoPlace" "NoPlace.__init__" "path" sI_NoPlace c_NoPlace
  x_NoPlace : ExcC K c_NoPlace
  v_NoPlace : PySem.W.kitOne K (.ref c_NoPlace) (.type "ValueError") = some true
  k_NoPlace_TreeError : PySem.W.kitOne K (.ref c_NoPlace) (.ref c_TreeError) = some true
  k_NoPlace_NoThing : PySem.W.kitOne K (.ref c_NoPlace) (.ref c_NoThing) = some false
  k_NoPlace_NoFit : PySem.W.kitOne K (.ref c_NoPlace) (.ref c_NoFit) = some true
  k_NoPlace_NoTree : PySem.W.kitOne K (.ref c_NoPlace) (.ref c_NoTree) = some false
  k_NoPlace_NoPath : PySem.W.kitOne K (.ref c_NoPlace) (.ref c_NoPath) = some false
  k_NoPlace_NoSide : PySem.W.kitOne K (.ref c_NoPlace) (.ref c_NoSide) = some false
  k_NoPlace_NoPlace : PySem.W.kitOne K (.ref c_NoPlace) (.ref c_NoPlace) = some true
  k_NoPlace_Edits : PySem.W.kitOne K (.ref c_NoPlace) (.ref c_Edits) = some false
  h_NoPlace_NoPath : PySem.W.exmOne K (.ref c_NoPlace) (.ref c_NoPath) = some false
  h_NoPlace_NoPlace : PySem.W.exmOne K (.ref c_NoPlace) (.ref c_NoPlace) = some true
/-- a path that is refused, and how -/
inductive RefP (d : PyData) : PyData → Int → Prop
  | np (x : PyData) : txt x = true → isPath x = false → RefP d x 0
  | far (q : List Nat) : pathOk q → sub d q = none → RefP d (pathD q) 1
@[reducible] def tfRefS : TF := fun ws M R _ => ∃ (d x : PyData) (es : List Edt) (c : Int), ws = [.d d, .d (.tuple (es.map Edt.d)), .d x, .d (.int c)] ∧ (OkSide d es ∧ RefP d x c) ∧ R (.d (.bool true)) M
theorem val_merg (k : PyData) (kvs : List KD) : valU (mergW [] kvs) k = kvs.reverse.findSome? fun x => if keyN (.tuple x.1) = keyN k then some (W.d x.2) else none := by
  have : mergW [] kvs = (kvs.map fun x : KD => ((PyData.tuple x.1, W.d x.2) : PyData × W)).foldl (fun kw x => putW2 kw x.1 x.2) [] := by
    unfold mergW
    rw [List.foldl_map]
  rw [this, val_fold, show valU [] k = none from rfl, Option.or_none, ← List.map_reverse]
  generalize kvs.reverse = l
  induction l with
  | nil => rfl
  | cons x l ih => rw [List.map_cons, List.findSome?_cons, List.findSome?_cons, ih]
/-- pairs of a label and where it stands -/
@[reducible] def kdW (x : List Nat × List Nat) : KD := (x.1.map fun n : Nat => PyData.int (n : Int), pathD x.2)
theorem there_get {m : Nat} {es : List Edt} (hp : PtOk m es) {n : Nat} {d e : PyData} (ht : TrT n d) {q : List Nat} (hs : sub d q = some e) : (valU (mergW [] ((((labd es [] d).wo es).whr []).map kdW)) (pathD q)).getD (W.d .none) = W.d (optPath (phE es [] q)) := by
  have mem := fun l o => whr_mem hp [] [] l o ht
  generalize ((labd es [] d).wo es).whr [] = L at mem
  rw [val_merg, ← List.map_reverse]
  have mem2 : ∀ l o, (l, o) ∈ L.reverse ↔ ∃ r r' e, sub d r = some e ∧ l = [] ++ r ∧ phE es [] r = some r' ∧ o = [] ++ r' := fun l o => by rw [List.mem_reverse]; exact mem l o
  generalize L.reverse = L2 at mem2
  cases c : phE es [] q with
  | none =>
    have : ((L2.map kdW).findSome? fun x => if keyN (.tuple x.1) = keyN (pathD q) then some (W.d x.2) else none) = none := by
      rw [List.findSome?_eq_none_iff]
      intro x hx
      obtain ⟨⟨l, o⟩, hl, rfl⟩ := List.mem_map.mp hx
      rw [if_neg]
      intro z
      obtain ⟨r, r', e2, _, h2, h3, _⟩ := (mem2 l o).mp hl
      have := (keyN_path l q).mp z
      rw [this] at h2
      rw [List.nil_append] at h2
      subst h2
      rw [c] at h3
      cases h3
    rw [this]
    rfl
  | some r' =>
    have hm : (q, r') ∈ L2 := (mem2 q r').mpr ⟨q, r', e, hs, rfl, c, rfl⟩
    have : ((L2.map kdW).findSome? fun x => if keyN (.tuple x.1) = keyN (pathD q) then some (W.d x.2) else none) = some (W.d (pathD r')) := by
      cases f : ((L2.map kdW).findSome? fun x => if keyN (.tuple x.1) = keyN (pathD q) then some (W.d x.2) else none) with
      | none =>
        rw [List.findSome?_eq_none_iff] at f
        have := f _ (List.mem_map_of_mem hm)
        rw [if_pos (show keyN (.tuple (kdW (q, r')).1) = keyN (pathD q) from rfl)] at this
        cases this
      | some v =>
        obtain ⟨x, hx, h2⟩ := List.exists_of_findSome?_eq_some f
        obtain ⟨⟨l, o⟩, hl, rfl⟩ := List.mem_map.mp hx
        split at h2
        · rename_i z
          obtain ⟨r, r2, e2, _, h4, h5, h6⟩ := (mem2 l o).mp hl
          have := (keyN_path l q).mp z
          rw [this, List.nil_append] at h4
          subst h4
          rw [c] at h5
          cases h5
          rw [List.nil_append] at h6
          subst h6
          cases h2
          rfl
        · cases h2
    rw [this]
    rfl
section
variable {P : Program} {w : World} {K : PySem.W.Frag} {mg : Str → Option Value} {base : Heap}
abbrev sRefS : Stmt := top 60
theorem scRefS : FnScope ["_law_tree_here", "_law_side_here", "_law_path", "_law_kind", "_law_found"] ["_law_tree_here", "_law_side_here", "_law_path", "_law_kind"] (defScope sRefS) := ⟨rfl, rfl, rfl, by decide +kernel, rfl, by decide +kernel, by decide +kernel⟩
theorem ok_refS {f : Addr} {fd : FuncData} {k j : Nat} (F : Fun K "_law_refused" "_law_refused" sRefS f fd) (A : Cls K mg) (Uplace_led : UseX P w K mg base "place_led" ["tree", "side", "path"] j (spD K 3 (tfPlace A.c_NoPath A.c_NoPlace))) (hj : j ≤ k) (T : Bl mg) : FnOk P w K mg base CX0 (k + 1) f fd ["_law_tree_here", "_law_side_here", "_law_path", "_law_kind"] (spD K 4 tfRefS) := by
  refine okDL F scRefS rfl fun cdv A' outer s H E hr => ?_
  refine ⟨_, _, (pss_cons (ps_set (i := 4) scRefS.nd rfl (.inl rfl) (pe_un un_neg pe_int))
    (pss_cons (ps_try_mix (i := 0) (Wout := fun _ _ _ _ => False) rfl rfl scRefS.nd rfl rfl takes0
    (fun W pn xe tk _ => (pss_one (ps_expr (pe_callS Uplace_led.ok (hr.mono (by omega)) rfl Uplace_led.m Uplace_led.kp Uplace_led.b (fun σ => passAt tk σ) (pa_cons (pv 0) (pa_cons (pv 1) (pa_cons (pv 2) pa_nil)))))))
    (.anon ⟨rfl, by decide, .inl A.m_NoPath⟩
    (fun a oe cls d pn hz hf => (pss_one (ps_set (i := 4) scRefS.nd rfl (.inl rfl) pe_int))) (.anon ⟨rfl, by decide, .inl A.m_NoPlace⟩
    (fun a oe cls d pn hz hf => (pss_one (ps_set (i := 4) scRefS.nd rfl (.inl rfl) pe_int))) .nil)))
    (pss_one (ps_ret (pe_cmpR op_eq (pv 4) (pv 3) (nomark _)))))),
    (ss_cons (ss_set (se_un su_neg se_int))
    (ss_cons (ss_tryM (fun Wx RE => (ss_drop (se_callX (sa_cons se_nm (sa_cons se_nm (sa_cons se_nm sa_nil)))))) (sh_on (fun a cls d => (ss_set se_int)) (sh_on (fun a cls d => (ss_set se_int)) sh_nil)))
    (ss_ret (se_op so_eqS se_nm se_nm)))), fun ws M R RX hl h => ?_⟩
  obtain ⟨d, x, es, c, rfl, ⟨ok, hc⟩, h2⟩ := h
  have f1 := A.h_NoPath_NoPath
  have f2 := A.h_NoPlace_NoPath
  have f3 := A.h_NoPlace_NoPlace
  simp only [start0, len_c, len_n, map_c, map_n, app_c, app_n, rep_0, rep_s, Nat.reduceAdd, Nat.reduceSub]
  decreasing_trivial_pre_omega
  cases hc with
  | np x tx px =>
    refine ⟨d, x, es, rfl, ⟨ok, tx⟩, fun _ => ?_, fun q a b => (by rw [a, isPath_of b] at px; cases px), fun q e a b => (by rw [a, isPath_of b] at px; cases px)⟩
    decreasing_trivial_pre_omega
    exact ⟨M, fun _ _ h => h, h2⟩
  | far q hq hs =>
    refine ⟨d, _, es, rfl, ⟨ok, path_txt q⟩, fun a => (by rw [isPath_of hq] at a; cases a), fun q2 a b c => ?_, fun q2 e a b c => (by rw [← pathD_inj a, hs] at c; cases c)⟩
    decreasing_trivial_pre_omega
    exact ⟨M, fun _ _ h => h, h2⟩
theorem mergW_kd (L : List (List Nat × List Nat)) : L.map whrD = (L.map kdW).map dKD := by
  rw [List.map_map]
  rfl
theorem ph_small {es : List Edt} (f : ∀ e ∈ es, FewT e) : ∀ {r p r' : List Nat}, (∀ i ∈ r, i ≤ 59) → phE es p r = some r' → ∀ i ∈ r', i ≤ 1000 := by
  have pl : ∀ p i, (ptL es p i).length ≤ 4 := fun p i => by
    unfold ptL
    cases c : ptE es p i with
    | none => exact Nat.zero_le _
    | some ts =>
      unfold ptE at c
      obtain ⟨e, he, h2⟩ := List.exists_of_findSome?_eq_some c
      have ok := f e (List.mem_reverse.mp he)
      cases e with
      | put q m us =>
        dsimp only at h2
        split at h2
        · cases h2
          have := len_nn ts
          have := (ok _ _ _ rfl).2
          show ts.length ≤ 4
          omega
        · cases h2
      | name q t => cases h2
      | out q => cases h2
  have ah : ∀ p i, aheadE es p i ≤ 5 * i := fun p i => by
    induction i with
    | zero => exact Nat.le_refl _
    | succ i ih =>
      rw [aheadE]
      have := pl p i
      split <;> omega
  intro r
  induction r with
  | nil => intro p r' _ h i hi; rw [phE] at h; cases h; cases hi
  | cons j r ih =>
    intro p r' hr h i hi
    rw [phE] at h
    split at h
    · cases h
    · obtain ⟨r2, e, rfl⟩ := Option.map_eq_some_iff.mp h
      rcases List.mem_cons.mp hi with rfl | hi
      · have h1 := hr j (.head _)
        have h2 := ah p j
        have h3 := pl p j
        omega
      · exact ih (fun z hz => hr z (.tail _ hz)) e i hi
structure EdW (K : PySem.W.Frag) (C : Addr) where
  M : EdC K C
  f0 : Addr
  d0 : FuncData
  F0 : Fun K "__init__" "Edits.__init__" sEdIn f0 d0
  mkr : L2.Mk K C f0
  f1 : Addr
  d1 : FuncData
  F1 : Fun K "trees_at" "Edits.trees_at" sTreesAt f1 d1
  h1 : L2.Meth K C "trees_at" f1
structure Calls (P : Program) (w : World) (K : PySem.W.Frag) (mg : Str → Option Value) (base : Heap) (A : Cls K mg) where
  j : Nat
  hj : j ≤ 100
  led : UseX P w K mg base "led_by_side" ["tree", "side"] j (spD K 2 (tfLed A.c_NoTree A.c_NoSide))
  pl : UseX P w K mg base "place_led" ["tree", "side", "path"] j (spD K 3 (tfPlace A.c_NoPath A.c_NoPlace))
  state : Use P w K mg base "_law_state" ["_law_script"] j spState3
  next : Use P w K mg base "_law_next" ["_law_state_here", "_law_below"] j (spD K 2 (tfNext false))
  tree : Use P w K mg base "_law_tree" ["_law_state_here", "_law_bound"] j (spD K 2 (tfTreeL false))
  places : Use P w K mg base "_law_places" ["_law_tree_here", "_law_path"] j (spD K 2 (tfPls 12))
  side : Use P w K mg base "_law_side" ["_law_state_here", "_law_tree_here", "_law_many"] j (spD K 3 tfSideL)
  done : Use P w K mg base "_law_side_done" ["_law_tree_here", "_law_side_here"] j (spD K 2 tfSideD)
  still : Use P w K mg base "_law_still" ["_law_live_here"] j (spD K 1 (tfStillS 30))
  where_ : Use P w K mg base "_law_where" ["_law_live_here", "_law_path"] j (spD K 2 (tfWhr 30))
  ref : Use P w K mg base "_law_refused" ["_law_tree_here", "_law_side_here", "_law_path", "_law_kind"] j (spD K 4 tfRefS)
abbrev sLaw : Stmt := top 61
theorem scLaw : FnScope ["_law_script", "_law_state_here", "_law_turn", "_law_tree_here", "_law_side_here", "_law_kept", "_law_live_here", "_law_there", "_law_path", "_law_odd"] ["_law_script"] (defScope sLaw) := ⟨rfl, rfl, rfl, by decide +kernel, rfl, by decide +kernel, by decide +kernel⟩
theorem ok_law {f : Addr} {fd : FuncData} {s : Shared} {H : Hp} {a : Addr} {ns : List Int} (F : Fun K "law" "law" sLaw f fd) (T : Bl mg) {A : Cls K mg} (U : Calls P w K mg base A) (mDict : mg "dict" = none) (hlen : ns.length ≤ 63) (hS : SqL K H a (ns.map V.int)) (e0 : Env0 P w K mg base callerA [] s H) :
    codeAny (model P w) callerA (.call (.ref f) ⟨[.ref a], []⟩) (CR CX0 [] P w H s (fun v _ => v = V.bl true) fun _ _ _ => False) s := by
  obtain ⟨j, hj, Uled_by_side, Uplace_led, U_law_state, U_law_next, U_law_tree, U_law_places, U_law_side, U_law_side_done, U_law_still, U_law_where, U_law_refused⟩ := U
  refine law_at3 (k := 200) F scLaw hlen hS e0 ⟨rfl, by decide, by decide⟩ (F.binds (ps := ["_law_script"]) fun _ _ _ _ _ _ us hl => match us, hl with | [_], _ => rfl) fun cdv hgu hr => ?_
  have hun : (callerA.deeper (PyProof.Rows.envOfC "law" (defScope sLaw) s.heap.objs.size f cdv)).units + 200 < cLine := by
    have := hr.un
    omega
  refine ⟨_, _, _, (pss_cons (ps_set (i := 1) scLaw.nd rfl (.inl rfl) (pe_call U_law_state.ok (hr.mono (by omega)) rfl U_law_state.m U_law_state.kp U_law_state.b .nil pass0 (pa_cons (pv 0) pa_nil)))
    (pss_cons (ps_for PassesOwn.never rfl (pi_range1 (by rfl) T.range (pa_cons pe_int pa_nil)) (pg_name (i := 2) scLaw.nd rfl (.inl rfl)) (pss_cons (ps_set (i := 3) scLaw.nd rfl (.inl rfl) (pe_call U_law_tree.ok (hr.mono (by omega)) rfl U_law_tree.m U_law_tree.kp U_law_tree.b .nil pass0 (pa_cons (pv 1) (pa_cons pe_int pa_nil))))
      (pss_cons (ps_set (i := 4) scLaw.nd rfl (.inl rfl) (pe_call U_law_side.ok (hr.mono (by omega)) rfl U_law_side.m U_law_side.kp U_law_side.b .nil pass0 (pa_cons (pv 1) (pa_cons (pv 3) (pa_cons (pe_call U_law_next.ok (hr.mono (by omega)) rfl U_law_next.m U_law_next.kp U_law_next.b .nil pass0 (pa_cons (pv 1) (pa_cons pe_int pa_nil))) pa_nil)))))
      (pss_cons (ps_set (i := 5) scLaw.nd rfl (.inl rfl) (pe_callB (call_reprD hgu hun) (by rfl) T.repr PyProof.Rows.boot_repr (pa_cons (pe_lst (pa_cons (pv 3) (pa_cons (pv 4) pa_nil))) pa_nil)))
      (pss_cons (ps_set (i := 6) scLaw.nd rfl (.inl rfl) (pe_call U_law_side_done.ok (hr.mono (by omega)) rfl U_law_side_done.m U_law_side_done.kp U_law_side_done.b .nil pass0 (pa_cons (pv 3) (pa_cons (pv 4) pa_nil))))
      (pss_cons (ps_if (PW.pt (pw_or (pt_cmpR op_ne (pe_callB (call_reprD hgu hun) (by rfl) T.repr PyProof.Rows.boot_repr (pa_cons (pe_callS Uled_by_side.ok (hr.mono (by omega)) rfl Uled_by_side.m Uled_by_side.kp Uled_by_side.b (fun σ => passAt takes0 σ) (pa_cons (pv 3) (pa_cons (pv 4) pa_nil))) pa_nil)) (pe_callB (call_reprD hgu hun) (by rfl) T.repr PyProof.Rows.boot_repr (pa_cons (pe_call U_law_still.ok (hr.mono (by omega)) rfl U_law_still.m U_law_still.kp U_law_still.b .nil pass0 (pa_cons (pv 6) pa_nil)) pa_nil)) (nomark _)) (pw_or1 (pt_cmpR op_ne (pe_callB (call_reprD hgu hun) (by rfl) T.repr PyProof.Rows.boot_repr (pa_cons (pe_callS Uled_by_side.ok (hr.mono (by omega)) rfl Uled_by_side.m Uled_by_side.kp Uled_by_side.b (fun σ => passAt takes0 σ) (pa_cons (pv 3) (pa_cons (pe_tup pa_nil) pa_nil))) pa_nil)) (pe_callB (call_reprD hgu hun) (by rfl) T.repr PyProof.Rows.boot_repr (pa_cons (pv 3) pa_nil)) (nomark _))))) (pss_one (ps_ret pe_bl)) pss_nil)
      (pss_cons (ps_set (i := 7) scLaw.nd rfl (.inl rfl) (pe_callTy (call_dictU rfl (hu20 hr)) (by rfl) mDict PyProof.Rows.boot_dict (pa_cons (pe_call U_law_where.ok (hr.mono (by omega)) rfl U_law_where.m U_law_where.kp U_law_where.b .nil pass0 (pa_cons (pv 6) (pa_cons (pe_tup pa_nil) pa_nil))) pa_nil)))
      (pss_cons (ps_for PassesOwn.never rfl (pi_list (pe_call U_law_places.ok (hr.mono (by omega)) rfl U_law_places.m U_law_places.kp U_law_places.b .nil pass0 (pa_cons (pv 3) (pa_cons (pe_tup pa_nil) pa_nil)))) (pg_name (i := 8) scLaw.nd rfl (.inl rfl)) (pss_one (ps_if (pt_cmpR op_ne (pe_callB (call_reprD hgu hun) (by rfl) T.repr PyProof.Rows.boot_repr (pa_cons (pe_callS Uplace_led.ok (hr.mono (by omega)) rfl Uplace_led.m Uplace_led.kp Uplace_led.b (fun σ => passAt takes0 σ) (pa_cons (pv 3) (pa_cons (pv 4) (pa_cons (pv 8) pa_nil)))) pa_nil)) (pe_callB (call_reprD hgu hun) (by rfl) T.repr PyProof.Rows.boot_repr (pa_cons (pe_ubm PySem.F.slot_dict_get PySem.F.type_dict_get (mt_getU (hu20 hr)) (pv 7) (pa_cons (pv 8) pa_nil)) pa_nil)) (nomark _)) (pss_one (ps_ret pe_bl)) pss_nil)))
      (pss_cons (ps_set (i := 9) scLaw.nd rfl (.inl rfl) (pe_ix ix_list (pe_lst (pa_cons pe_non (pa_cons (pe_lst pa_nil) (pa_cons (pe_tup (pa_cons pe_bl pa_nil)) (pa_cons (pe_tup (pa_cons pe_int pa_nil)) (pa_cons pe_str (pa_cons pe_int (pa_cons (pe_op op_repA (pe_tup (pa_cons pe_int pa_nil)) pe_int) (pa_cons (pe_tup (pa_cons (pe_tup pa_nil) pa_nil)) pa_nil))))))))) (pe_call U_law_next.ok (hr.mono (by omega)) rfl U_law_next.m U_law_next.kp U_law_next.b .nil pass0 (pa_cons (pv 1) (pa_cons pe_int pa_nil))) (fun _ _ => rfl)))
      (pss_cons (ps_if (PW.pt (pw_or (pt_not (pt_val (pe_call U_law_refused.ok (hr.mono (by omega)) rfl U_law_refused.m U_law_refused.kp U_law_refused.b .nil pass0 (pa_cons (pv 3) (pa_cons (pv 4) (pa_cons (pv 9) (pa_cons pe_int pa_nil))))))) (pw_or1 (pt_not (pt_val (pe_call U_law_refused.ok (hr.mono (by omega)) rfl U_law_refused.m U_law_refused.kp U_law_refused.b .nil pass0 (pa_cons (pv 3) (pa_cons (pv 4) (pa_cons (pe_tup (pa_cons pe_int (pa_cons pe_int pa_nil))) (pa_cons pe_int pa_nil)))))))))) (pss_one (ps_ret pe_bl)) pss_nil)
      (pss_one (ps_if (pt_cmpR op_ne (pe_callB (call_reprD hgu hun) (by rfl) T.repr PyProof.Rows.boot_repr (pa_cons (pe_lst (pa_cons (pv 3) (pa_cons (pv 4) pa_nil))) pa_nil)) (pv 5) (nomark _)) (pss_one (ps_ret pe_bl)) pss_nil))))))))))))
    (pss_one (ps_ret pe_bl)))),
    (ss_cons (ss_for (si_r1 (sa_cons se_int sa_nil)) sg_name (ss_cons (ss_set (se_call (sa_cons se_nm (sa_cons se_int sa_nil))))
      (ss_cons (ss_set (se_call (sa_cons se_nm (sa_cons se_nm (sa_cons (se_call (sa_cons se_nm (sa_cons se_int sa_nil))) sa_nil)))))
      (ss_cons (ss_set (se_cb sc_repr (sa_cons (se_lsf (sa_cons se_nm (sa_cons se_nm sa_nil))) sa_nil)))
      (ss_cons (ss_set (se_call (sa_cons se_nm (sa_cons se_nm sa_nil))))
      (ss_cons (ss_if (st_or (st_test (se_op so_neS (se_cb sc_repr (sa_cons (se_callX (sa_cons se_nm (sa_cons se_nm sa_nil))) sa_nil)) (se_cb sc_repr (sa_cons (se_call (sa_cons se_nm sa_nil)) sa_nil)))) (st_test (se_op so_neS (se_cb sc_repr (sa_cons (se_callX (sa_cons se_nm (sa_cons (se_tup sa_nil) sa_nil))) sa_nil)) (se_cb sc_repr (sa_cons se_nm sa_nil))))) (ss_ret se_bl) ss_nil)
      (ss_cons (ss_set (se_cb sc_dictF (sa_cons (se_call (sa_cons se_nm (sa_cons (se_tup sa_nil) sa_nil))) sa_nil)))
      (ss_cons (ss_for (si_lst (se_call (sa_cons se_nm (sa_cons (se_tup sa_nil) sa_nil)))) sg_name (ss_if (st_test (se_op so_neS (se_cb sc_repr (sa_cons (se_callX (sa_cons se_nm (sa_cons se_nm (sa_cons se_nm sa_nil)))) sa_nil)) (se_cb sc_repr (sa_cons (se_ubm sm_getU se_nm (sa_cons se_nm sa_nil)) sa_nil)))) (ss_ret se_bl) ss_nil))
      (ss_cons (ss_set (se_op so_ixL (se_lsf (sa_cons se_non (sa_cons (se_lsf sa_nil) (sa_cons (se_tup (sa_cons se_bl sa_nil)) (sa_cons (se_tup (sa_cons se_int sa_nil)) (sa_cons se_str (sa_cons se_int (sa_cons (se_op so_repT (se_tup (sa_cons se_int sa_nil)) se_int) (sa_cons (se_tup (sa_cons (se_tup sa_nil) sa_nil)) sa_nil))))))))) (se_call (sa_cons se_nm (sa_cons se_int sa_nil)))))
      (ss_cons (ss_if (st_or (st_not (st_val (se_call (sa_cons se_nm (sa_cons se_nm (sa_cons se_nm (sa_cons se_int sa_nil))))))) (st_not (st_val (se_call (sa_cons se_nm (sa_cons se_nm (sa_cons (se_tup (sa_cons se_int (sa_cons se_int sa_nil))) (sa_cons se_int sa_nil)))))))) (ss_ret se_bl) ss_nil)
      (ss_if (st_test (se_op so_neS (se_cb sc_repr (sa_cons (se_lsf (sa_cons se_nm (sa_cons se_nm sa_nil))) sa_nil)) se_nm)) (ss_ret se_bl) ss_nil)))))))))))
    (ss_ret se_bl)), fun st M hM => ?_⟩
  simp only [start0, len_c, len_n, map_c, map_n, app_c, app_n, rep_0, rep_s, Nat.reduceAdd, Nat.reduceSub]
  decreasing_trivial_pre_omega
  refine forR (n := 3) (fun i ρ M' => M' st = some (.src false) ∧ ∃ y2 y3 y4 y5 y6 y7 y8 y9, ρ = [some (.o (.ref a)), some (.r st), y2, y3, y4, y5, y6, y7, y8, y9]) ⟨hM, none, none, none, none, none, none, none, none, rfl⟩ (fun _ _ _ _ _ => trivial) (fun i ρ M1 N hi p hN => ?_) (fun ρ M1 p => ?_)
  · obtain ⟨hM1, y2, y3, y4, y5, y6, y7, y8, y9, rfl⟩ := p
    decreasing_trivial_pre_omega
    intro d ht hn
    have hn14 : nn d ≤ 14 := by omega
    have ht12 : TrT 12 d := ht.mono (by decide)
    have n60 : nn d ≤ 60 := by omega
    decreasing_trivial_pre_omega
    intro m m0 m1
    have em : (.int m : PyData) = .int ((m.toNat : Nat) : Int) := by congr 1; omega
    rw [em]
    refine ⟨st, d, m.toNat, rfl, ⟨hM1, ht, hn14, by omega⟩, fun es ok few l9 => ?_⟩
    have ho := ok.2.1.ok
    have gkS : Gks 2800000 27 (es.map Edt.d) := Gks.ofL (m := 300000) (n := 9) (fun x hx => by
      obtain ⟨e, he, rfl⟩ := List.mem_map.mp hx
      exact edt_gk ht12 n60 (ho e he) (few e he)) (by rw [List.length_map]; exact l9) (by decide)
    have gkT := gkS.tup (m' := 2800010) (by decide)
    have sh1 := (GdB.of ((Gks.cons (m' := 2800012) (m'' := 2900000) ((tree_gk ht12 n60).mono (Nat.le_refl _) (show 24 ≤ 28 by decide)) (.cons (m' := 0) gkT .nil (by decide)) (by decide)).lst (m' := 3000000) (by decide)) (by decide) (by decide)).sh
    have mild := few_mild ho few
    have bt := bhd_tr mild [] ht
    have nB := ok.2.2.2.1
    have lB := ok.2.2.2.2
    have tB12 : TrT 12 (bhd es [] d) := (tr_by bt).mono lB
    have shB := (GdB.of (tree_gk tB12 nB) (by decide) (by decide)).sh
    have shD := (GdB.of (tree_gk ht12 n60) (by decide) (by decide)).sh
    have uS : UniqE es := ok.2.1.up.imp fun {x y} h z => by
      have : ltE x y = ltE x x := by
        unfold ltE Edt.kT
        rw [z.1, z.2.1, z.2.2]
      rw [this, ltE_irr] at h
      cases h
    have sub2 : ∀ e ∈ nOut es, e ∈ es := fun e he => (List.mem_filter.mp he).1
    have mild2 := few_mild (fun e he => ho e (sub2 e he)) (fun e he => few e (sub2 e he))
    have bt2 := bhd_tr mild2 [] ht
    have bn2 := bhd_nn mild2 [] ht
    have e9 := still_labd mild.tr [] ht
    have e8 := still_wo mild.tr [] ht
    decreasing_trivial_pre_omega
    refine ⟨d, es, rfl, ⟨ht12, n60, uS, ho, by omega, by rw [e9]; exact bt2.mono (by decide), by rw [e9]; omega⟩, fun c M2 k2 f2 => ?_⟩
    have st2 : M2 st = some (.src false) := by rw [k2 st (by rw [hM1]; exact fun z => nomatch z)]; exact hM1
    have at2 := f2 M2 fun _ _ _ => rfl
    have ss := side_slim ok.2.1 ok.2.2.1
    have td := (tree_eq ht12 n60).2.2.1
    decreasing_trivial_pre_omega
    refine ⟨d, _, rfl, ⟨td, ss.1, ss.2⟩, chk_ok ok ⟨es, rfl, ok.2.1, ?_⟩⟩
    decreasing_trivial_pre_omega
    refine ⟨(labd es [] d).wo es, .r c, rfl, ⟨at2, by rw [e8]; exact bt.mono (by decide), by rw [e8]; omega⟩, ?_⟩
    rw [e8]
    decreasing_trivial_pre_omega
    have ok0 : OkSide d [] := ⟨tree_iff.mpr ⟨ht12, n60⟩, .nil, by decide, by rw [bhd_nil [] ht]; exact n60, by rw [bhd_nil [] ht]; exact lev_le ht12⟩
    have ss0 := side_slim (d := d) (es := []) .nil (by decide)
    refine ⟨d, .tuple [], rfl, ⟨td, ss0.1, ss0.2⟩, chk_ok (es := []) ok0 ⟨[], rfl, .nil, ?_⟩⟩
    rw [bhd_nil [] ht]
    have wl := whr_len ((labd es [] d).wo es) []
    rw [e8] at wl
    decreasing_trivial_pre_omega
    refine ⟨(labd es [] d).wo es, .r c, [], rfl, ⟨at2, by rw [e8]; exact bt.mono (by decide), by rw [e8]; omega, by decide, by omega⟩, ?_⟩
    have tg := fun q e hs => there_get (es := es) mild.tr ht (q := q) (e := e) hs
    generalize hL : ((labd es [] d).wo es).whr [] = L at tg wl
    have sp : ∀ {x y : Nat}, x = y → x = y := fun h => h
    decreasing_trivial_pre_omega
    refine ⟨L.map kdW, mergW_kd L, szB (by rw [List.length_map]; omega), fun x hx => ?_, fun p hp => ?_⟩
    · obtain ⟨y, _, rfl⟩ := List.mem_map.mp hx
      exact ⟨ok_path' y.1, Nat.le_trans (pathD_depth y.1) (by decide)⟩
    have np : st ≠ p := fun z => by rw [z, hp] at st2; cases st2
    have st3 : mset M2 p (.dT (mergW [] (L.map kdW))) st = some (.src false) := by rw [mset_ne np]; exact st2
    have D3 : mset M2 p (.dT (mergW [] (L.map kdW))) p = some (.dT (mergW [] (L.map kdW))) := mset_same
    show seqS _ _ _ _ (mset M2 p (.dT (mergW [] (L.map kdW))))
    generalize mset M2 p (.dT (mergW [] (L.map kdW))) = M3 at st3 D3 ⊢
    decreasing_trivial_pre_omega
    refine ⟨d, [], rfl, ⟨ht12, by omega, by decide⟩, ?_⟩
    decreasing_trivial_pre_omega
    rw [show pls [] (plc d) = (plc d).map pathD from rfl]
    refine for1 (xs := (plc d).map pathD) (f := W.d) (fun i2 ρ M' => M' = M3 ∧ ∃ y8, ρ = [some (.o (.ref a)), some (.r st), some (.d (.int (0 + (i : Int)))), some (.d d), some (.d (.tuple (es.map Edt.d))), some (.d (.str (PyData.list [d, .tuple (es.map Edt.d)]).shown)), some (.r c), some (.r p), y8, y9]) ⟨rfl, _, rfl⟩ (fun _ _ _ _ _ => trivial) (fun i2 x ρ M4 N2 hx p2 hN2 => ?_) (fun ρ M4 p2 => ?_)
    · obtain ⟨rfl, z8, rfl⟩ := p2
      rw [List.getElem?_map] at hx
      obtain ⟨q, hq, rfl⟩ := Option.map_eq_some_iff.mp hx
      have hqm := List.mem_of_getElem? hq
      obtain ⟨e, he⟩ := plc_sub ht q hqm
      have pq := place_ok ht12 n60 he
      have tgq := tg q e he
      have shP := (show GdB (optPath (phE es [] q)) by
        cases cc : phE es [] q with
        | none => exact GdB.of (m := 4) (k := 1) ⟨by decide +kernel, by decide +kernel, by decide +kernel⟩ (by decide) (by decide)
        | some r' => exact GdB.of (gk_path (by have := ph_len cc; have := pq.1; omega) (ph_small few (fun i hi => pq.2 i hi) cc)) (by decide) (by decide)).sh
      decreasing_trivial_pre_omega
      refine ⟨d, pathD q, es, rfl, ⟨ok, path_txt q⟩, fun a9 => (by rw [isPath_of pq] at a9; cases a9), fun q2 a9 _ b9 => (by rw [← pathD_inj a9, he] at b9; cases b9), fun q2 e2 a9 b9 c9 => ?_⟩
      rw [← pathD_inj a9]
      decreasing_trivial_pre_omega
      refine ⟨⟨ok_path' q, Nat.le_trans (pathD_depth q) (by decide)⟩, _, D3, ?_⟩
      have tgq2 : (valU (mergW [] (L.map kdW)) (.tuple (q.map fun n : Nat => PyData.int (n : Int)))).getD (W.d .none) = W.d (optPath (phE es [] q)) := tgq
      rw [tgq2]
      decreasing_trivial_pre_omega
      exact hN2 _ _ ⟨rfl, _, rfl⟩
    · obtain ⟨rfl, z8, rfl⟩ := p2
      decreasing_trivial_pre_omega
      intro o o0 o1
      decreasing_trivial_pre_omega
      refine gO_atD (fun x => txt x = true ∧ isPath x = false) o0 (by exact o1) (all1 ⟨by decide +kernel, by decide +kernel⟩ (all1 ⟨by decide +kernel, by decide +kernel⟩ (all1 ⟨by decide +kernel, by decide +kernel⟩ (all1 ⟨by decide +kernel, by decide +kernel⟩ (all1 ⟨by decide +kernel, by decide +kernel⟩ (all1 ⟨by decide +kernel, by decide +kernel⟩ (all1 ⟨by decide +kernel, by decide +kernel⟩ (all1 ⟨by decide +kernel, by decide +kernel⟩ all0)))))))) fun x ⟨tx, px⟩ => ?_
      have far : sub d [59, 0] = none := by
        obtain ⟨s0, ks, rfl, _, _⟩ := id ht
        rw [sub_node]
        rw [nn] at hn14
        have := len_nn ks
        rw [List.getElem?_eq_none (by omega)]
      decreasing_trivial_pre_omega
      refine ⟨d, x, es, 0, rfl, ⟨ok, .np x tx px⟩, ?_⟩
      decreasing_trivial_pre_omega
      refine ⟨d, pathD [59, 0], es, 1, rfl, ⟨ok, .far [59, 0] ⟨by decide, by decide⟩ far⟩, ?_⟩
      decreasing_trivial_pre_omega
      exact hN _ _ ⟨st3, _, _, _, _, _, _, _, _, rfl⟩
  · obtain ⟨hM1, y2, y3, y4, y5, y6, y7, y8, y9, rfl⟩ := p
    decreasing_trivial_pre_omega
end
end Tl
set_option Elab.async false
set_option linter.all false
set_option maxRecDepth 100000
set_option maxHeartbeats 16000000
namespace Tl
open PySem L2 RZ
section
variable {P : Program} {w : World} {K : PySem.W.Frag} {mg : Str → Option Value}
structure Defs (K : PySem.W.Frag) (mg : Str → Option Value) where
  d_is_count : At K mg "is_count" sIsCount
  d_is_number : At K mg "is_number" sIsNumber
  d_is_tag : At K mg "is_tag" sIsTag
  d_is_tag_and_kids : At K mg "is_tag_and_kids" sTagKids
  d_room_behind : At K mg "room_behind" sRoom
  d_is_tree : At K mg "is_tree" sIsTree
  d_check_tree : At K mg "check_tree" sChkTree
  d__law_next : At K mg "_law_next" sNext
  d__law_state : At K mg "_law_state" sState
  d__law_tag : At K mg "_law_tag" sTag1
  d__law_tree : At K mg "_law_tree" sTreeL
  d_count_places : At K mg "count_places" sCntPlaces
  d_count_levels : At K mg "count_levels" sCntLevels
  d__law_levels : At K mg "_law_levels" sLLevels
  d_part_at : At K mg "part_at" sPartAt
  d__law_places : At K mg "_law_places" sPlaces
  d_is_path : At K mg "is_path" sIsPath
  d_check_path : At K mg "check_path" sChkPath
  d_check_place : At K mg "check_place" sChkPl
  d_is_within : At K mg "is_within" sWithin
  d_is_row_of_trees : At K mg "is_row_of_trees" sRowT
  d_key_of : At K mg "key_of" sKeyOf
  d_takes_with : At K mg "takes_with" sTakes
  d_goes_on : At K mg "goes_on" sGoes
  d_is_edit : At K mg "is_edit" sIsEdit
  d_part_behind : At K mg "part_behind" sPartB
  d_tree_behind : At K mg "tree_behind" sTreeB
  d_many_ahead : At K mg "many_ahead" sAhead
  d_path_behind : At K mg "path_behind" sPathB
  d_first_wrong : At K mg "first_wrong" sFirst
  d_check_side : At K mg "check_side" sChkS
  d_led_by_side : At K mg "led_by_side" sLed
  d_place_led : At K mg "place_led" sPlaceL
  d__law_part : At K mg "_law_part" sPart
  d__law_key : At K mg "_law_key" sKeyL
  d__law_begins : At K mg "_law_begins" sBegins
  d__law_disturbs : At K mg "_law_disturbs" sDist
  d__law_live : At K mg "_law_live" sLiveS
  d__law_still : At K mg "_law_still" sStillS
  d__law_without : At K mg "_law_without" sWoS
  d__law_where : At K mg "_law_where" sWhr
  d__law_side_done : At K mg "_law_side_done" sSideD
  d__law_edit : At K mg "_law_edit" sEditL
  d__law_side : At K mg "_law_side" sSideL
  d__law_refused : At K mg "_law_refused" sRefS
  d_law : At K mg "law" sLaw
def calls (D : Defs K mg) (T : Bl mg) (A : Cls K mg) (R : EdW K A.c_Edits) (C : Cs mg) (mS : mg "sum" = none) (mSrt : mg "sorted" = none) (mAny : mg "any" = none) (base : Heap) : Calls P w K mg base A :=
  let uCount := use (P := P) (w := w) (base := base) D.d_is_count (D.d_is_count.F.binds (ps := ["thing"]) fun _ _ _ _ _ _ us hl => match us, hl with | [_], _ => rfl) (ok_count (k := 0) D.d_is_count.F T)
  let uNumber := use (P := P) (w := w) (base := base) D.d_is_number (D.d_is_number.F.binds (ps := ["thing", "most"]) fun _ _ _ _ _ _ us hl => match us, hl with | [_, _], _ => rfl) (ok_number (k := 1) D.d_is_number.F uCount (by decide) T)
  let uTag := use (P := P) (w := w) (base := base) D.d_is_tag (D.d_is_tag.F.binds (ps := ["thing"]) fun _ _ _ _ _ _ us hl => match us, hl with | [_], _ => rfl) (ok_tag (k := 0) D.d_is_tag.F T C)
  let uPath := use (P := P) (w := w) (base := base) D.d_is_path (D.d_is_path.F.binds (ps := ["thing"]) fun _ _ _ _ _ _ us hl => match us, hl with | [_], _ => rfl) (ok_path (k := 2) D.d_is_path.F uNumber (by decide) T C)
  let uTagKids := use (P := P) (w := w) (base := base) D.d_is_tag_and_kids (D.d_is_tag_and_kids.F.binds (ps := ["thing"]) fun _ _ _ _ _ _ us hl => match us, hl with | [_], _ => rfl) (ok_tagKids (k := 1) D.d_is_tag_and_kids.F uTag (by decide) T)
  let uRoom := use (P := P) (w := w) (base := base) D.d_room_behind (D.d_room_behind.F.binds (ps := ["thing", "levels", "room"]) fun _ _ _ _ _ _ us hl => match us, hl with | [_, _, _], _ => rfl) (ok_room D.d_room_behind.F D.d_room_behind.m uTagKids (by decide) T 13)
  let uTree := use (P := P) (w := w) (base := base) D.d_is_tree (D.d_is_tree.F.binds (ps := ["thing"]) fun _ _ _ _ _ _ us hl => match us, hl with | [_], _ => rfl) (ok_tree (k := 15) D.d_is_tree.F uRoom (by decide) C)
  let uChkT := useX (P := P) (w := w) (base := base) D.d_check_tree (D.d_check_tree.F.binds (ps := ["thing"]) fun _ _ _ _ _ _ us hl => match us, hl with | [_], _ => rfl) (ok_chkTree (k := 16) D.d_check_tree.F A.e_NoTree uTree (by decide))
  let uPartAt := use (P := P) (w := w) (base := base) D.d_part_at (D.d_part_at.F.binds (ps := ["tree", "path"]) fun _ _ _ _ _ _ us hl => match us, hl with | [_, _], _ => rfl) (ok_partAt (k := 0) D.d_part_at.F T)
  let uWithin := use (P := P) (w := w) (base := base) D.d_is_within (D.d_is_within.F.binds (ps := ["path", "top"]) fun _ _ _ _ _ _ us hl => match us, hl with | [_, _], _ => rfl) (ok_within (k := 0) D.d_is_within.F T)
  let uCntP := use (P := P) (w := w) (base := base) D.d_count_places (D.d_count_places.F.binds (ps := ["tree"]) fun _ _ _ _ _ _ us hl => match us, hl with | [_], _ => rfl) (ok_cntPlaces D.d_count_places.F D.d_count_places.m T mS 30)
  let uCntL := use (P := P) (w := w) (base := base) D.d_count_levels (D.d_count_levels.F.binds (ps := ["tree"]) fun _ _ _ _ _ _ us hl => match us, hl with | [_], _ => rfl) (ok_cntLevels D.d_count_levels.F D.d_count_levels.m T 30)
  let uRowT := use (P := P) (w := w) (base := base) D.d_is_row_of_trees (D.d_is_row_of_trees.F.binds (ps := ["thing"]) fun _ _ _ _ _ _ us hl => match us, hl with | [_], _ => rfl) (ok_rowT (j := 16) (k := 16) D.d_is_row_of_trees.F uTree (by decide) T)
  let uKey := use (P := P) (w := w) (base := base) D.d_key_of (D.d_key_of.F.binds (ps := ["edit"]) fun _ _ _ _ _ _ us hl => match us, hl with | [_], _ => rfl) (ok_key (k := 0) D.d_key_of.F T)
  let uTakes := use (P := P) (w := w) (base := base) D.d_takes_with (D.d_takes_with.F.binds (ps := ["edit", "other"]) fun _ _ _ _ _ _ us hl => match us, hl with | [_, _], _ => rfl) (ok_takes (j := 1) (k := 1) D.d_takes_with.F uWithin (by decide) T)
  let uGoes := use (P := P) (w := w) (base := base) D.d_goes_on (D.d_goes_on.F.binds (ps := ["side", "edit"]) fun _ _ _ _ _ _ us hl => match us, hl with | [_, _], _ => rfl) (ok_goes (j := 2) (k := 2) D.d_goes_on.F (uKey.up (by decide)) uTakes (by decide) T mAny)
  let uIsEdit := use (P := P) (w := w) (base := base) D.d_is_edit (D.d_is_edit.F.binds (ps := ["tree", "thing"]) fun _ _ _ _ _ _ us hl => match us, hl with | [_, _], _ => rfl) (ok_isEdit (j := 17) (k := 17) D.d_is_edit.F (uPath.up (by decide)) (uPartAt.up (by decide)) (uTag.up (by decide)) (uNumber.up (by decide)) uRowT (by decide) T)
  let uFirst := use (P := P) (w := w) (base := base) D.d_first_wrong (D.d_first_wrong.F.binds (ps := ["tree", "edits"]) fun _ _ _ _ _ _ us hl => match us, hl with | [_, _], _ => rfl) (ok_first (j := 18) (k := 18) D.d_first_wrong.F uIsEdit (uGoes.up (by decide)) (by decide) T)
  let uInit := (⟨_, _, ok_edIn (k := 20) R.F0 R.M T, R.mkr, A.m_Edits, R.F0.binds (ps := ["self", "side"]) fun _ _ _ _ _ _ us hl => match us, hl with | [_, _], _ => rfl⟩ : UseC P w K mg base A.c_Edits "Edits" ["self", "side"] 21 (spD K 2 (tfEdIn A.c_Edits)))
  let uInit2 := (⟨_, _, ok_edIn (k := 30) R.F0 R.M T, R.mkr, A.m_Edits, R.F0.binds (ps := ["self", "side"]) fun _ _ _ _ _ _ us hl => match us, hl with | [_, _], _ => rfl⟩ : UseC P w K mg base A.c_Edits "Edits" ["self", "side"] 31 (spD K 2 (tfEdIn A.c_Edits)))
  let uTA1 := (⟨_, _, ok_treesAt (k := 0) R.F1 R.M T, R.h1, R.F1.binds (ps := ["self", "path", "at"]) fun _ _ _ _ _ _ us hl => match us, hl with | [_, _, _], _ => rfl⟩ : UseM P w K mg base A.c_Edits "trees_at" ["self", "path", "at"] 1 (spD K 3 (tfTreesAt A.c_Edits)))
  let uTA2 := (⟨_, _, ok_treesAt (k := 1) R.F1 R.M T, R.h1, R.F1.binds (ps := ["self", "path", "at"]) fun _ _ _ _ _ _ us hl => match us, hl with | [_, _, _], _ => rfl⟩ : UseM P w K mg base A.c_Edits "trees_at" ["self", "path", "at"] 2 (spD K 3 (tfTreesAt A.c_Edits)))
  let uPartB := use (P := P) (w := w) (base := base) D.d_part_behind (D.d_part_behind.F.binds (ps := ["part", "path", "edits"]) fun _ _ _ _ _ _ us hl => match us, hl with | [_, _, _], _ => rfl) (ok_partB D.d_part_behind.F D.d_part_behind.m R.M uTA1 T 20)
  let uTreeB := useX (P := P) (w := w) (base := base) D.d_tree_behind (D.d_tree_behind.F.binds (ps := ["tree", "side"]) fun _ _ _ _ _ _ us hl => match us, hl with | [_, _], _ => rfl) (ok_treeB (j := 21) (k := 22) D.d_tree_behind.F uInit uPartB (by decide) T)
  let uChkS := useX (P := P) (w := w) (base := base) D.d_check_side (D.d_check_side.F.binds (ps := ["tree", "thing"]) fun _ _ _ _ _ _ us hl => match us, hl with | [_, _], _ => rfl) (ok_chkSide (j := 30) (k := 30) D.d_check_side.F A.e_NoSide (uChkT.up (by decide)) (uFirst.up (by decide)) (uTreeB.up (by decide)) (uCntP.up (by decide)) (uCntL.up (by decide)) (by decide) (by decide) T C)
  let uLed := useX (P := P) (w := w) (base := base) D.d_led_by_side (D.d_led_by_side.F.binds (ps := ["tree", "side"]) fun _ _ _ _ _ _ us hl => match us, hl with | [_, _], _ => rfl) (ok_led (j := 31) (k := 31) D.d_led_by_side.F uChkS (uTreeB.up (by decide)) (by decide) T)
  let uAhead := use (P := P) (w := w) (base := base) D.d_many_ahead (D.d_many_ahead.F.binds (ps := ["path", "at", "edits"]) fun _ _ _ _ _ _ us hl => match us, hl with | [_, _, _], _ => rfl) (ok_ahead (j := 1) (k := 1) D.d_many_ahead.F R.M uTA1 (by decide) T)
  let uPathB := use (P := P) (w := w) (base := base) D.d_path_behind (D.d_path_behind.F.binds (ps := ["path", "edits"]) fun _ _ _ _ _ _ us hl => match us, hl with | [_, _], _ => rfl) (ok_pathB (j := 2) (k := 2) D.d_path_behind.F R.M uTA2 uAhead (by decide) T)
  let uChkPath := useX (P := P) (w := w) (base := base) D.d_check_path (D.d_check_path.F.binds (ps := ["thing"]) fun _ _ _ _ _ _ us hl => match us, hl with | [_], _ => rfl) (ok_chkPath (k := 3) D.d_check_path.F A.e_NoPath uPath (by decide))
  let uChkPl := useX (P := P) (w := w) (base := base) D.d_check_place (D.d_check_place.F.binds (ps := ["tree", "thing"]) fun _ _ _ _ _ _ us hl => match us, hl with | [_, _], _ => rfl) (ok_chkPl (j := 4) (k := 4) D.d_check_place.F A.e_NoPlace uChkPath (uPartAt.up (by decide)) (by decide) (by decide))
  let uPl := useX (P := P) (w := w) (base := base) D.d_place_led (D.d_place_led.F.binds (ps := ["tree", "side", "path"]) fun _ _ _ _ _ _ us hl => match us, hl with | [_, _, _], _ => rfl) (ok_placeLed (j := 31) (k := 32) D.d_place_led.F uChkS (uChkPl.up (by decide)) uInit2 (uPathB.up (by decide)) (by decide) T)
  let uState := use (P := P) (w := w) (base := base) D.d__law_state (D.d__law_state.F.binds (ps := ["_law_script"]) fun _ _ _ _ _ _ us hl => match us, hl with | [_], _ => rfl) (ok_state (k := 0) D.d__law_state.F T)
  let uNext := use (P := P) (w := w) (base := base) D.d__law_next (D.d__law_next.F.binds (ps := ["_law_state_here", "_law_below"]) fun _ _ _ _ _ _ us hl => match us, hl with | [_, _], _ => rfl) (ok_next (k := 0) D.d__law_next.F T)
  let uTagL := use (P := P) (w := w) (base := base) D.d__law_tag (D.d__law_tag.F.binds (ps := ["_law_state_here"]) fun _ _ _ _ _ _ us hl => match us, hl with | [_], _ => rfl) (ok_lTag (k := 1) D.d__law_tag.F uNext (by decide) T)
  let uTreeL := use (P := P) (w := w) (base := base) D.d__law_tree (D.d__law_tree.F.binds (ps := ["_law_state_here", "_law_bound"]) fun _ _ _ _ _ _ us hl => match us, hl with | [_, _], _ => rfl) (ok_treeL (j := 2) (k := 2) D.d__law_tree.F (uNext.up (by decide)) uTagL (by decide) T)
  let uPlaces := use (P := P) (w := w) (base := base) D.d__law_places (D.d__law_places.F.binds (ps := ["_law_tree_here", "_law_path"]) fun _ _ _ _ _ _ us hl => match us, hl with | [_, _], _ => rfl) (ok_places D.d__law_places.F D.d__law_places.m T 12)
  let uPlaces3 := use (P := P) (w := w) (base := base) D.d__law_places (D.d__law_places.F.binds (ps := ["_law_tree_here", "_law_path"]) fun _ _ _ _ _ _ us hl => match us, hl with | [_, _], _ => rfl) (ok_places D.d__law_places.F D.d__law_places.m T 30)
  let uPart := use (P := P) (w := w) (base := base) D.d__law_part (D.d__law_part.F.binds (ps := ["_law_tree_here", "_law_path"]) fun _ _ _ _ _ _ us hl => match us, hl with | [_, _], _ => rfl) (ok_part (k := 0) D.d__law_part.F T)
  let uLev := use (P := P) (w := w) (base := base) D.d__law_levels (D.d__law_levels.F.binds (ps := ["_law_tree_here"]) fun _ _ _ _ _ _ us hl => match us, hl with | [_], _ => rfl) (ok_lLevels D.d__law_levels.F D.d__law_levels.m T 30)
  let uKeyL := use (P := P) (w := w) (base := base) D.d__law_key (D.d__law_key.F.binds (ps := ["_law_edit_here"]) fun _ _ _ _ _ _ us hl => match us, hl with | [_], _ => rfl) (ok_keyL (k := 0) D.d__law_key.F T)
  let uBegins := use (P := P) (w := w) (base := base) D.d__law_begins (D.d__law_begins.F.binds (ps := ["_law_path", "_law_other"]) fun _ _ _ _ _ _ us hl => match us, hl with | [_, _], _ => rfl) (ok_begins (k := 0) D.d__law_begins.F T)
  let uDist := use (P := P) (w := w) (base := base) D.d__law_disturbs (D.d__law_disturbs.F.binds (ps := ["_law_edit_here", "_law_other"]) fun _ _ _ _ _ _ us hl => match us, hl with | [_, _], _ => rfl) (ok_dist (j := 1) (k := 1) D.d__law_disturbs.F uBegins (by decide) T)
  let uLive := use (P := P) (w := w) (base := base) D.d__law_live (D.d__law_live.F.binds (ps := ["_law_tree_here", "_law_path"]) fun _ _ _ _ _ _ us hl => match us, hl with | [_, _], _ => rfl) (ok_liveS D.d__law_live.F D.d__law_live.m T 12)
  let uStill := use (P := P) (w := w) (base := base) D.d__law_still (D.d__law_still.F.binds (ps := ["_law_live_here"]) fun _ _ _ _ _ _ us hl => match us, hl with | [_], _ => rfl) (ok_stillS D.d__law_still.F D.d__law_still.m T 30)
  let uWo := use (P := P) (w := w) (base := base) D.d__law_without (D.d__law_without.F.binds (ps := ["_law_live_here", "_law_outs"]) fun _ _ _ _ _ _ us hl => match us, hl with | [_, _], _ => rfl) (ok_woS D.d__law_without.F D.d__law_without.m T 30)
  let uWhr := use (P := P) (w := w) (base := base) D.d__law_where (D.d__law_where.F.binds (ps := ["_law_live_here", "_law_path"]) fun _ _ _ _ _ _ us hl => match us, hl with | [_, _], _ => rfl) (ok_whr D.d__law_where.F D.d__law_where.m T 30)
  let uSideD := use (P := P) (w := w) (base := base) D.d__law_side_done (D.d__law_side_done.F.binds (ps := ["_law_tree_here", "_law_side_here"]) fun _ _ _ _ _ _ us hl => match us, hl with | [_, _], _ => rfl) (ok_sideD (j := 30) (k := 30) D.d__law_side_done.F (uLive.up (by decide)) (uWo.up (by decide)) (by decide) T)
  let uEdit := use (P := P) (w := w) (base := base) D.d__law_edit (D.d__law_edit.F.binds (ps := ["_law_state_here", "_law_tree_here"]) fun _ _ _ _ _ _ us hl => match us, hl with | [_, _], _ => rfl) (ok_editL (j := 12) (k := 12) D.d__law_edit.F (uNext.up (by decide)) (uTagL.up (by decide)) (uTreeL.up (by decide)) (uPlaces.up (by decide)) (uPart.up (by decide)) (by decide) T)
  let uSide := use (P := P) (w := w) (base := base) D.d__law_side (D.d__law_side.F.binds (ps := ["_law_state_here", "_law_tree_here", "_law_many"]) fun _ _ _ _ _ _ us hl => match us, hl with | [_, _, _], _ => rfl) (ok_sideL (j := 31) (k := 32) D.d__law_side.F (uEdit.up (by decide)) (uKeyL.up (by decide)) (uDist.up (by decide)) uSideD (uStill.up (by decide)) (uPlaces3.up (by decide)) (uLev.up (by decide)) (by decide) T mSrt)
  let uRef := use (P := P) (w := w) (base := base) D.d__law_refused (D.d__law_refused.F.binds (ps := ["_law_tree_here", "_law_side_here", "_law_path", "_law_kind"]) fun _ _ _ _ _ _ us hl => match us, hl with | [_, _, _, _], _ => rfl) (ok_refS (j := 33) (k := 33) D.d__law_refused.F A uPl (by decide) T)
  ⟨100, by decide, uLed.up (by decide), uPl.up (by decide), uState.up (by decide), uNext.up (by decide), uTreeL.up (by decide), uPlaces.up (by decide), uSide.up (by decide), uSideD.up (by decide), uStill.up (by decide), uWhr.up (by decide), uRef.up (by decide)⟩
end
theorem all_mk {P : Program} {w : World} {K : PySem.W.Frag} {h : Heap} {mg : Str → Option Value} {fa : Addr} (X : K.In h) (G : h.Ns mainGlobals mg) (hfa : mg "law" = some (.ref fa)) {t1 t2 t3 : Tok}
    {f1 : Addr} {od1 an1 : Option Addr} {sl1 : Array (Option Value)} {oc1 kV1 dc1 pm1 cd1 ct1 : Value}
    {f2 : Addr} {od2 an2 : Option Addr} {sl2 : Array (Option Value)} {oc2 kV2 dc2 pm2 cd2 ct2 : Value}
    {f3 : Addr} {od3 an3 : Option Addr} {sl3 : Array (Option Value)} {oc3 kV3 dc3 pm3 cd3 ct3 : Value}
    {f4 : Addr} {od4 an4 : Option Addr} {sl4 : Array (Option Value)} {oc4 kV4 dc4 pm4 cd4 ct4 : Value}
    {f5 : Addr} {od5 an5 : Option Addr} {sl5 : Array (Option Value)} {oc5 kV5 dc5 pm5 cd5 ct5 : Value}
    {f6 : Addr} {od6 an6 : Option Addr} {sl6 : Array (Option Value)} {oc6 kV6 dc6 pm6 cd6 ct6 : Value}
    {f7 : Addr} {od7 an7 : Option Addr} {sl7 : Array (Option Value)} {oc7 kV7 dc7 pm7 cd7 ct7 : Value}
    {f8 : Addr} {od8 an8 : Option Addr} {sl8 : Array (Option Value)} {oc8 kV8 dc8 pm8 cd8 ct8 : Value}
    {f9 : Addr} {od9 an9 : Option Addr} {sl9 : Array (Option Value)} {oc9 kV9 dc9 pm9 cd9 ct9 : Value}
    {f10 : Addr} {od10 an10 : Option Addr} {sl10 : Array (Option Value)} {oc10 kV10 dc10 pm10 cd10 ct10 : Value}
    {f11 : Addr} {od11 an11 : Option Addr} {sl11 : Array (Option Value)} {oc11 kV11 dc11 pm11 cd11 ct11 : Value}
    {f12 : Addr} {od12 an12 : Option Addr} {sl12 : Array (Option Value)} {oc12 kV12 dc12 pm12 cd12 ct12 : Value}
    {f13 : Addr} {od13 an13 : Option Addr} {sl13 : Array (Option Value)} {oc13 kV13 dc13 pm13 cd13 ct13 : Value}
    {f14 : Addr} {od14 an14 : Option Addr} {sl14 : Array (Option Value)} {oc14 kV14 dc14 pm14 cd14 ct14 : Value}
    {f15 : Addr} {od15 an15 : Option Addr} {sl15 : Array (Option Value)} {oc15 kV15 dc15 pm15 cd15 ct15 : Value}
    {f16 : Addr} {od16 an16 : Option Addr} {sl16 : Array (Option Value)} {oc16 kV16 dc16 pm16 cd16 ct16 : Value}
    {f17 : Addr} {od17 an17 : Option Addr} {sl17 : Array (Option Value)} {oc17 kV17 dc17 pm17 cd17 ct17 : Value}
    {f18 : Addr} {od18 an18 : Option Addr} {sl18 : Array (Option Value)} {oc18 kV18 dc18 pm18 cd18 ct18 : Value}
    {f19 : Addr} {od19 an19 : Option Addr} {sl19 : Array (Option Value)} {oc19 kV19 dc19 pm19 cd19 ct19 : Value}
    {f20 : Addr} {od20 an20 : Option Addr} {sl20 : Array (Option Value)} {oc20 kV20 dc20 pm20 cd20 ct20 : Value}
    {f21 : Addr} {od21 an21 : Option Addr} {sl21 : Array (Option Value)} {oc21 kV21 dc21 pm21 cd21 ct21 : Value}
    {f22 : Addr} {od22 an22 : Option Addr} {sl22 : Array (Option Value)} {oc22 kV22 dc22 pm22 cd22 ct22 : Value}
    {f23 : Addr} {od23 an23 : Option Addr} {sl23 : Array (Option Value)} {oc23 kV23 dc23 pm23 cd23 ct23 : Value}
    {f24 : Addr} {od24 an24 : Option Addr} {sl24 : Array (Option Value)} {oc24 kV24 dc24 pm24 cd24 ct24 : Value}
    {f25 : Addr} {od25 an25 : Option Addr} {sl25 : Array (Option Value)} {oc25 kV25 dc25 pm25 cd25 ct25 : Value}
    {f26 : Addr} {od26 an26 : Option Addr} {sl26 : Array (Option Value)} {oc26 kV26 dc26 pm26 cd26 ct26 : Value}
    {f27 : Addr} {od27 an27 : Option Addr} {sl27 : Array (Option Value)} {oc27 kV27 dc27 pm27 cd27 ct27 : Value}
    {f28 : Addr} {od28 an28 : Option Addr} {sl28 : Array (Option Value)} {oc28 kV28 dc28 pm28 cd28 ct28 : Value}
    {f29 : Addr} {od29 an29 : Option Addr} {sl29 : Array (Option Value)} {oc29 kV29 dc29 pm29 cd29 ct29 : Value}
    {f30 : Addr} {od30 an30 : Option Addr} {sl30 : Array (Option Value)} {oc30 kV30 dc30 pm30 cd30 ct30 : Value}
    {f31 : Addr} {od31 an31 : Option Addr} {sl31 : Array (Option Value)} {oc31 kV31 dc31 pm31 cd31 ct31 : Value}
    {f32 : Addr} {od32 an32 : Option Addr} {sl32 : Array (Option Value)} {oc32 kV32 dc32 pm32 cd32 ct32 : Value}
    {f33 : Addr} {od33 an33 : Option Addr} {sl33 : Array (Option Value)} {oc33 kV33 dc33 pm33 cd33 ct33 : Value}
    {f34 : Addr} {od34 an34 : Option Addr} {sl34 : Array (Option Value)} {oc34 kV34 dc34 pm34 cd34 ct34 : Value}
    {f35 : Addr} {od35 an35 : Option Addr} {sl35 : Array (Option Value)} {oc35 kV35 dc35 pm35 cd35 ct35 : Value}
    {f36 : Addr} {od36 an36 : Option Addr} {sl36 : Array (Option Value)} {oc36 kV36 dc36 pm36 cd36 ct36 : Value}
    {f37 : Addr} {od37 an37 : Option Addr} {sl37 : Array (Option Value)} {oc37 kV37 dc37 pm37 cd37 ct37 : Value}
    {f38 : Addr} {od38 an38 : Option Addr} {sl38 : Array (Option Value)} {oc38 kV38 dc38 pm38 cd38 ct38 : Value}
    {f39 : Addr} {od39 an39 : Option Addr} {sl39 : Array (Option Value)} {oc39 kV39 dc39 pm39 cd39 ct39 : Value}
    {f40 : Addr} {od40 an40 : Option Addr} {sl40 : Array (Option Value)} {oc40 kV40 dc40 pm40 cd40 ct40 : Value}
    {f41 : Addr} {od41 an41 : Option Addr} {sl41 : Array (Option Value)} {oc41 kV41 dc41 pm41 cd41 ct41 : Value}
    {f42 : Addr} {od42 an42 : Option Addr} {sl42 : Array (Option Value)} {oc42 kV42 dc42 pm42 cd42 ct42 : Value}
    {f43 : Addr} {od43 an43 : Option Addr} {sl43 : Array (Option Value)} {oc43 kV43 dc43 pm43 cd43 ct43 : Value}
    {f44 : Addr} {od44 an44 : Option Addr} {sl44 : Array (Option Value)} {oc44 kV44 dc44 pm44 cd44 ct44 : Value}
    {f45 : Addr} {od45 an45 : Option Addr} {sl45 : Array (Option Value)} {oc45 kV45 dc45 pm45 cd45 ct45 : Value}
    {f46 : Addr} {od46 an46 : Option Addr} {sl46 : Array (Option Value)} {oc46 kV46 dc46 pm46 cd46 ct46 : Value}
    {c_TreeError c_NoThing c_NoFit c_NoTree c_NoPath c_NoSide c_NoPlace c_Edits : Addr}
    {nm_NoSide q_NoSide : Str} {N_NoSide : Addr} {bs_NoSide bm_NoSide : List Value} {sn_NoSide : List Str} {sub_NoSide : List Value} {ab_NoSide : Bool} {col_NoSide : Option Bool} {dd_NoSide : Option Addr} {g0_NoSide g1_NoSide g2_NoSide g3_NoSide g5_NoSide : Option Value}
    {fI_NoSide : Addr} {odI_NoSide anI_NoSide : Option Addr} {slI_NoSide : Array (Option Value)} {ocI_NoSide kVI_NoSide dcI_NoSide pmI_NoSide cdI_NoSide ctI_NoSide : Value}
    {nm_NoPlace q_NoPlace : Str} {N_NoPlace : Addr} {bs_NoPlace bm_NoPlace : List Value} {sn_NoPlace : List Str} {sub_NoPlace : List Value} {ab_NoPlace : Bool} {col_NoPlace : Option Bool} {dd_NoPlace : Option Addr} {g0_NoPlace g1_NoPlace g2_NoPlace g3_NoPlace g5_NoPlace : Option Value}
    {fI_NoPlace : Addr} {odI_NoPlace anI_NoPlace : Option Addr} {slI_NoPlace : Array (Option Value)} {ocI_NoPlace kVI_NoPlace dcI_NoPlace pmI_NoPlace cdI_NoPlace ctI_NoPlace : Value}
    {fM_Edits_init : Addr} {odM_Edits_init anM_Edits_init : Option Addr} {slM_Edits_init : Array (Option Value)} {ocM_Edits_init kVM_Edits_init dcM_Edits_init pmM_Edits_init cdM_Edits_init ctM_Edits_init : Value}
    {fM_Edits_trees_at : Addr} {odM_Edits_trees_at anM_Edits_trees_at : Option Addr} {slM_Edits_trees_at : Array (Option Value)} {ocM_Edits_trees_at kVM_Edits_trees_at dcM_Edits_trees_at pmM_Edits_trees_at cdM_Edits_trees_at ctM_Edits_trees_at : Value}
    (a1 : PySem.W.nsIn K mainGlobals "is_count" = some (some (.ref f1)))
    (l1 : K.lookup f1 = some ⟨oc1, od1, .func (PySem.W.fnOf "is_count" "is_count" (defArgs sIsCount) (defBody sIsCount) (defScope sIsCount) .none kV1 dc1 pm1 an1 cd1 ct1), sl1⟩)
    (c1 : PySem.W.codeIn K cd1 "is_count" = true)
    (k1 : PySem.W.keepIn K (.ref f1) = true)
    (a2 : PySem.W.nsIn K mainGlobals "is_number" = some (some (.ref f2)))
    (l2 : K.lookup f2 = some ⟨oc2, od2, .func (PySem.W.fnOf "is_number" "is_number" (defArgs sIsNumber) (defBody sIsNumber) (defScope sIsNumber) .none kV2 dc2 pm2 an2 cd2 ct2), sl2⟩)
    (c2 : PySem.W.codeIn K cd2 "is_number" = true)
    (k2 : PySem.W.keepIn K (.ref f2) = true)
    (a3 : PySem.W.nsIn K mainGlobals "is_tag" = some (some (.ref f3)))
    (l3 : K.lookup f3 = some ⟨oc3, od3, .func (PySem.W.fnOf "is_tag" "is_tag" (defArgs sIsTag) (defBody sIsTag) (defScope sIsTag) .none kV3 dc3 pm3 an3 cd3 ct3), sl3⟩)
    (c3 : PySem.W.codeIn K cd3 "is_tag" = true)
    (k3 : PySem.W.keepIn K (.ref f3) = true)
    (a4 : PySem.W.nsIn K mainGlobals "is_tag_and_kids" = some (some (.ref f4)))
    (l4 : K.lookup f4 = some ⟨oc4, od4, .func (PySem.W.fnOf "is_tag_and_kids" "is_tag_and_kids" (defArgs sTagKids) (defBody sTagKids) (defScope sTagKids) .none kV4 dc4 pm4 an4 cd4 ct4), sl4⟩)
    (c4 : PySem.W.codeIn K cd4 "is_tag_and_kids" = true)
    (k4 : PySem.W.keepIn K (.ref f4) = true)
    (a5 : PySem.W.nsIn K mainGlobals "room_behind" = some (some (.ref f5)))
    (l5 : K.lookup f5 = some ⟨oc5, od5, .func (PySem.W.fnOf "room_behind" "room_behind" (defArgs sRoom) (defBody sRoom) (defScope sRoom) .none kV5 dc5 pm5 an5 cd5 ct5), sl5⟩)
    (c5 : PySem.W.codeIn K cd5 "room_behind" = true)
    (k5 : PySem.W.keepIn K (.ref f5) = true)
    (a6 : PySem.W.nsIn K mainGlobals "is_tree" = some (some (.ref f6)))
    (l6 : K.lookup f6 = some ⟨oc6, od6, .func (PySem.W.fnOf "is_tree" "is_tree" (defArgs sIsTree) (defBody sIsTree) (defScope sIsTree) .none kV6 dc6 pm6 an6 cd6 ct6), sl6⟩)
    (c6 : PySem.W.codeIn K cd6 "is_tree" = true)
    (k6 : PySem.W.keepIn K (.ref f6) = true)
    (a7 : PySem.W.nsIn K mainGlobals "check_tree" = some (some (.ref f7)))
    (l7 : K.lookup f7 = some ⟨oc7, od7, .func (PySem.W.fnOf "check_tree" "check_tree" (defArgs sChkTree) (defBody sChkTree) (defScope sChkTree) .none kV7 dc7 pm7 an7 cd7 ct7), sl7⟩)
    (c7 : PySem.W.codeIn K cd7 "check_tree" = true)
    (k7 : PySem.W.keepIn K (.ref f7) = true)
    (a8 : PySem.W.nsIn K mainGlobals "_law_next" = some (some (.ref f8)))
    (l8 : K.lookup f8 = some ⟨oc8, od8, .func (PySem.W.fnOf "_law_next" "_law_next" (defArgs sNext) (defBody sNext) (defScope sNext) .none kV8 dc8 pm8 an8 cd8 ct8), sl8⟩)
    (c8 : PySem.W.codeIn K cd8 "_law_next" = true)
    (k8 : PySem.W.keepIn K (.ref f8) = true)
    (a9 : PySem.W.nsIn K mainGlobals "_law_state" = some (some (.ref f9)))
    (l9 : K.lookup f9 = some ⟨oc9, od9, .func (PySem.W.fnOf "_law_state" "_law_state" (defArgs sState) (defBody sState) (defScope sState) .none kV9 dc9 pm9 an9 cd9 ct9), sl9⟩)
    (c9 : PySem.W.codeIn K cd9 "_law_state" = true)
    (k9 : PySem.W.keepIn K (.ref f9) = true)
    (a10 : PySem.W.nsIn K mainGlobals "_law_tag" = some (some (.ref f10)))
    (l10 : K.lookup f10 = some ⟨oc10, od10, .func (PySem.W.fnOf "_law_tag" "_law_tag" (defArgs sTag1) (defBody sTag1) (defScope sTag1) .none kV10 dc10 pm10 an10 cd10 ct10), sl10⟩)
    (c10 : PySem.W.codeIn K cd10 "_law_tag" = true)
    (k10 : PySem.W.keepIn K (.ref f10) = true)
    (a11 : PySem.W.nsIn K mainGlobals "_law_tree" = some (some (.ref f11)))
    (l11 : K.lookup f11 = some ⟨oc11, od11, .func (PySem.W.fnOf "_law_tree" "_law_tree" (defArgs sTreeL) (defBody sTreeL) (defScope sTreeL) .none kV11 dc11 pm11 an11 cd11 ct11), sl11⟩)
    (c11 : PySem.W.codeIn K cd11 "_law_tree" = true)
    (k11 : PySem.W.keepIn K (.ref f11) = true)
    (a12 : PySem.W.nsIn K mainGlobals "count_places" = some (some (.ref f12)))
    (l12 : K.lookup f12 = some ⟨oc12, od12, .func (PySem.W.fnOf "count_places" "count_places" (defArgs sCntPlaces) (defBody sCntPlaces) (defScope sCntPlaces) .none kV12 dc12 pm12 an12 cd12 ct12), sl12⟩)
    (c12 : PySem.W.codeIn K cd12 "count_places" = true)
    (k12 : PySem.W.keepIn K (.ref f12) = true)
    (a13 : PySem.W.nsIn K mainGlobals "count_levels" = some (some (.ref f13)))
    (l13 : K.lookup f13 = some ⟨oc13, od13, .func (PySem.W.fnOf "count_levels" "count_levels" (defArgs sCntLevels) (defBody sCntLevels) (defScope sCntLevels) .none kV13 dc13 pm13 an13 cd13 ct13), sl13⟩)
    (c13 : PySem.W.codeIn K cd13 "count_levels" = true)
    (k13 : PySem.W.keepIn K (.ref f13) = true)
    (a14 : PySem.W.nsIn K mainGlobals "_law_levels" = some (some (.ref f14)))
    (l14 : K.lookup f14 = some ⟨oc14, od14, .func (PySem.W.fnOf "_law_levels" "_law_levels" (defArgs sLLevels) (defBody sLLevels) (defScope sLLevels) .none kV14 dc14 pm14 an14 cd14 ct14), sl14⟩)
    (c14 : PySem.W.codeIn K cd14 "_law_levels" = true)
    (k14 : PySem.W.keepIn K (.ref f14) = true)
    (a15 : PySem.W.nsIn K mainGlobals "part_at" = some (some (.ref f15)))
    (l15 : K.lookup f15 = some ⟨oc15, od15, .func (PySem.W.fnOf "part_at" "part_at" (defArgs sPartAt) (defBody sPartAt) (defScope sPartAt) .none kV15 dc15 pm15 an15 cd15 ct15), sl15⟩)
    (c15 : PySem.W.codeIn K cd15 "part_at" = true)
    (k15 : PySem.W.keepIn K (.ref f15) = true)
    (a16 : PySem.W.nsIn K mainGlobals "_law_places" = some (some (.ref f16)))
    (l16 : K.lookup f16 = some ⟨oc16, od16, .func (PySem.W.fnOf "_law_places" "_law_places" (defArgs sPlaces) (defBody sPlaces) (defScope sPlaces) .none kV16 dc16 pm16 an16 cd16 ct16), sl16⟩)
    (c16 : PySem.W.codeIn K cd16 "_law_places" = true)
    (k16 : PySem.W.keepIn K (.ref f16) = true)
    (a17 : PySem.W.nsIn K mainGlobals "is_path" = some (some (.ref f17)))
    (l17 : K.lookup f17 = some ⟨oc17, od17, .func (PySem.W.fnOf "is_path" "is_path" (defArgs sIsPath) (defBody sIsPath) (defScope sIsPath) .none kV17 dc17 pm17 an17 cd17 ct17), sl17⟩)
    (c17 : PySem.W.codeIn K cd17 "is_path" = true)
    (k17 : PySem.W.keepIn K (.ref f17) = true)
    (a18 : PySem.W.nsIn K mainGlobals "check_path" = some (some (.ref f18)))
    (l18 : K.lookup f18 = some ⟨oc18, od18, .func (PySem.W.fnOf "check_path" "check_path" (defArgs sChkPath) (defBody sChkPath) (defScope sChkPath) .none kV18 dc18 pm18 an18 cd18 ct18), sl18⟩)
    (c18 : PySem.W.codeIn K cd18 "check_path" = true)
    (k18 : PySem.W.keepIn K (.ref f18) = true)
    (a19 : PySem.W.nsIn K mainGlobals "check_place" = some (some (.ref f19)))
    (l19 : K.lookup f19 = some ⟨oc19, od19, .func (PySem.W.fnOf "check_place" "check_place" (defArgs sChkPl) (defBody sChkPl) (defScope sChkPl) .none kV19 dc19 pm19 an19 cd19 ct19), sl19⟩)
    (c19 : PySem.W.codeIn K cd19 "check_place" = true)
    (k19 : PySem.W.keepIn K (.ref f19) = true)
    (a20 : PySem.W.nsIn K mainGlobals "is_within" = some (some (.ref f20)))
    (l20 : K.lookup f20 = some ⟨oc20, od20, .func (PySem.W.fnOf "is_within" "is_within" (defArgs sWithin) (defBody sWithin) (defScope sWithin) .none kV20 dc20 pm20 an20 cd20 ct20), sl20⟩)
    (c20 : PySem.W.codeIn K cd20 "is_within" = true)
    (k20 : PySem.W.keepIn K (.ref f20) = true)
    (a21 : PySem.W.nsIn K mainGlobals "is_row_of_trees" = some (some (.ref f21)))
    (l21 : K.lookup f21 = some ⟨oc21, od21, .func (PySem.W.fnOf "is_row_of_trees" "is_row_of_trees" (defArgs sRowT) (defBody sRowT) (defScope sRowT) .none kV21 dc21 pm21 an21 cd21 ct21), sl21⟩)
    (c21 : PySem.W.codeIn K cd21 "is_row_of_trees" = true)
    (k21 : PySem.W.keepIn K (.ref f21) = true)
    (a22 : PySem.W.nsIn K mainGlobals "key_of" = some (some (.ref f22)))
    (l22 : K.lookup f22 = some ⟨oc22, od22, .func (PySem.W.fnOf "key_of" "key_of" (defArgs sKeyOf) (defBody sKeyOf) (defScope sKeyOf) .none kV22 dc22 pm22 an22 cd22 ct22), sl22⟩)
    (c22 : PySem.W.codeIn K cd22 "key_of" = true)
    (k22 : PySem.W.keepIn K (.ref f22) = true)
    (a23 : PySem.W.nsIn K mainGlobals "takes_with" = some (some (.ref f23)))
    (l23 : K.lookup f23 = some ⟨oc23, od23, .func (PySem.W.fnOf "takes_with" "takes_with" (defArgs sTakes) (defBody sTakes) (defScope sTakes) .none kV23 dc23 pm23 an23 cd23 ct23), sl23⟩)
    (c23 : PySem.W.codeIn K cd23 "takes_with" = true)
    (k23 : PySem.W.keepIn K (.ref f23) = true)
    (a24 : PySem.W.nsIn K mainGlobals "goes_on" = some (some (.ref f24)))
    (l24 : K.lookup f24 = some ⟨oc24, od24, .func (PySem.W.fnOf "goes_on" "goes_on" (defArgs sGoes) (defBody sGoes) (defScope sGoes) .none kV24 dc24 pm24 an24 cd24 ct24), sl24⟩)
    (c24 : PySem.W.codeIn K cd24 "goes_on" = true)
    (k24 : PySem.W.keepIn K (.ref f24) = true)
    (a25 : PySem.W.nsIn K mainGlobals "is_edit" = some (some (.ref f25)))
    (l25 : K.lookup f25 = some ⟨oc25, od25, .func (PySem.W.fnOf "is_edit" "is_edit" (defArgs sIsEdit) (defBody sIsEdit) (defScope sIsEdit) .none kV25 dc25 pm25 an25 cd25 ct25), sl25⟩)
    (c25 : PySem.W.codeIn K cd25 "is_edit" = true)
    (k25 : PySem.W.keepIn K (.ref f25) = true)
    (a26 : PySem.W.nsIn K mainGlobals "part_behind" = some (some (.ref f26)))
    (l26 : K.lookup f26 = some ⟨oc26, od26, .func (PySem.W.fnOf "part_behind" "part_behind" (defArgs sPartB) (defBody sPartB) (defScope sPartB) .none kV26 dc26 pm26 an26 cd26 ct26), sl26⟩)
    (c26 : PySem.W.codeIn K cd26 "part_behind" = true)
    (k26 : PySem.W.keepIn K (.ref f26) = true)
    (a27 : PySem.W.nsIn K mainGlobals "tree_behind" = some (some (.ref f27)))
    (l27 : K.lookup f27 = some ⟨oc27, od27, .func (PySem.W.fnOf "tree_behind" "tree_behind" (defArgs sTreeB) (defBody sTreeB) (defScope sTreeB) .none kV27 dc27 pm27 an27 cd27 ct27), sl27⟩)
    (c27 : PySem.W.codeIn K cd27 "tree_behind" = true)
    (k27 : PySem.W.keepIn K (.ref f27) = true)
    (a28 : PySem.W.nsIn K mainGlobals "many_ahead" = some (some (.ref f28)))
    (l28 : K.lookup f28 = some ⟨oc28, od28, .func (PySem.W.fnOf "many_ahead" "many_ahead" (defArgs sAhead) (defBody sAhead) (defScope sAhead) .none kV28 dc28 pm28 an28 cd28 ct28), sl28⟩)
    (c28 : PySem.W.codeIn K cd28 "many_ahead" = true)
    (k28 : PySem.W.keepIn K (.ref f28) = true)
    (a29 : PySem.W.nsIn K mainGlobals "path_behind" = some (some (.ref f29)))
    (l29 : K.lookup f29 = some ⟨oc29, od29, .func (PySem.W.fnOf "path_behind" "path_behind" (defArgs sPathB) (defBody sPathB) (defScope sPathB) .none kV29 dc29 pm29 an29 cd29 ct29), sl29⟩)
    (c29 : PySem.W.codeIn K cd29 "path_behind" = true)
    (k29 : PySem.W.keepIn K (.ref f29) = true)
    (a30 : PySem.W.nsIn K mainGlobals "first_wrong" = some (some (.ref f30)))
    (l30 : K.lookup f30 = some ⟨oc30, od30, .func (PySem.W.fnOf "first_wrong" "first_wrong" (defArgs sFirst) (defBody sFirst) (defScope sFirst) .none kV30 dc30 pm30 an30 cd30 ct30), sl30⟩)
    (c30 : PySem.W.codeIn K cd30 "first_wrong" = true)
    (k30 : PySem.W.keepIn K (.ref f30) = true)
    (a31 : PySem.W.nsIn K mainGlobals "check_side" = some (some (.ref f31)))
    (l31 : K.lookup f31 = some ⟨oc31, od31, .func (PySem.W.fnOf "check_side" "check_side" (defArgs sChkS) (defBody sChkS) (defScope sChkS) .none kV31 dc31 pm31 an31 cd31 ct31), sl31⟩)
    (c31 : PySem.W.codeIn K cd31 "check_side" = true)
    (k31 : PySem.W.keepIn K (.ref f31) = true)
    (a32 : PySem.W.nsIn K mainGlobals "led_by_side" = some (some (.ref f32)))
    (l32 : K.lookup f32 = some ⟨oc32, od32, .func (PySem.W.fnOf "led_by_side" "led_by_side" (defArgs sLed) (defBody sLed) (defScope sLed) .none kV32 dc32 pm32 an32 cd32 ct32), sl32⟩)
    (c32 : PySem.W.codeIn K cd32 "led_by_side" = true)
    (k32 : PySem.W.keepIn K (.ref f32) = true)
    (a33 : PySem.W.nsIn K mainGlobals "place_led" = some (some (.ref f33)))
    (l33 : K.lookup f33 = some ⟨oc33, od33, .func (PySem.W.fnOf "place_led" "place_led" (defArgs sPlaceL) (defBody sPlaceL) (defScope sPlaceL) .none kV33 dc33 pm33 an33 cd33 ct33), sl33⟩)
    (c33 : PySem.W.codeIn K cd33 "place_led" = true)
    (k33 : PySem.W.keepIn K (.ref f33) = true)
    (a34 : PySem.W.nsIn K mainGlobals "_law_part" = some (some (.ref f34)))
    (l34 : K.lookup f34 = some ⟨oc34, od34, .func (PySem.W.fnOf "_law_part" "_law_part" (defArgs sPart) (defBody sPart) (defScope sPart) .none kV34 dc34 pm34 an34 cd34 ct34), sl34⟩)
    (c34 : PySem.W.codeIn K cd34 "_law_part" = true)
    (k34 : PySem.W.keepIn K (.ref f34) = true)
    (a35 : PySem.W.nsIn K mainGlobals "_law_key" = some (some (.ref f35)))
    (l35 : K.lookup f35 = some ⟨oc35, od35, .func (PySem.W.fnOf "_law_key" "_law_key" (defArgs sKeyL) (defBody sKeyL) (defScope sKeyL) .none kV35 dc35 pm35 an35 cd35 ct35), sl35⟩)
    (c35 : PySem.W.codeIn K cd35 "_law_key" = true)
    (k35 : PySem.W.keepIn K (.ref f35) = true)
    (a36 : PySem.W.nsIn K mainGlobals "_law_begins" = some (some (.ref f36)))
    (l36 : K.lookup f36 = some ⟨oc36, od36, .func (PySem.W.fnOf "_law_begins" "_law_begins" (defArgs sBegins) (defBody sBegins) (defScope sBegins) .none kV36 dc36 pm36 an36 cd36 ct36), sl36⟩)
    (c36 : PySem.W.codeIn K cd36 "_law_begins" = true)
    (k36 : PySem.W.keepIn K (.ref f36) = true)
    (a37 : PySem.W.nsIn K mainGlobals "_law_disturbs" = some (some (.ref f37)))
    (l37 : K.lookup f37 = some ⟨oc37, od37, .func (PySem.W.fnOf "_law_disturbs" "_law_disturbs" (defArgs sDist) (defBody sDist) (defScope sDist) .none kV37 dc37 pm37 an37 cd37 ct37), sl37⟩)
    (c37 : PySem.W.codeIn K cd37 "_law_disturbs" = true)
    (k37 : PySem.W.keepIn K (.ref f37) = true)
    (a38 : PySem.W.nsIn K mainGlobals "_law_live" = some (some (.ref f38)))
    (l38 : K.lookup f38 = some ⟨oc38, od38, .func (PySem.W.fnOf "_law_live" "_law_live" (defArgs sLiveS) (defBody sLiveS) (defScope sLiveS) .none kV38 dc38 pm38 an38 cd38 ct38), sl38⟩)
    (c38 : PySem.W.codeIn K cd38 "_law_live" = true)
    (k38 : PySem.W.keepIn K (.ref f38) = true)
    (a39 : PySem.W.nsIn K mainGlobals "_law_still" = some (some (.ref f39)))
    (l39 : K.lookup f39 = some ⟨oc39, od39, .func (PySem.W.fnOf "_law_still" "_law_still" (defArgs sStillS) (defBody sStillS) (defScope sStillS) .none kV39 dc39 pm39 an39 cd39 ct39), sl39⟩)
    (c39 : PySem.W.codeIn K cd39 "_law_still" = true)
    (k39 : PySem.W.keepIn K (.ref f39) = true)
    (a40 : PySem.W.nsIn K mainGlobals "_law_without" = some (some (.ref f40)))
    (l40 : K.lookup f40 = some ⟨oc40, od40, .func (PySem.W.fnOf "_law_without" "_law_without" (defArgs sWoS) (defBody sWoS) (defScope sWoS) .none kV40 dc40 pm40 an40 cd40 ct40), sl40⟩)
    (c40 : PySem.W.codeIn K cd40 "_law_without" = true)
    (k40 : PySem.W.keepIn K (.ref f40) = true)
    (a41 : PySem.W.nsIn K mainGlobals "_law_where" = some (some (.ref f41)))
    (l41 : K.lookup f41 = some ⟨oc41, od41, .func (PySem.W.fnOf "_law_where" "_law_where" (defArgs sWhr) (defBody sWhr) (defScope sWhr) .none kV41 dc41 pm41 an41 cd41 ct41), sl41⟩)
    (c41 : PySem.W.codeIn K cd41 "_law_where" = true)
    (k41 : PySem.W.keepIn K (.ref f41) = true)
    (a42 : PySem.W.nsIn K mainGlobals "_law_side_done" = some (some (.ref f42)))
    (l42 : K.lookup f42 = some ⟨oc42, od42, .func (PySem.W.fnOf "_law_side_done" "_law_side_done" (defArgs sSideD) (defBody sSideD) (defScope sSideD) .none kV42 dc42 pm42 an42 cd42 ct42), sl42⟩)
    (c42 : PySem.W.codeIn K cd42 "_law_side_done" = true)
    (k42 : PySem.W.keepIn K (.ref f42) = true)
    (a43 : PySem.W.nsIn K mainGlobals "_law_edit" = some (some (.ref f43)))
    (l43 : K.lookup f43 = some ⟨oc43, od43, .func (PySem.W.fnOf "_law_edit" "_law_edit" (defArgs sEditL) (defBody sEditL) (defScope sEditL) .none kV43 dc43 pm43 an43 cd43 ct43), sl43⟩)
    (c43 : PySem.W.codeIn K cd43 "_law_edit" = true)
    (k43 : PySem.W.keepIn K (.ref f43) = true)
    (a44 : PySem.W.nsIn K mainGlobals "_law_side" = some (some (.ref f44)))
    (l44 : K.lookup f44 = some ⟨oc44, od44, .func (PySem.W.fnOf "_law_side" "_law_side" (defArgs sSideL) (defBody sSideL) (defScope sSideL) .none kV44 dc44 pm44 an44 cd44 ct44), sl44⟩)
    (c44 : PySem.W.codeIn K cd44 "_law_side" = true)
    (k44 : PySem.W.keepIn K (.ref f44) = true)
    (a45 : PySem.W.nsIn K mainGlobals "_law_refused" = some (some (.ref f45)))
    (l45 : K.lookup f45 = some ⟨oc45, od45, .func (PySem.W.fnOf "_law_refused" "_law_refused" (defArgs sRefS) (defBody sRefS) (defScope sRefS) .none kV45 dc45 pm45 an45 cd45 ct45), sl45⟩)
    (c45 : PySem.W.codeIn K cd45 "_law_refused" = true)
    (k45 : PySem.W.keepIn K (.ref f45) = true)
    (a46 : PySem.W.nsIn K mainGlobals "law" = some (some (.ref f46)))
    (l46 : K.lookup f46 = some ⟨oc46, od46, .func (PySem.W.fnOf "law" "law" (defArgs sLaw) (defBody sLaw) (defScope sLaw) .none kV46 dc46 pm46 an46 cd46 ct46), sl46⟩)
    (c46 : PySem.W.codeIn K cd46 "law" = true)
    (k46 : PySem.W.keepIn K (.ref f46) = true)
    (z1 : PySem.W.nsIn K mainGlobals "isinstance" = some none)
    (z2 : PySem.W.nsIn K mainGlobals "int" = some none)
    (z3 : PySem.W.nsIn K mainGlobals "bool" = some none)
    (z4 : PySem.W.nsIn K mainGlobals "str" = some none)
    (z5 : PySem.W.nsIn K mainGlobals "tuple" = some none)
    (z6 : PySem.W.nsIn K mainGlobals "list" = some none)
    (z7 : PySem.W.nsIn K mainGlobals "len" = some none)
    (z8 : PySem.W.nsIn K mainGlobals "all" = some none)
    (z9 : PySem.W.nsIn K mainGlobals "repr" = some none)
    (z10 : PySem.W.nsIn K mainGlobals "max" = some none)
    (z11 : PySem.W.nsIn K mainGlobals "range" = some none)
    (z12 : PySem.W.nsIn K mainGlobals "enumerate" = some none)
    (z13 : PySem.W.nsIn K mainGlobals "sum" = some none)
    (z14 : PySem.W.nsIn K mainGlobals "sorted" = some none)
    (z15 : PySem.W.nsIn K mainGlobals "any" = some none)
    (z16 : PySem.W.nsIn K mainGlobals "dict" = some none)
    (n1 : PySem.W.nsIn K mainGlobals "SIZE" = some (some (.int 60 t1)))
    (n2 : PySem.W.nsIn K mainGlobals "DEPTH" = some (some (.int 12 t2)))
    (n3 : PySem.W.nsIn K mainGlobals "SIGNS" = some (some (.int 8 t3)))
    (y_TreeError : PySem.W.nsIn K mainGlobals "TreeError" = some (some (.ref c_TreeError)))
    (y_NoThing : PySem.W.nsIn K mainGlobals "NoThing" = some (some (.ref c_NoThing)))
    (y_NoFit : PySem.W.nsIn K mainGlobals "NoFit" = some (some (.ref c_NoFit)))
    (y_NoTree : PySem.W.nsIn K mainGlobals "NoTree" = some (some (.ref c_NoTree)))
    (y_NoPath : PySem.W.nsIn K mainGlobals "NoPath" = some (some (.ref c_NoPath)))
    (y_NoSide : PySem.W.nsIn K mainGlobals "NoSide" = some (some (.ref c_NoSide)))
    (y_NoPlace : PySem.W.nsIn K mainGlobals "NoPlace" = some (some (.ref c_NoPlace)))
    (y_Edits : PySem.W.nsIn K mainGlobals "Edits" = some (some (.ref c_Edits)))
    (o1_TreeError : PySem.W.isClsIn K c_TreeError = true)
    (o2_TreeError : PySem.W.typeIn K (.ref c_TreeError) = some (.type "type"))
    (o1_NoThing : PySem.W.isClsIn K c_NoThing = true)
    (o2_NoThing : PySem.W.typeIn K (.ref c_NoThing) = some (.type "type"))
    (o1_NoFit : PySem.W.isClsIn K c_NoFit = true)
    (o2_NoFit : PySem.W.typeIn K (.ref c_NoFit) = some (.type "type"))
    (o1_NoTree : PySem.W.isClsIn K c_NoTree = true)
    (o2_NoTree : PySem.W.typeIn K (.ref c_NoTree) = some (.type "type"))
    (o1_NoPath : PySem.W.isClsIn K c_NoPath = true)
    (o2_NoPath : PySem.W.typeIn K (.ref c_NoPath) = some (.type "type"))
    (o1_NoSide : PySem.W.isClsIn K c_NoSide = true)
    (o2_NoSide : PySem.W.typeIn K (.ref c_NoSide) = some (.type "type"))
    (o1_NoPlace : PySem.W.isClsIn K c_NoPlace = true)
    (o2_NoPlace : PySem.W.typeIn K (.ref c_NoPlace) = some (.type "type"))
    (o1_Edits : PySem.W.isClsIn K c_Edits = true)
    (o2_Edits : PySem.W.typeIn K (.ref c_Edits) = some (.type "type"))
    (b1_NoPath : PySem.W.subIn K (.ref c_NoPath) (.type "BaseException") = some true)
    (b2_NoPath : PySem.W.hasDictIn K c_NoPath = true)
    (b1_NoPlace : PySem.W.subIn K (.ref c_NoPlace) (.type "BaseException") = some true)
    (b2_NoPlace : PySem.W.hasDictIn K c_NoPlace = true)
    (hnG : PySem.W.specialIn K (.builtin "object.__class__") "__get__" = some (some (.builtin "getset_descriptor.__get__")))
    (htG : PySem.W.takesIn K (.builtin "object.__class__") = some true)
    (w_NoTreeg : PySem.W.findIn K (.ref c_NoTree) "__getattribute__" = some (some (.builtin "BaseException.__getattribute__")))
    (w_NoTreek : PySem.W.findIn K (.ref c_NoTree) "__getattr__" = some none)
    (w_NoTrees : PySem.W.subIn K (.ref c_NoTree) (.type "BaseException") = some true)
    (w_NoTreed : PySem.W.hasDictIn K c_NoTree = true)
    (w_NoTreea : PySem.W.findIn K (.ref c_NoTree) "__class__" = some (some (.builtin "object.__class__")))
    (w_NoTreem : PySem.W.mroIn K c_NoTree (.type "object") = some true)
    (w_NoTreev : PySem.W.subIn K (.ref c_NoTree) (.type "ValueError") = some true)
    (w_NoTree_TreeError : PySem.W.subIn K (.ref c_NoTree) (.ref c_TreeError) = some true)
    (w_NoTree_NoThing : PySem.W.subIn K (.ref c_NoTree) (.ref c_NoThing) = some true)
    (w_NoTree_NoFit : PySem.W.subIn K (.ref c_NoTree) (.ref c_NoFit) = some false)
    (w_NoTree_NoTree : PySem.W.subIn K (.ref c_NoTree) (.ref c_NoTree) = some true)
    (w_NoTree_NoPath : PySem.W.subIn K (.ref c_NoTree) (.ref c_NoPath) = some false)
    (w_NoTree_NoSide : PySem.W.subIn K (.ref c_NoTree) (.ref c_NoSide) = some false)
    (w_NoTree_NoPlace : PySem.W.subIn K (.ref c_NoTree) (.ref c_NoPlace) = some false)
    (w_NoTree_Edits : PySem.W.subIn K (.ref c_NoTree) (.ref c_Edits) = some false)
    (x1_NoTree : PySem.W.excIn K c_NoTree [.type "ValueError", .type "Exception", .type "BaseException", .type "object"] "ValueError.__new__" = true)
    (x2_NoTree : PySem.W.keepIn K (.ref c_NoTree) = true)
    (w_NoSideg : PySem.W.findIn K (.ref c_NoSide) "__getattribute__" = some (some (.builtin "BaseException.__getattribute__")))
    (w_NoSidek : PySem.W.findIn K (.ref c_NoSide) "__getattr__" = some none)
    (w_NoSides : PySem.W.subIn K (.ref c_NoSide) (.type "BaseException") = some true)
    (w_NoSided : PySem.W.hasDictIn K c_NoSide = true)
    (w_NoSidea : PySem.W.findIn K (.ref c_NoSide) "__class__" = some (some (.builtin "object.__class__")))
    (w_NoSidem : PySem.W.mroIn K c_NoSide (.type "object") = some true)
    (w_NoSidev : PySem.W.subIn K (.ref c_NoSide) (.type "ValueError") = some true)
    (w_NoSide_TreeError : PySem.W.subIn K (.ref c_NoSide) (.ref c_TreeError) = some true)
    (w_NoSide_NoThing : PySem.W.subIn K (.ref c_NoSide) (.ref c_NoThing) = some true)
    (w_NoSide_NoFit : PySem.W.subIn K (.ref c_NoSide) (.ref c_NoFit) = some false)
    (w_NoSide_NoTree : PySem.W.subIn K (.ref c_NoSide) (.ref c_NoTree) = some false)
    (w_NoSide_NoPath : PySem.W.subIn K (.ref c_NoSide) (.ref c_NoPath) = some false)
    (w_NoSide_NoSide : PySem.W.subIn K (.ref c_NoSide) (.ref c_NoSide) = some true)
    (w_NoSide_NoPlace : PySem.W.subIn K (.ref c_NoSide) (.ref c_NoPlace) = some false)
    (w_NoSide_Edits : PySem.W.subIn K (.ref c_NoSide) (.ref c_Edits) = some false)
    (xl1_NoSide : K.lookup c_NoSide = some (excClassObj nm_NoSide q_NoSide c_NoSide N_NoSide bs_NoSide bm_NoSide true sn_NoSide sub_NoSide ab_NoSide col_NoSide dd_NoSide g0_NoSide g1_NoSide g2_NoSide g3_NoSide g5_NoSide "ValueError.__new__"))
    (xl2_NoSide : PySem.HandSPX.refsVE bm_NoSide = true)
    (xl3_NoSide : PySem.W.findIn K (.ref c_NoSide) "__setattr__" = some (some (.builtin "object.__setattr__")))
    (xl4_NoSide : PySem.W.keepIn K (.ref c_NoSide) = true)
    (xl5_NoSide : PySem.W.findIn K (.ref c_NoSide) "__init__" = some (some (.ref fI_NoSide)))
    (xl6_NoSide : PySem.W.typeIn K (.ref fI_NoSide) = some (.type "function"))
    (xl7_NoSide : PySem.W.findIn K (.ref c_NoSide) "at" = some none)
    (lI_NoSide : K.lookup fI_NoSide = some ⟨ocI_NoSide, odI_NoSide, .func (PySem.W.fnOf "__init__" "NoSide.__init__" (defArgs sI_NoSide) (defBody sI_NoSide) (defScope sI_NoSide) .none kVI_NoSide dcI_NoSide pmI_NoSide anI_NoSide cdI_NoSide ctI_NoSide), slI_NoSide⟩)
    (cI_NoSide : PySem.W.codeIn K cdI_NoSide "NoSide.__init__" = true)
    (kI_NoSide : PySem.W.keepIn K (.ref fI_NoSide) = true)
    (w_NoPathg : PySem.W.findIn K (.ref c_NoPath) "__getattribute__" = some (some (.builtin "BaseException.__getattribute__")))
    (w_NoPathk : PySem.W.findIn K (.ref c_NoPath) "__getattr__" = some none)
    (w_NoPaths : PySem.W.subIn K (.ref c_NoPath) (.type "BaseException") = some true)
    (w_NoPathd : PySem.W.hasDictIn K c_NoPath = true)
    (w_NoPatha : PySem.W.findIn K (.ref c_NoPath) "__class__" = some (some (.builtin "object.__class__")))
    (w_NoPathm : PySem.W.mroIn K c_NoPath (.type "object") = some true)
    (w_NoPathv : PySem.W.subIn K (.ref c_NoPath) (.type "ValueError") = some true)
    (w_NoPath_TreeError : PySem.W.subIn K (.ref c_NoPath) (.ref c_TreeError) = some true)
    (w_NoPath_NoThing : PySem.W.subIn K (.ref c_NoPath) (.ref c_NoThing) = some true)
    (w_NoPath_NoFit : PySem.W.subIn K (.ref c_NoPath) (.ref c_NoFit) = some false)
    (w_NoPath_NoTree : PySem.W.subIn K (.ref c_NoPath) (.ref c_NoTree) = some false)
    (w_NoPath_NoPath : PySem.W.subIn K (.ref c_NoPath) (.ref c_NoPath) = some true)
    (w_NoPath_NoSide : PySem.W.subIn K (.ref c_NoPath) (.ref c_NoSide) = some false)
    (w_NoPath_NoPlace : PySem.W.subIn K (.ref c_NoPath) (.ref c_NoPlace) = some false)
    (w_NoPath_Edits : PySem.W.subIn K (.ref c_NoPath) (.ref c_Edits) = some false)
    (x1_NoPath : PySem.W.excIn K c_NoPath [.type "ValueError", .type "Exception", .type "BaseException", .type "object"] "ValueError.__new__" = true)
    (x2_NoPath : PySem.W.keepIn K (.ref c_NoPath) = true)
    (w_NoPlaceg : PySem.W.findIn K (.ref c_NoPlace) "__getattribute__" = some (some (.builtin "BaseException.__getattribute__")))
    (w_NoPlacek : PySem.W.findIn K (.ref c_NoPlace) "__getattr__" = some none)
    (w_NoPlaces : PySem.W.subIn K (.ref c_NoPlace) (.type "BaseException") = some true)
    (w_NoPlaced : PySem.W.hasDictIn K c_NoPlace = true)
    (w_NoPlacea : PySem.W.findIn K (.ref c_NoPlace) "__class__" = some (some (.builtin "object.__class__")))
    (w_NoPlacem : PySem.W.mroIn K c_NoPlace (.type "object") = some true)
    (w_NoPlacev : PySem.W.subIn K (.ref c_NoPlace) (.type "ValueError") = some true)
    (w_NoPlace_TreeError : PySem.W.subIn K (.ref c_NoPlace) (.ref c_TreeError) = some true)
    (w_NoPlace_NoThing : PySem.W.subIn K (.ref c_NoPlace) (.ref c_NoThing) = some false)
    (w_NoPlace_NoFit : PySem.W.subIn K (.ref c_NoPlace) (.ref c_NoFit) = some true)
    (w_NoPlace_NoTree : PySem.W.subIn K (.ref c_NoPlace) (.ref c_NoTree) = some false)
    (w_NoPlace_NoPath : PySem.W.subIn K (.ref c_NoPlace) (.ref c_NoPath) = some false)
    (w_NoPlace_NoSide : PySem.W.subIn K (.ref c_NoPlace) (.ref c_NoSide) = some false)
    (w_NoPlace_NoPlace : PySem.W.subIn K (.ref c_NoPlace) (.ref c_NoPlace) = some true)
    (w_NoPlace_Edits : PySem.W.subIn K (.ref c_NoPlace) (.ref c_Edits) = some false)
    (xl1_NoPlace : K.lookup c_NoPlace = some (excClassObj nm_NoPlace q_NoPlace c_NoPlace N_NoPlace bs_NoPlace bm_NoPlace true sn_NoPlace sub_NoPlace ab_NoPlace col_NoPlace dd_NoPlace g0_NoPlace g1_NoPlace g2_NoPlace g3_NoPlace g5_NoPlace "ValueError.__new__"))
    (xl2_NoPlace : PySem.HandSPX.refsVE bm_NoPlace = true)
    (xl3_NoPlace : PySem.W.findIn K (.ref c_NoPlace) "__setattr__" = some (some (.builtin "object.__setattr__")))
    (xl4_NoPlace : PySem.W.keepIn K (.ref c_NoPlace) = true)
    (xl5_NoPlace : PySem.W.findIn K (.ref c_NoPlace) "__init__" = some (some (.ref fI_NoPlace)))
    (xl6_NoPlace : PySem.W.typeIn K (.ref fI_NoPlace) = some (.type "function"))
    (xl7_NoPlace : PySem.W.findIn K (.ref c_NoPlace) "path" = some none)
    (lI_NoPlace : K.lookup fI_NoPlace = some ⟨ocI_NoPlace, odI_NoPlace, .func (PySem.W.fnOf "__init__" "NoPlace.__init__" (defArgs sI_NoPlace) (defBody sI_NoPlace) (defScope sI_NoPlace) .none kVI_NoPlace dcI_NoPlace pmI_NoPlace anI_NoPlace cdI_NoPlace ctI_NoPlace), slI_NoPlace⟩)
    (cI_NoPlace : PySem.W.codeIn K cdI_NoPlace "NoPlace.__init__" = true)
    (kI_NoPlace : PySem.W.keepIn K (.ref fI_NoPlace) = true)
    (g1_Edits : PySem.W.plainGet K c_Edits Str.empty = true)
    (g2_Edits : PySem.W.hasDictIn K c_Edits = true)
    (g3_Edits : PySem.W.plainOver K c_Edits = true)
    (g4_Edits : PySem.W.findIn K (.ref c_Edits) "__setattr__" = some (some (.builtin "object.__setattr__")))
    (g5_Edits : PySem.W.makesIn K c_Edits = true)
    (g6_Edits : PySem.W.keepIn K (.ref c_Edits) = true)
    (na_Edits_new_tags : PySem.W.findIn K (.ref c_Edits) "new_tags" = some none)
    (na_Edits_outs : PySem.W.findIn K (.ref c_Edits) "outs" = some none)
    (na_Edits_puts : PySem.W.findIn K (.ref c_Edits) "puts" = some none)
    (q1_Edits_init : PySem.W.findIn K (.ref c_Edits) "__init__" = some (some (.ref fM_Edits_init)))
    (q2_Edits_init : PySem.W.isFn K (.ref fM_Edits_init) = true)
    (q3_Edits_init : PySem.W.keepIn K (.ref fM_Edits_init) = true)
    (q4_Edits_init : K.lookup fM_Edits_init = some ⟨ocM_Edits_init, odM_Edits_init, .func (PySem.W.fnOf "__init__" "Edits.__init__" (defArgs sEdIn) (defBody sEdIn) (defScope sEdIn) .none kVM_Edits_init dcM_Edits_init pmM_Edits_init anM_Edits_init cdM_Edits_init ctM_Edits_init), slM_Edits_init⟩)
    (q5_Edits_init : PySem.W.codeIn K cdM_Edits_init "Edits.__init__" = true)
    (q1_Edits_trees_at : PySem.W.findIn K (.ref c_Edits) "trees_at" = some (some (.ref fM_Edits_trees_at)))
    (q2_Edits_trees_at : PySem.W.isFn K (.ref fM_Edits_trees_at) = true)
    (q3_Edits_trees_at : PySem.W.keepIn K (.ref fM_Edits_trees_at) = true)
    (q4_Edits_trees_at : K.lookup fM_Edits_trees_at = some ⟨ocM_Edits_trees_at, odM_Edits_trees_at, .func (PySem.W.fnOf "trees_at" "Edits.trees_at" (defArgs sTreesAt) (defBody sTreesAt) (defScope sTreesAt) .none kVM_Edits_trees_at dcM_Edits_trees_at pmM_Edits_trees_at anM_Edits_trees_at cdM_Edits_trees_at ctM_Edits_trees_at), slM_Edits_trees_at⟩)
    (q5_Edits_trees_at : PySem.W.codeIn K cdM_Edits_trees_at "Edits.trees_at" = true)
    {s₁ : Shared} {base : Heap} {H : Hp} {a : Addr} {ns : List Int} (hlen : ns.length ≤ 63) (hS : SqL K H a (ns.map V.int)) (e0 : Env0 P w K mg base callerA [] s₁ H) :
    codeAny (model P w) callerA (.call (.ref fa) ⟨[.ref a], []⟩) (CR CX0 [] P w H s₁ (fun v _ => v = V.bl true) fun _ _ _ => False) s₁ := by
  have T : Bl mg := ⟨PySem.W.mg_none_of X G z1, PySem.W.mg_none_of X G z2, PySem.W.mg_none_of X G z3, PySem.W.mg_none_of X G z4, PySem.W.mg_none_of X G z5, PySem.W.mg_none_of X G z6, PySem.W.mg_none_of X G z7, PySem.W.mg_none_of X G z8, PySem.W.mg_none_of X G z9, PySem.W.mg_none_of X G z10, PySem.W.mg_none_of X G z11, PySem.W.mg_none_of X G z12⟩
  have cSIZE : ∃ t, mg "SIZE" = some (.int 60 t) := ⟨_, PySem.W.mg_of X G n1⟩
  have cDEPTH : ∃ t, mg "DEPTH" = some (.int 12 t) := ⟨_, PySem.W.mg_of X G n2⟩
  have cSIGNS : ∃ t, mg "SIGNS" = some (.int 8 t) := ⟨_, PySem.W.mg_of X G n3⟩
  have z_sum : mg "sum" = none := PySem.W.mg_none_of X G z13
  have z_sorted : mg "sorted" = none := PySem.W.mg_none_of X G z14
  have z_any : mg "any" = none := PySem.W.mg_none_of X G z15
  have z_dict : mg "dict" = none := PySem.W.mg_none_of X G z16
  have cl_Edits : L2.Cls K c_Edits := ⟨g1_Edits, g2_Edits, g3_Edits, g4_Edits⟩
  have fn_Edits_init := fun_mk (st := sEdIn) q4_Edits_init q5_Edits_init q3_Edits_init
  have me_Edits_init : L2.Meth K c_Edits "__init__" fM_Edits_init := ⟨q1_Edits_init, q2_Edits_init, q3_Edits_init⟩
  have fn_Edits_trees_at := fun_mk (st := sTreesAt) q4_Edits_trees_at q5_Edits_trees_at q3_Edits_trees_at
  have me_Edits_trees_at : L2.Meth K c_Edits "trees_at" fM_Edits_trees_at := ⟨q1_Edits_trees_at, q2_Edits_trees_at, q3_Edits_trees_at⟩
  have mk_Edits : L2.Mk K c_Edits fM_Edits_init := ⟨g5_Edits, q1_Edits_init, q2_Edits_init, g6_Edits⟩
  let A : Cls K mg := ⟨c_TreeError, c_NoThing, c_NoFit, c_NoTree, c_NoPath, c_NoSide, c_NoPlace, c_Edits, PySem.W.mg_of X G y_TreeError, PySem.W.mg_of X G y_NoThing, PySem.W.mg_of X G y_NoFit, PySem.W.mg_of X G y_NoTree, PySem.W.mg_of X G y_NoPath, PySem.W.mg_of X G y_NoSide, PySem.W.mg_of X G y_NoPlace, PySem.W.mg_of X G y_Edits, ⟨PySem.W.mg_of X G y_NoTree, x1_NoTree, x2_NoTree, w_NoTrees, o2_NoTree⟩, ⟨w_NoTreeg, w_NoTreek, w_NoTrees, w_NoTreed, w_NoTreea, hnG, htG, w_NoTreem⟩, kit_ve w_NoTreev, kit_sub o1_TreeError o2_TreeError w_NoTree_TreeError, kit_sub o1_NoThing o2_NoThing w_NoTree_NoThing, kit_no o1_NoFit o2_NoFit w_NoTree_NoTree w_NoTree_NoFit, kit_sub o1_NoTree o2_NoTree w_NoTree_NoTree, kit_no o1_NoPath o2_NoPath w_NoTree_NoTree w_NoTree_NoPath, kit_no o1_NoSide o2_NoSide w_NoTree_NoTree w_NoTree_NoSide, kit_no o1_NoPlace o2_NoPlace w_NoTree_NoTree w_NoTree_NoPlace, kit_no o1_Edits o2_Edits w_NoTree_NoTree w_NoTree_Edits, PySem.W.exm_ref b1_NoPath b2_NoPath o2_NoPath w_NoTree_NoPath, PySem.W.exm_ref b1_NoPlace b2_NoPlace o2_NoPlace w_NoTree_NoPlace, ⟨⟨⟨_, _, _, _, _, _, _, _, _, _, _, _, _, _, _, xl1_NoSide, xl2_NoSide⟩, xl3_NoSide, w_NoSides, o2_NoSide, xl4_NoSide⟩, PySem.W.mg_of X G y_NoSide, xl7_NoSide, _, _, xl5_NoSide, xl6_NoSide, fun_mk (st := sI_NoSide) lI_NoSide cI_NoSide kI_NoSide⟩, ⟨w_NoSideg, w_NoSidek, w_NoSides, w_NoSided, w_NoSidea, hnG, htG, w_NoSidem⟩, kit_ve w_NoSidev, kit_sub o1_TreeError o2_TreeError w_NoSide_TreeError, kit_sub o1_NoThing o2_NoThing w_NoSide_NoThing, kit_no o1_NoFit o2_NoFit w_NoSide_NoSide w_NoSide_NoFit, kit_no o1_NoTree o2_NoTree w_NoSide_NoSide w_NoSide_NoTree, kit_no o1_NoPath o2_NoPath w_NoSide_NoSide w_NoSide_NoPath, kit_sub o1_NoSide o2_NoSide w_NoSide_NoSide, kit_no o1_NoPlace o2_NoPlace w_NoSide_NoSide w_NoSide_NoPlace, kit_no o1_Edits o2_Edits w_NoSide_NoSide w_NoSide_Edits, PySem.W.exm_ref b1_NoPath b2_NoPath o2_NoPath w_NoSide_NoPath, PySem.W.exm_ref b1_NoPlace b2_NoPlace o2_NoPlace w_NoSide_NoPlace, ⟨PySem.W.mg_of X G y_NoPath, x1_NoPath, x2_NoPath, w_NoPaths, o2_NoPath⟩, ⟨w_NoPathg, w_NoPathk, w_NoPaths, w_NoPathd, w_NoPatha, hnG, htG, w_NoPathm⟩, kit_ve w_NoPathv, kit_sub o1_TreeError o2_TreeError w_NoPath_TreeError, kit_sub o1_NoThing o2_NoThing w_NoPath_NoThing, kit_no o1_NoFit o2_NoFit w_NoPath_NoPath w_NoPath_NoFit, kit_no o1_NoTree o2_NoTree w_NoPath_NoPath w_NoPath_NoTree, kit_sub o1_NoPath o2_NoPath w_NoPath_NoPath, kit_no o1_NoSide o2_NoSide w_NoPath_NoPath w_NoPath_NoSide, kit_no o1_NoPlace o2_NoPlace w_NoPath_NoPath w_NoPath_NoPlace, kit_no o1_Edits o2_Edits w_NoPath_NoPath w_NoPath_Edits, PySem.W.exm_ref b1_NoPath b2_NoPath o2_NoPath w_NoPath_NoPath, PySem.W.exm_ref b1_NoPlace b2_NoPlace o2_NoPlace w_NoPath_NoPlace, ⟨⟨⟨_, _, _, _, _, _, _, _, _, _, _, _, _, _, _, xl1_NoPlace, xl2_NoPlace⟩, xl3_NoPlace, w_NoPlaces, o2_NoPlace, xl4_NoPlace⟩, PySem.W.mg_of X G y_NoPlace, xl7_NoPlace, _, _, xl5_NoPlace, xl6_NoPlace, fun_mk (st := sI_NoPlace) lI_NoPlace cI_NoPlace kI_NoPlace⟩, ⟨w_NoPlaceg, w_NoPlacek, w_NoPlaces, w_NoPlaced, w_NoPlacea, hnG, htG, w_NoPlacem⟩, kit_ve w_NoPlacev, kit_sub o1_TreeError o2_TreeError w_NoPlace_TreeError, kit_no o1_NoThing o2_NoThing w_NoPlace_NoPlace w_NoPlace_NoThing, kit_sub o1_NoFit o2_NoFit w_NoPlace_NoFit, kit_no o1_NoTree o2_NoTree w_NoPlace_NoPlace w_NoPlace_NoTree, kit_no o1_NoPath o2_NoPath w_NoPlace_NoPlace w_NoPlace_NoPath, kit_no o1_NoSide o2_NoSide w_NoPlace_NoPlace w_NoPlace_NoSide, kit_sub o1_NoPlace o2_NoPlace w_NoPlace_NoPlace, kit_no o1_Edits o2_Edits w_NoPlace_NoPlace w_NoPlace_Edits, PySem.W.exm_ref b1_NoPath b2_NoPath o2_NoPath w_NoPlace_NoPath, PySem.W.exm_ref b1_NoPlace b2_NoPlace o2_NoPlace w_NoPlace_NoPlace⟩
  have C : Cs mg := ⟨cSIZE, cDEPTH, cSIGNS⟩
  have R : EdW K A.c_Edits := ⟨⟨cl_Edits, na_Edits_new_tags, na_Edits_outs, na_Edits_puts⟩, _, _, fn_Edits_init, mk_Edits, _, _, fn_Edits_trees_at, me_Edits_trees_at⟩
  have D : Nonempty (Defs K mg) := ⟨⟨at_mk X G a1 l1 c1 k1, at_mk X G a2 l2 c2 k2, at_mk X G a3 l3 c3 k3, at_mk X G a4 l4 c4 k4, at_mk X G a5 l5 c5 k5, at_mk X G a6 l6 c6 k6, at_mk X G a7 l7 c7 k7, at_mk X G a8 l8 c8 k8, at_mk X G a9 l9 c9 k9, at_mk X G a10 l10 c10 k10, at_mk X G a11 l11 c11 k11, at_mk X G a12 l12 c12 k12, at_mk X G a13 l13 c13 k13, at_mk X G a14 l14 c14 k14, at_mk X G a15 l15 c15 k15, at_mk X G a16 l16 c16 k16, at_mk X G a17 l17 c17 k17, at_mk X G a18 l18 c18 k18, at_mk X G a19 l19 c19 k19, at_mk X G a20 l20 c20 k20, at_mk X G a21 l21 c21 k21, at_mk X G a22 l22 c22 k22, at_mk X G a23 l23 c23 k23, at_mk X G a24 l24 c24 k24, at_mk X G a25 l25 c25 k25, at_mk X G a26 l26 c26 k26, at_mk X G a27 l27 c27 k27, at_mk X G a28 l28 c28 k28, at_mk X G a29 l29 c29 k29, at_mk X G a30 l30 c30 k30, at_mk X G a31 l31 c31 k31, at_mk X G a32 l32 c32 k32, at_mk X G a33 l33 c33 k33, at_mk X G a34 l34 c34 k34, at_mk X G a35 l35 c35 k35, at_mk X G a36 l36 c36 k36, at_mk X G a37 l37 c37 k37, at_mk X G a38 l38 c38 k38, at_mk X G a39 l39 c39 k39, at_mk X G a40 l40 c40 k40, at_mk X G a41 l41 c41 k41, at_mk X G a42 l42 c42 k42, at_mk X G a43 l43 c43 k43, at_mk X G a44 l44 c44 k44, at_mk X G a45 l45 c45 k45, at_mk X G a46 l46 c46 k46⟩⟩
  obtain ⟨D⟩ := D
  have e : D.d_law.f = fa := by
    have := hfa.symm.trans D.d_law.m
    cases this
    rfl
  rw [← e]
  exact ok_law D.d_law.F T (calls D T A R C z_sum z_sorted z_any base) z_dict hlen hS e0
end Tl
open PySem PySem.W PyProof.Rows
set_option Elab.async false
set_option maxRecDepth 100000 in
set_option maxHeartbeats 0 in
theorem PySem.Challenge.cw_treelore_k50_sides_done_holds : PySem.Challenge.rw_treelore_k50_sides_done.Holds := by
  refine tl_head ?_
  k_fill
  refine Tl.walk_at_top (l := PySem.Challenge.rw_treelore_k50_sides_done) (n := 63) rfl (by decide) rfl (fun w h Y => PySem.W.kIn_of Y) ?F
  case F =>
    intro w mg fa h KX G hmg s₁ base H a ns hlen hKb hNb hS e0
    refine' Tl.all_mk KX G hmg ?a1 ?l1 ?c1 ?k1 ?a2 ?l2 ?c2 ?k2 ?a3 ?l3 ?c3 ?k3 ?a4 ?l4 ?c4 ?k4 ?a5 ?l5 ?c5 ?k5 ?a6 ?l6 ?c6 ?k6 ?a7 ?l7 ?c7 ?k7 ?a8 ?l8 ?c8 ?k8 ?a9 ?l9 ?c9 ?k9 ?a10 ?l10 ?c10 ?k10 ?a11 ?l11 ?c11 ?k11 ?a12 ?l12 ?c12 ?k12 ?a13 ?l13 ?c13 ?k13 ?a14 ?l14 ?c14 ?k14 ?a15 ?l15 ?c15 ?k15 ?a16 ?l16 ?c16 ?k16 ?a17 ?l17 ?c17 ?k17 ?a18 ?l18 ?c18 ?k18 ?a19 ?l19 ?c19 ?k19 ?a20 ?l20 ?c20 ?k20 ?a21 ?l21 ?c21 ?k21 ?a22 ?l22 ?c22 ?k22 ?a23 ?l23 ?c23 ?k23 ?a24 ?l24 ?c24 ?k24 ?a25 ?l25 ?c25 ?k25 ?a26 ?l26 ?c26 ?k26 ?a27 ?l27 ?c27 ?k27 ?a28 ?l28 ?c28 ?k28 ?a29 ?l29 ?c29 ?k29 ?a30 ?l30 ?c30 ?k30 ?a31 ?l31 ?c31 ?k31 ?a32 ?l32 ?c32 ?k32 ?a33 ?l33 ?c33 ?k33 ?a34 ?l34 ?c34 ?k34 ?a35 ?l35 ?c35 ?k35 ?a36 ?l36 ?c36 ?k36 ?a37 ?l37 ?c37 ?k37 ?a38 ?l38 ?c38 ?k38 ?a39 ?l39 ?c39 ?k39 ?a40 ?l40 ?c40 ?k40 ?a41 ?l41 ?c41 ?k41 ?a42 ?l42 ?c42 ?k42 ?a43 ?l43 ?c43 ?k43 ?a44 ?l44 ?c44 ?k44 ?a45 ?l45 ?c45 ?k45 ?a46 ?l46 ?c46 ?k46 ?z1 ?z2 ?z3 ?z4 ?z5 ?z6 ?z7 ?z8 ?z9 ?z10 ?z11 ?z12 ?z13 ?z14 ?z15 ?z16 ?n1 ?n2 ?n3 ?y_TreeError ?y_NoThing ?y_NoFit ?y_NoTree ?y_NoPath ?y_NoSide ?y_NoPlace ?y_Edits ?o1_TreeError ?o2_TreeError ?o1_NoThing ?o2_NoThing ?o1_NoFit ?o2_NoFit ?o1_NoTree ?o2_NoTree ?o1_NoPath ?o2_NoPath ?o1_NoSide ?o2_NoSide ?o1_NoPlace ?o2_NoPlace ?o1_Edits ?o2_Edits ?b1_NoPath ?b2_NoPath ?b1_NoPlace ?b2_NoPlace ?hnG ?htG ?w_NoTreeg ?w_NoTreek ?w_NoTrees ?w_NoTreed ?w_NoTreea ?w_NoTreem ?w_NoTreev ?w_NoTree_TreeError ?w_NoTree_NoThing ?w_NoTree_NoFit ?w_NoTree_NoTree ?w_NoTree_NoPath ?w_NoTree_NoSide ?w_NoTree_NoPlace ?w_NoTree_Edits ?x1_NoTree ?x2_NoTree ?w_NoSideg ?w_NoSidek ?w_NoSides ?w_NoSided ?w_NoSidea ?w_NoSidem ?w_NoSidev ?w_NoSide_TreeError ?w_NoSide_NoThing ?w_NoSide_NoFit ?w_NoSide_NoTree ?w_NoSide_NoPath ?w_NoSide_NoSide ?w_NoSide_NoPlace ?w_NoSide_Edits ?xl1_NoSide ?xl2_NoSide ?xl3_NoSide ?xl4_NoSide ?xl5_NoSide ?xl6_NoSide ?xl7_NoSide ?lI_NoSide ?cI_NoSide ?kI_NoSide ?w_NoPathg ?w_NoPathk ?w_NoPaths ?w_NoPathd ?w_NoPatha ?w_NoPathm ?w_NoPathv ?w_NoPath_TreeError ?w_NoPath_NoThing ?w_NoPath_NoFit ?w_NoPath_NoTree ?w_NoPath_NoPath ?w_NoPath_NoSide ?w_NoPath_NoPlace ?w_NoPath_Edits ?x1_NoPath ?x2_NoPath ?w_NoPlaceg ?w_NoPlacek ?w_NoPlaces ?w_NoPlaced ?w_NoPlacea ?w_NoPlacem ?w_NoPlacev ?w_NoPlace_TreeError ?w_NoPlace_NoThing ?w_NoPlace_NoFit ?w_NoPlace_NoTree ?w_NoPlace_NoPath ?w_NoPlace_NoSide ?w_NoPlace_NoPlace ?w_NoPlace_Edits ?xl1_NoPlace ?xl2_NoPlace ?xl3_NoPlace ?xl4_NoPlace ?xl5_NoPlace ?xl6_NoPlace ?xl7_NoPlace ?lI_NoPlace ?cI_NoPlace ?kI_NoPlace ?g1_Edits ?g2_Edits ?g3_Edits ?g4_Edits ?g5_Edits ?g6_Edits ?na_Edits_new_tags ?na_Edits_outs ?na_Edits_puts ?q1_Edits_init ?q2_Edits_init ?q3_Edits_init ?q4_Edits_init ?q5_Edits_init ?q1_Edits_trees_at ?q2_Edits_trees_at ?q3_Edits_trees_at ?q4_Edits_trees_at ?q5_Edits_trees_at hlen hS e0
    (case a1 => k_is)
    (case l1 => k_is)
    (case c1 => k_is)
    (case k1 => k_is)
    (case a2 => k_is)
    (case l2 => k_is)
    (case c2 => k_is)
    (case k2 => k_is)
    (case a3 => k_is)
    (case l3 => k_is)
    (case c3 => k_is)
    (case k3 => k_is)
    (case a4 => k_is)
    (case l4 => k_is)
    (case c4 => k_is)
    (case k4 => k_is)
    (case a5 => k_is)
    (case l5 => k_is)
    (case c5 => k_is)
    (case k5 => k_is)
    (case a6 => k_is)
    (case l6 => k_is)
    (case c6 => k_is)
    (case k6 => k_is)
    (case a7 => k_is)
    (case l7 => k_is)
    (case c7 => k_is)
    (case k7 => k_is)
    (case a8 => k_is)
    (case l8 => k_is)
    (case c8 => k_is)
    (case k8 => k_is)
    (case a9 => k_is)
    (case l9 => k_is)
    (case c9 => k_is)
    (case k9 => k_is)
    (case a10 => k_is)
    (case l10 => k_is)
    (case c10 => k_is)
    (case k10 => k_is)
    (case a11 => k_is)
    (case l11 => k_is)
    (case c11 => k_is)
    (case k11 => k_is)
    (case a12 => k_is)
    (case l12 => k_is)
    (case c12 => k_is)
    (case k12 => k_is)
    (case a13 => k_is)
    (case l13 => k_is)
    (case c13 => k_is)
    (case k13 => k_is)
    (case a14 => k_is)
    (case l14 => k_is)
    (case c14 => k_is)
    (case k14 => k_is)
    (case a15 => k_is)
    (case l15 => k_is)
    (case c15 => k_is)
    (case k15 => k_is)
    (case a16 => k_is)
    (case l16 => k_is)
    (case c16 => k_is)
    (case k16 => k_is)
    (case a17 => k_is)
    (case l17 => k_is)
    (case c17 => k_is)
    (case k17 => k_is)
    (case a18 => k_is)
    (case l18 => k_is)
    (case c18 => k_is)
    (case k18 => k_is)
    (case a19 => k_is)
    (case l19 => k_is)
    (case c19 => k_is)
    (case k19 => k_is)
    (case a20 => k_is)
    (case l20 => k_is)
    (case c20 => k_is)
    (case k20 => k_is)
    (case a21 => k_is)
    (case l21 => k_is)
    (case c21 => k_is)
    (case k21 => k_is)
    (case a22 => k_is)
    (case l22 => k_is)
    (case c22 => k_is)
    (case k22 => k_is)
    (case a23 => k_is)
    (case l23 => k_is)
    (case c23 => k_is)
    (case k23 => k_is)
    (case a24 => k_is)
    (case l24 => k_is)
    (case c24 => k_is)
    (case k24 => k_is)
    (case a25 => k_is)
    (case l25 => k_is)
    (case c25 => k_is)
    (case k25 => k_is)
    (case a26 => k_is)
    (case l26 => k_is)
    (case c26 => k_is)
    (case k26 => k_is)
    (case a27 => k_is)
    (case l27 => k_is)
    (case c27 => k_is)
    (case k27 => k_is)
    (case a28 => k_is)
    (case l28 => k_is)
    (case c28 => k_is)
    (case k28 => k_is)
    (case a29 => k_is)
    (case l29 => k_is)
    (case c29 => k_is)
    (case k29 => k_is)
    (case a30 => k_is)
    (case l30 => k_is)
    (case c30 => k_is)
    (case k30 => k_is)
    (case a31 => k_is)
    (case l31 => k_is)
    (case c31 => k_is)
    (case k31 => k_is)
    (case a32 => k_is)
    (case l32 => k_is)
    (case c32 => k_is)
    (case k32 => k_is)
    (case a33 => k_is)
    (case l33 => k_is)
    (case c33 => k_is)
    (case k33 => k_is)
    (case a34 => k_is)
    (case l34 => k_is)
    (case c34 => k_is)
    (case k34 => k_is)
    (case a35 => k_is)
    (case l35 => k_is)
    (case c35 => k_is)
    (case k35 => k_is)
    (case a36 => k_is)
    (case l36 => k_is)
    (case c36 => k_is)
    (case k36 => k_is)
    (case a37 => k_is)
    (case l37 => k_is)
    (case c37 => k_is)
    (case k37 => k_is)
    (case a38 => k_is)
    (case l38 => k_is)
    (case c38 => k_is)
    (case k38 => k_is)
    (case a39 => k_is)
    (case l39 => k_is)
    (case c39 => k_is)
    (case k39 => k_is)
    (case a40 => k_is)
    (case l40 => k_is)
    (case c40 => k_is)
    (case k40 => k_is)
    (case a41 => k_is)
    (case l41 => k_is)
    (case c41 => k_is)
    (case k41 => k_is)
    (case a42 => k_is)
    (case l42 => k_is)
    (case c42 => k_is)
    (case k42 => k_is)
    (case a43 => k_is)
    (case l43 => k_is)
    (case c43 => k_is)
    (case k43 => k_is)
    (case a44 => k_is)
    (case l44 => k_is)
    (case c44 => k_is)
    (case k44 => k_is)
    (case a45 => k_is)
    (case l45 => k_is)
    (case c45 => k_is)
    (case k45 => k_is)
    (case a46 => k_is)
    (case l46 => k_is)
    (case c46 => k_is)
    (case k46 => k_is)
    (case z1 => k_is)
    (case z2 => k_is)
    (case z3 => k_is)
    (case z4 => k_is)
    (case z5 => k_is)
    (case z6 => k_is)
    (case z7 => k_is)
    (case z8 => k_is)
    (case z9 => k_is)
    (case z10 => k_is)
    (case z11 => k_is)
    (case z12 => k_is)
    (case z13 => k_is)
    (case z14 => k_is)
    (case z15 => k_is)
    (case z16 => k_is)
    (case n1 => k_is)
    (case n2 => k_is)
    (case n3 => k_is)
    (case y_TreeError => k_is)
    (case y_NoThing => k_is)
    (case y_NoFit => k_is)
    (case y_NoTree => k_is)
    (case y_NoPath => k_is)
    (case y_NoSide => k_is)
    (case y_NoPlace => k_is)
    (case y_Edits => k_is)
    (case o1_TreeError => k_is)
    (case o2_TreeError => k_is)
    (case o1_NoThing => k_is)
    (case o2_NoThing => k_is)
    (case o1_NoFit => k_is)
    (case o2_NoFit => k_is)
    (case o1_NoTree => k_is)
    (case o2_NoTree => k_is)
    (case o1_NoPath => k_is)
    (case o2_NoPath => k_is)
    (case o1_NoSide => k_is)
    (case o2_NoSide => k_is)
    (case o1_NoPlace => k_is)
    (case o2_NoPlace => k_is)
    (case o1_Edits => k_is)
    (case o2_Edits => k_is)
    (case b1_NoPath => k_is)
    (case b2_NoPath => k_is)
    (case b1_NoPlace => k_is)
    (case b2_NoPlace => k_is)
    (case hnG => k_is)
    (case htG => k_is)
    (case w_NoTreeg => k_is)
    (case w_NoTreek => k_is)
    (case w_NoTrees => k_is)
    (case w_NoTreed => k_is)
    (case w_NoTreea => k_is)
    (case w_NoTreem => k_is)
    (case w_NoTreev => k_is)
    (case w_NoTree_TreeError => first | k_is | rfl)
    (case w_NoTree_NoThing => first | k_is | rfl)
    (case w_NoTree_NoFit => first | k_is | rfl)
    (case w_NoTree_NoTree => first | k_is | rfl)
    (case w_NoTree_NoPath => first | k_is | rfl)
    (case w_NoTree_NoSide => first | k_is | rfl)
    (case w_NoTree_NoPlace => first | k_is | rfl)
    (case w_NoTree_Edits => first | k_is | rfl)
    (case x1_NoTree => k_exc)
    (case x2_NoTree => k_is)
    (case w_NoSideg => k_is)
    (case w_NoSidek => k_is)
    (case w_NoSides => k_is)
    (case w_NoSided => k_is)
    (case w_NoSidea => k_is)
    (case w_NoSidem => k_is)
    (case w_NoSidev => k_is)
    (case w_NoSide_TreeError => first | k_is | rfl)
    (case w_NoSide_NoThing => first | k_is | rfl)
    (case w_NoSide_NoFit => first | k_is | rfl)
    (case w_NoSide_NoTree => first | k_is | rfl)
    (case w_NoSide_NoPath => first | k_is | rfl)
    (case w_NoSide_NoSide => first | k_is | rfl)
    (case w_NoSide_NoPlace => first | k_is | rfl)
    (case w_NoSide_Edits => first | k_is | rfl)
    (case xl1_NoSide => k_is)
    (case xl2_NoSide => first | rfl | decide | k_is)
    (case xl3_NoSide => k_is)
    (case xl4_NoSide => k_is)
    (case xl5_NoSide => k_is)
    (case xl6_NoSide => k_is)
    (case xl7_NoSide => k_is)
    (case lI_NoSide => k_is)
    (case cI_NoSide => k_is)
    (case kI_NoSide => k_is)
    (case w_NoPathg => k_is)
    (case w_NoPathk => k_is)
    (case w_NoPaths => k_is)
    (case w_NoPathd => k_is)
    (case w_NoPatha => k_is)
    (case w_NoPathm => k_is)
    (case w_NoPathv => k_is)
    (case w_NoPath_TreeError => first | k_is | rfl)
    (case w_NoPath_NoThing => first | k_is | rfl)
    (case w_NoPath_NoFit => first | k_is | rfl)
    (case w_NoPath_NoTree => first | k_is | rfl)
    (case w_NoPath_NoPath => first | k_is | rfl)
    (case w_NoPath_NoSide => first | k_is | rfl)
    (case w_NoPath_NoPlace => first | k_is | rfl)
    (case w_NoPath_Edits => first | k_is | rfl)
    (case x1_NoPath => k_exc)
    (case x2_NoPath => k_is)
    (case w_NoPlaceg => k_is)
    (case w_NoPlacek => k_is)
    (case w_NoPlaces => k_is)
    (case w_NoPlaced => k_is)
    (case w_NoPlacea => k_is)
    (case w_NoPlacem => k_is)
    (case w_NoPlacev => k_is)
    (case w_NoPlace_TreeError => first | k_is | rfl)
    (case w_NoPlace_NoThing => first | k_is | rfl)
    (case w_NoPlace_NoFit => first | k_is | rfl)
    (case w_NoPlace_NoTree => first | k_is | rfl)
    (case w_NoPlace_NoPath => first | k_is | rfl)
    (case w_NoPlace_NoSide => first | k_is | rfl)
    (case w_NoPlace_NoPlace => first | k_is | rfl)
    (case w_NoPlace_Edits => first | k_is | rfl)
    (case xl1_NoPlace => k_is)
    (case xl2_NoPlace => first | rfl | decide | k_is)
    (case xl3_NoPlace => k_is)
    (case xl4_NoPlace => k_is)
    (case xl5_NoPlace => k_is)
    (case xl6_NoPlace => k_is)
    (case xl7_NoPlace => k_is)
    (case lI_NoPlace => k_is)
    (case cI_NoPlace => k_is)
    (case kI_NoPlace => k_is)
    (case g1_Edits => k_is)
    (case g2_Edits => k_is)
    (case g3_Edits => k_is)
    (case g4_Edits => k_is)
    (case g5_Edits => k_is)
    (case g6_Edits => k_is)
    (case na_Edits_new_tags => k_is)
    (case na_Edits_outs => k_is)
    (case na_Edits_puts => k_is)
    (case q1_Edits_init => k_is)
    (case q2_Edits_init => k_is)
    (case q3_Edits_init => k_is)
    (case q4_Edits_init => k_is)
    (case q5_Edits_init => k_is)
    (case q1_Edits_trees_at => k_is)
    (case q2_Edits_trees_at => k_is)
    (case q3_Edits_trees_at => k_is)
    (case q4_Edits_trees_at => k_is)
    (case q5_Edits_trees_at => k_is)
