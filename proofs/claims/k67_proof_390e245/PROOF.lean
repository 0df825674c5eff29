import PyProof.Rows.All
import Wide.All
import OpenK.AllK
import Wide.FinOn
import HandS.ForMost
import HandS.IsInst
import HandS.TupAny
import HandS.TupMul
import HandS.Style
import HandS.Flow
import HandS.Walk
import KE.GoesMore
import HandS.FStrTup
import HandS.ExcValue
import HandS.ExcIs
import HandS.ExcField
import KE.KExcIs
import HandS.ExcInit
import HandS.WordsExc
import HandS.SortKw
import KE.DataMinMax
import KE.KeyNested
import KE.KDictKeyed
import HandS.Dict
import HandS.Lambda
import HandS.Zip
import HandS.RevTup
import HandS.More
import HandS.TryOnly
import HandS.IterVal
import PyProof.NeKinds
import HandS.Conv
import HandS.Deep
import PyProof.SliceSyntax
import HandS.WordsDict
import KE.KDictPairs
import HandS.Replace
import HandS.TupLen
import KE.SortData
import KE.SortKeyHeap
import HandS.TupLe
import HandS.SuiteRaise
import HandS.RaiseFrom
import HandS.ExcInitHot
import HandS.SetFor
import HandS.List
import HandS.EndTab
import PyProof.Rows.IntBool
import PySem.Challenge.RW_treelore_k67_ties_refused
section
open PySem PySem.W PyProof.Rows
set_option Elab.async false
set_option maxRecDepth 100000 in
set_option maxHeartbeats 0 in
open_top tl_head for PySem.Challenge.rw_treelore_k67_ties_refused
end
set_option Elab.async false
set_option linter.all false
set_option maxRecDepth 100000
set_option maxHeartbeats 4000000
/-! Data in the heap, by value: what stays when the heap grows, what isinstance and len answer of it. -/
namespace Tl
open PySem L2
theorem same_new {H : Hp} {p : Addr} {o : HO} (h : H p = none) : Same H (upd H p o) := fun b u q => by
  rw [upd_ne (ne_of_none q h)]
  exact q
/-- what F does not know may change -/
theorem same_mut {F H : Hp} {p : Addr} {o : HO} (e : Same F H) (h : F p = none) : Same F (upd H p o) := fun b u q => by
  rw [upd_ne (ne_of_none q h)]
  exact e b u q
theorem same_rd {H H' : Hp} {a : Addr} {u : HO} (e : Same H H') (h : Rd H a u) : Rd H' a u := by
  rcases h with h | ⟨o, h⟩
  · exact .inl (e a _ h)
  · exact .inr ⟨o, e a _ h⟩
theorem same_t {K : PySem.W.Frag} {H H' : Hp} {a : Addr} {xs : List V} (e : Same H H') (h : SqT K H a xs) : SqT K H' a xs := by
  rcases h with h | h
  · exact .inl (same_rd e h)
  · exact .inr h
theorem same_l {K : PySem.W.Frag} {H H' : Hp} {a : Addr} {xs : List V} (e : Same H H') (h : SqL K H a xs) : SqL K H' a xs := by
  rcases h with h | h
  · exact .inl (same_rd e h)
  · exact .inr h
mutual
theorem dp_mono {K : PySem.W.Frag} {H H' : Hp} (e : Same H H') : ∀ (d : PyData) (v : V), Dp K H v d → Dp K H' v d
  | .none, _, h => by cases h; exact .non
  | .bool b, _, h => by cases h; exact .bl b
  | .int i, _, h => by cases h; exact .int i
  | .str x, _, h => by cases h; exact .str x
  | .list ds, _, h => by
    cases h with
    | lst hs ha => exact .lst (same_l e hs) (dpAll_mono e ds _ ha)
  | .tuple ds, _, h => by
    cases h with
    | tup hs ha => exact .tup (same_t e hs) (dpAll_mono e ds _ ha)
  | .dict _, _, h => by cases h
theorem dpAll_mono {K : PySem.W.Frag} {H H' : Hp} (e : Same H H') : ∀ (ds : List PyData) (vs : List V), DpAll K H vs ds → DpAll K H' vs ds
  | [], _, h => by cases h; exact .nil
  | d :: ds, _, h => by
    cases h with
    | cons h1 h2 => exact .cons (dp_mono e d _ h1) (dpAll_mono e ds _ h2)
end
/-- a thing of the law: data, or the empty dict -/
inductive Dt (K : PySem.W.Frag) (H : Hp) : V → PyData → Prop
  | d {v : V} {d : PyData} : Dp K H v d → Dt K H v d
  | e {a : Addr} : H a = some (.dK []) → Dt K H (.ref a) (.dict [])
theorem Dt.mono {K : PySem.W.Frag} {H H' : Hp} {v : V} {d : PyData} (e : Same H H') (h : Dt K H v d) : Dt K H' v d := by
  cases h with
  | d h => exact .d (dp_mono e _ _ h)
  | e h => exact .e (e _ _ h)
theorem DpAll.len {K : PySem.W.Frag} {H : Hp} : ∀ {vs : List V} {ds : List PyData}, DpAll K H vs ds → vs.length = ds.length
  | _, _, .nil => rfl
  | _, _, .cons _ h => by rw [List.length_cons, List.length_cons, DpAll.len h]
theorem DpAll.got {K : PySem.W.Frag} {H : Hp} : ∀ {vs : List V} {ds : List PyData} {i : Nat} {d : PyData}, DpAll K H vs ds → ds[i]? = some d → ∃ v, vs[i]? = some v ∧ Dp K H v d
  | _, _, _, _, .nil, e => by simp at e
  | _, _, 0, _, .cons h _, e => by simp at e; subst e; exact ⟨_, rfl, h⟩
  | _, _, i + 1, d, .cons _ h, e => by
    obtain ⟨v, h1, h2⟩ := DpAll.got (i := i) (d := d) h (by simpa using e)
    exact ⟨v, by simpa using h1, h2⟩
theorem DpAll.app {K : PySem.W.Frag} {H : Hp} : ∀ {vs ws : List V} {ds es : List PyData}, DpAll K H vs ds → DpAll K H ws es → DpAll K H (vs ++ ws) (ds ++ es)
  | _, _, _, _, .nil, h => h
  | _, _, _, _, .cons a b, h => .cons a (DpAll.app b h)
theorem DpAll.take {K : PySem.W.Frag} {H : Hp} : ∀ {vs : List V} {ds : List PyData} (n : Nat), DpAll K H vs ds → DpAll K H (vs.take n) (ds.take n)
  | _, _, 0, _ => .nil
  | _, _, _ + 1, .nil => .nil
  | _, _, n + 1, .cons a b => .cons a (DpAll.take n b)
theorem DpAll.drop {K : PySem.W.Frag} {H : Hp} : ∀ {vs : List V} {ds : List PyData} (n : Nat), DpAll K H vs ds → DpAll K H (vs.drop n) (ds.drop n)
  | _, _, 0, h => h
  | _, _, _ + 1, .nil => .nil
  | _, _, n + 1, .cons a b => DpAll.drop n b
theorem DpAll.rep {K : PySem.W.Frag} {H : Hp} {vs : List V} {ds : List PyData} (h : DpAll K H vs ds) : ∀ n : Nat, DpAll K H (List.replicate n vs).flatten (List.replicate n ds).flatten
  | 0 => .nil
  | n + 1 => by
    rw [List.replicate_succ, List.replicate_succ, List.flatten_cons, List.flatten_cons]
    exact DpAll.app h (DpAll.rep h n)
theorem DpAll.two {K : PySem.W.Frag} {H : Hp} : ∀ {vs : List V} {ds : List PyData}, DpAll K H vs ds → vs.length = 2 → ∃ x y a b, vs = [x, y] ∧ ds = [a, b] ∧ Dp K H x a ∧ Dp K H y b
  | _, _, .nil, e => by simp at e
  | _, _, .cons _ .nil, e => by simp at e
  | _, _, .cons h1 (.cons h2 .nil), _ => ⟨_, _, _, _, rfl, rfl, h1, h2⟩
  | _, _, .cons _ (.cons _ (.cons _ _)), e => by simp at e
/-! ### what isinstance answers -/
def tyName : PyData → String
  | .none => "NoneType"
  | .bool _ => "bool"
  | .int _ => "int"
  | .str _ => "str"
  | .list _ => "list"
  | .tuple _ => "tuple"
  | .dict _ => "dict"
@[reducible] def isStr : PyData → Bool
  | .str _ => true
  | _ => false
@[reducible] def isTup : PyData → Bool
  | .tuple _ => true
  | _ => false
@[reducible] def isInt : PyData → Bool
  | .int _ => true
  | .bool _ => true
  | _ => false
@[reducible] def isBl : PyData → Bool
  | .bool _ => true
  | _ => false
theorem kit_str (d : PyData) : kitB (tyName d) "str" = some (isStr d) := by cases d <;> (simp only [tyName, isStr]; decide +kernel)
theorem kit_tup (d : PyData) : kitB (tyName d) "tuple" = some (isTup d) := by cases d <;> (simp only [tyName, isTup]; decide +kernel)
theorem kit_int (d : PyData) : kitB (tyName d) "int" = some (isInt d) := by cases d <;> (simp only [tyName, isInt]; decide +kernel)
theorem kit_bl (d : PyData) : kitB (tyName d) "bool" = some (isBl d) := by cases d <;> (simp only [tyName, isBl]; decide +kernel)
/-! ### texts within are short -/
mutual
def txt : PyData → Bool
  | .str s => decide (s.length ≤ 1000) && PyData.strOk s
  | .list ds => txtAll ds
  | .tuple ds => txtAll ds
  | _ => true
def txtAll : List PyData → Bool
  | [] => true
  | d :: ds => txt d && txtAll ds
end
theorem txtAll_get : ∀ {ds : List PyData} {i : Nat} {d : PyData}, txtAll ds = true → ds[i]? = some d → txt d = true
  | [], _, _, _, e => by simp at e
  | a :: r, 0, d, h, e => by
    rw [txtAll, Bool.and_eq_true] at h
    simp at e
    subst e
    exact h.1
  | a :: r, i + 1, d, h, e => by
    rw [txtAll, Bool.and_eq_true] at h
    exact txtAll_get h.2 (by simpa using e)
/-- a list of plain values can be compared -/
def flatD : PyData → Bool
  | .none => true
  | .bool _ => true
  | .int _ => true
  | .str s => PyData.strOk s
  | _ => false
theorem flat_all : ∀ ds : List PyData, ds.all flatD = true → PyData.canLayAll0 ds = true ∧ PyData.depthAll ds = 0
  | [], _ => ⟨rfl, rfl⟩
  | d :: r, h => by
    rw [List.all_cons, Bool.and_eq_true] at h
    obtain ⟨h1, h2⟩ := flat_all r h.2
    have h0 := h.1
    rw [PyData.canLayAll0, PyData.depthAll, h1, h2]
    cases d with
    | none => exact ⟨rfl, rfl⟩
    | bool b => exact ⟨rfl, rfl⟩
    | int b => exact ⟨rfl, rfl⟩
    | str b =>
      rw [flatD] at h0
      rw [PyData.canLay0, PyData.depth, h0]
      exact ⟨rfl, rfl⟩
    | list b => exact Bool.noConfusion h0
    | tuple b => exact Bool.noConfusion h0
    | dict b => exact Bool.noConfusion h0
theorem flat_shaped {ds : List PyData} (h : ds.all flatD = true) : SeqAt.shaped (.list ds) = true := by
  obtain ⟨h1, h2⟩ := flat_all ds h
  unfold SeqAt.shaped
  rw [PyData.canLay0, PyData.depth, h1, h2]
  rfl
theorem sz1000 {n : Nat} (h : n ≤ 1000) : n ≤ sizeLine := Nat.le_of_lt (small1000 h)
/-- the built-in names that are still the built-in's -/
structure Bl (mg : Str → Option Value) : Prop where
  isi : mg "isinstance" = none
  int : mg "int" = none
  bool : mg "bool" = none
  str : mg "str" = none
  tuple : mg "tuple" = none
  list : mg "list" = none
  len : mg "len" = none
  all : mg "all" = none
  repr : mg "repr" = none
  max : mg "max" = none
  range : mg "range" = none
  enum : mg "enumerate" = none
section
variable {X : Cx}
theorem b_int (T : Bl X.mg) {p : Pos} (hg : Gl X "int" := by rfl) : PE X (.Name "int" p) (tC (.ty "int")) := pe_bltn hg T.int PyProof.Rows.boot_int rfl
theorem b_bool (T : Bl X.mg) {p : Pos} (hg : Gl X "bool" := by rfl) : PE X (.Name "bool" p) (tC (.ty "bool")) := pe_bltn hg T.bool PyProof.Rows.boot_bool rfl
theorem b_str (T : Bl X.mg) {p : Pos} (hg : Gl X "str" := by rfl) : PE X (.Name "str" p) (tC (.ty "str")) := pe_bltn hg T.str PyProof.Rows.boot_str rfl
theorem b_tuple (T : Bl X.mg) {p : Pos} (hg : Gl X "tuple" := by rfl) : PE X (.Name "tuple" p) (tC (.ty "tuple")) := pe_bltn hg T.tuple PyProof.Rows.boot_tuple rfl
end
theorem iteD {p A B : Prop} [Decidable p] (h1 : p → A) (h2 : ¬ p → B) : if decide p = true then A else B := by
  by_cases h : p
  · rw [if_pos (decide_eq_true h)]
    exact h1 h
  · rw [if_neg (by rw [decide_eq_false h]; exact Bool.false_ne_true)]
    exact h2 h
/-! ### comprehensions whose parts leave all as it was -/
/-- a def of the program that is called: where it stands, and what it promises -/
structure Use (P : Program) (w : World) (K : PySem.W.Frag) (mg : Str → Option Value) (base : Heap) (x : Str) (ps : List Str) (k : Nat) (sp : Sp) where
  f : Addr
  fd : FuncData
  ok : FnOk P w K mg base CX0 k f fd ps sp
  m : mg x = some (.ref f)
  kp : PySem.W.keepIn K (.ref f) = true
  b : Binds K fd ps []
end Tl
set_option Elab.async false
set_option linter.all false
set_option maxRecDepth 100000
set_option maxHeartbeats 4000000
/-! Rules of our own: tuple * int of any small count, text * int, enumerate of a tuple, repr of data. -/
namespace Tl
open PySem PySem.Spec PyProof.Rows L2
open AutoSeq1 (wpAny_loadPart')
/-- one way through tuple.__mul__ where the tuple itself comes back -/
theorem mulSame (l : Addr) (items : Array Value) (n : Nat) (dd : Option Addr) (sl : Array (Option Value)) (x : Int) (u : Tok)
    (c0 : (decide (x < -(2 ^ 63)) || decide (x ≥ 2 ^ 63)) = false) (c1 : (items.isEmpty || x == 1) = true) :
    Meets (Builtin.«tuple.__mul__» ⟨[.ref l, .int x u], []⟩) (fun _ R s =>
      s.heap.get? l = some { cls := .type "tuple", dict := dd, data := .seq items n, slots := sl } ∧
        R (.ok (.ret (Value.ref l))) s) :=
  .of_wp fun prog w A R s h => by
    obtain ⟨hp, g, d, tk, os⟩ := s
    obtain ⟨hl, h⟩ := h
    have f1 := AutoSeq1.idx_int
    wp_walk using wpAny_loadPart' hl
    refine wpAny_ite_false (decide_eq_false (by rw [c0]; exact Bool.false_ne_true)) ?_
    wp_walk using wpAny_loadPart' hl
    exact ⟨_, rfl, h⟩
theorem mulNone (l : Addr) (items : Array Value) (n : Nat) (dd : Option Addr) (sl : Array (Option Value)) (x : Int) (u : Tok)
    (c0 : (decide (x < -(2 ^ 63)) || decide (x ≥ 2 ^ 63)) = false) (c1 : (items.isEmpty || x == 1) = false) (c2 : (decide (x ≤ 0) || items.isEmpty) = true) :
    Meets (Builtin.«tuple.__mul__» ⟨[.ref l, .int x u], []⟩) (fun _ R s =>
      s.heap.get? l = some { cls := .type "tuple", dict := dd, data := .seq items n, slots := sl } ∧
        R (.ok (.ret (Value.ref s.heap.objs.size))) { s with heap := s.heap.push { cls := Value.type "tuple", data := Data.seq #[] }, toks := s.toks }) :=
  .of_wp fun prog w A R s h => by
    obtain ⟨hp, g, d, tk, os⟩ := s
    obtain ⟨hl, h⟩ := h
    have f1 := AutoSeq1.idx_int
    wp_walk using wpAny_loadPart' hl
    refine wpAny_ite_false (decide_eq_false (by rw [c0]; exact Bool.false_ne_true)) ?_
    wp_walk using wpAny_loadPart' hl
    exact ⟨_, rfl, h⟩
def rRepA (K : PySem.W.Frag) : R2 := fun x y H Q => ∃ l k xs, x = .ref l ∧ y = .int k ∧ SqT K H l xs ∧ 0 ≤ k ∧ k ≤ 1000 ∧ xs.length ≤ 1000 ∧ (xs = [] ∨ k = 1 → Q (.ref l) H) ∧
  (¬ (xs = [] ∨ k = 1) → ∀ p, H p = none → Q (.ref p) (upd H p (.tup (List.replicate k.toNat xs).flatten)))
theorem op_repA {X : Cx} : OpR X (binaryOp .Mult) (rRepA X.K) := by
  intro pins s σ H x y v u Q I rx ry h
  obtain ⟨l, k, xs, rfl, rfl, hT, h1, h2, hz, q0, q1⟩ := h
  by_cases hc : xs = [] ∨ k = 1
  · cases rx
    obtain ⟨t, rfl⟩ := ry
    obtain ⟨its, r, ⟨⟨cls, dd, data, sl⟩, ho, hcl, n, hd⟩, hs⟩ := I.tuple hT
    simp only at hcl hd
    subst hcl hd
    have c0 : (decide (k < -(2 ^ 63)) || decide (k ≥ 2 ^ 63)) = false := by
      rw [decide_eq_false (by omega), decide_eq_false (by omega)]
      rfl
    have c1 : (its.toArray.isEmpty || k == 1) = true := by
      rcases hc with e | e
      · subst e
        cases r
        rfl
      · rw [e, Bool.or_eq_true]
        exact .inr rfl
    refine wpAny_binaryOp_repeat_ref (T := "tuple") (U := "int") (by decide) ⟨_, ho, rfl⟩ (fun s' => typeIs_int s' k t)
      noFill_tuple_mul F.fills_int_mul F.slot_int_rmul repeat_tuple F.slot_int_index.lookup
      (call_meets F.slot_int_rmul (typeIs_int s k t) F.entry_int_rmul (F.args_int_rmul_2 _ _)
        (int_rmul_tuple k t l its.toArray n dd sl) ⟨ho, rfl, ⟨_, ho, rfl⟩, call_meets F.slot_tuple_mul ⟨_, ho, rfl⟩ F.entry_tuple_mul (F.args_tuple_mul_2 _ _) (mulSame l its.toArray n dd sl k t c0 c1) ⟨ho, ?_⟩⟩)
    exact ⟨.ref l, H, I, rfl, q0 hc⟩
  · by_cases hk : 2 ≤ k
    · exact op_repT pins s σ H _ _ v u Q I rx ry ⟨l, k, xs, rfl, rfl, hT, fun e => hc (.inl e), hk, h2, hz, q1 hc⟩
    · have hk0 : k = 0 := by
        have : ¬ k = 1 := fun e => hc (.inr e)
        omega
      subst hk0
      cases rx
      obtain ⟨t, rfl⟩ := ry
      obtain ⟨its, r, ⟨⟨cls, dd, data, sl⟩, ho, hcl, n, hd⟩, hs⟩ := I.tuple hT
      simp only at hcl hd
      subst hcl hd
      have hi : its.toArray.isEmpty = false := by
        cases r with
        | nil => exact absurd (.inl rfl) hc
        | cons a b => rfl
      have c1 : (its.toArray.isEmpty || (0 : Int) == 1) = false := by rw [hi]; rfl
      refine wpAny_binaryOp_repeat_ref (T := "tuple") (U := "int") (by decide) ⟨_, ho, rfl⟩ (fun s' => typeIs_int s' 0 t)
        noFill_tuple_mul F.fills_int_mul F.slot_int_rmul repeat_tuple F.slot_int_index.lookup
        (call_meets F.slot_int_rmul (typeIs_int s 0 t) F.entry_int_rmul (F.args_int_rmul_2 _ _)
          (int_rmul_tuple 0 t l its.toArray n dd sl) ⟨ho, rfl, ⟨_, ho, rfl⟩, call_meets F.slot_tuple_mul ⟨_, ho, rfl⟩ F.entry_tuple_mul (F.args_tuple_mul_2 _ _) (mulNone l its.toArray n dd sl 0 t (by decide) c1 (by rfl)) ⟨ho, ?_⟩⟩)
      refine ⟨.ref s.heap.objs.size, _, I.laid (t' := s.toks) (o := .tup []) (fun b ob q => Heap.get?_push_of_some _ q) (Nat.le_refl _) ?_, rfl, q1 hc _ (I.hok.fresh (Nat.le_refl _))⟩
      exact ⟨Nat.zero_le _, [], .nil, IsTup.new _ _⟩
/-! ### enumerate(t), t a tuple -/
/-! ### repr of data -/
end Tl
set_option Elab.async false
set_option linter.all false
set_option maxRecDepth 100000
set_option maxHeartbeats 4000000
/-! Data that is good to be shown: short texts, small numbers; how long its text can be. -/
namespace Tl
open PySem L2
mutual
def wt : PyData → Nat
  | .none => 4
  | .bool _ => 5
  | .int _ => 1930
  | .str s => 10 * s.length + 4
  | .list ds => 3 + wtAll ds
  | .tuple ds => 3 + wtAll ds
  | .dict _ => 2
def wtAll : List PyData → Nat
  | [] => 0
  | d :: ds => wt d + 2 + wtAll ds
end
mutual
def gd : PyData → Bool
  | .none => true
  | .bool _ => true
  | .int i => decide (i.natAbs < 10 ^ 41)
  | .str s => decide (s.length ≤ 1000) && PyData.strOk s
  | .list ds => gdAll ds
  | .tuple ds => gdAll ds
  | .dict _ => false
def gdAll : List PyData → Bool
  | [] => true
  | d :: ds => gd d && gdAll ds
end
mutual
theorem gd_txt : ∀ d : PyData, gd d = true → txt d = true
  | .none, _ => rfl
  | .bool _, _ => rfl
  | .int _, _ => rfl
  | .str s, h => by rw [gd] at h; rw [txt]; exact h
  | .list ds, h => by rw [gd] at h; rw [txt]; exact gdAll_txt ds h
  | .tuple ds, h => by rw [gd] at h; rw [txt]; exact gdAll_txt ds h
  | .dict _, h => Bool.noConfusion h
theorem gdAll_txt : ∀ ds : List PyData, gdAll ds = true → txtAll ds = true
  | [], _ => rfl
  | d :: ds, h => by
    rw [gdAll, Bool.and_eq_true] at h
    rw [txtAll, gd_txt d h.1, gdAll_txt ds h.2]
    rfl
end
theorem gdAll_app : ∀ {ds es : List PyData}, gdAll (ds ++ es) = (gdAll ds && gdAll es)
  | [], es => by rw [List.nil_append, gdAll, Bool.true_and]
  | a :: r, es => by rw [List.cons_append, gdAll, gdAll, gdAll_app, Bool.and_assoc]
theorem wtAll_app : ∀ {ds es : List PyData}, wtAll (ds ++ es) = wtAll ds + wtAll es
  | [], es => by rw [List.nil_append, wtAll, Nat.zero_add]
  | a :: r, es => by rw [List.cons_append, wtAll, wtAll, wtAll_app]; omega
theorem depthAll_app : ∀ {ds es : List PyData}, PyData.depthAll (ds ++ es) = max (PyData.depthAll ds) (PyData.depthAll es)
  | [], es => by rw [List.nil_append, PyData.depthAll]; omega
  | a :: r, es => by rw [List.cons_append, PyData.depthAll, PyData.depthAll, depthAll_app]; omega
/-! ### trees -/
def tags6 : List Str := ["a", "b", "ab", "zz", "abcdefgh", "z"]
def tagOk (s : Str) : Prop := 1 ≤ s.length ∧ s.length ≤ 8 ∧ (PyData.strOk s = true ∧ s ∈ tags6)
def TrD : Nat → PyData → Prop
  | 0, _ => False
  | h + 1, d => ∃ (s : Str) (ks : List PyData), d = .tuple [.str s, .tuple ks] ∧ tagOk s ∧ ∀ k ∈ ks, TrD h k
theorem TrD.mono : ∀ {h h' : Nat} {d : PyData}, h ≤ h' → TrD h d → TrD h' d
  | 0, _, _, _, t => t.elim
  | h + 1, 0, _, e, _ => by omega
  | h + 1, h' + 1, d, e, t => by
    obtain ⟨s, ks, rfl, a, b⟩ := t
    exact ⟨s, ks, rfl, a, fun k hk => TrD.mono (by omega) (b k hk)⟩
/-! ### the heap: data in F within H, the source of numbers at st -/
structure Gw (F H F' H' : Hp) : Prop where
  ff : Same F F'
  fh : Same F' H'
  hh : Same H H'
  nw : ∀ b, H b ≠ none → F b = none → F' b = none
theorem Gw.refl {F H : Hp} (e : Same F H) : Gw F H F H := ⟨Same.refl _, e, Same.refl _, fun _ _ h => h⟩
theorem Gw.trans {F H F1 H1 F2 H2 : Hp} (a : Gw F H F1 H1) (b : Gw F1 H1 F2 H2) : Gw F H F2 H2 :=
  ⟨a.ff.trans b.ff, b.fh, a.hh.trans b.hh, fun x h1 h2 => b.nw x (fun z => h1 (a.hh.free z)) (a.nw x h1 h2)⟩
theorem Gw.new {F H : Hp} {p : Addr} {o : HO} (e : Same F H) (h : H p = none) : Gw F H (upd F p o) (upd H p o) := by
  refine ⟨same_new (e.free h), fun b u q => ?_, same_new h, fun b h1 h2 => ?_⟩
  · by_cases z : b = p
    · subst z
      rw [upd_same] at q ⊢
      exact q
    · rw [upd_ne z] at q ⊢
      exact e b u q
  · rw [upd_ne (fun z => h1 (by rw [z]; exact h))]
    exact h2
end Tl
set_option Elab.async false
set_option linter.all false
set_option maxRecDepth 100000
set_option maxHeartbeats 4000000
namespace Tl
open PySem PySem.Spec PyProof.Rows L2
/-! An exception that a suite has put into another name, and that is looked at behind the try. -/
/-- the caught thing at a, of the class cls, its dict d -/
def CgO (cls : Value) (d : Option Addr) (a : Addr) : HO := .ext fun h => ∃ (oe : Obj) (vs : Array Value), h.get? a = some oe ∧ Zc cls d oe ∧ oe.data = .fields vs
/-- a dict that is tracked, where there is one -/
def DxO (H : Hp) : Option Addr → Prop
  | none => True
  | some dd => ∃ fs, H dd = some (.xd fs)
section
variable {X : Cx}
/-- X(), an own error without a word -/
theorem pmk_own0 {C : Addr} {bmB : List Value} {B newId initId : String} {x : Str} {p pos : Pos} (F : ExcBaseFacts B newId initId bmB) (q : PySem.W.excIn X.K C bmB newId = true) (gC : X.mg x = some (.ref C)) (kC : PySem.W.keepIn X.K (.ref C) = true) (r : Raises X (.ref C)) (hg : Gl X x)
    (hdb : (x == ("__debug__" : Str)) = false := by decide) : PMk X (.Call (.Name x p) [] [] pos) (fun _ H Q => Q (.ref C) none H) := by
  intro pins s σ H Q I h
  refine wpAny_Call_Name_kw (ld_glob I hg gC ?_ hdb)
  refine PySem.W.callWith_K0 I.kIn kC ?_
  obtain ⟨bm, N, nm, qn, bs, hdct, sn, sub, ab, col, dd, k0, k1, k2, k3, k5, mN, hC, hN, hni, T⟩ := exc_obj I.kIn q
  exact wpAny_call_exc_subT F T hC hN hni (fun h' e hm => mk_of I hm r h (I.hok.gone hm.new)) (Nat.zero_le _)
end
end Tl
set_option Elab.async false
set_option linter.all false
set_option maxRecDepth 100000
set_option maxHeartbeats 4000000
set_option Elab.async false
set_option linter.all false
set_option maxRecDepth 100000
set_option maxHeartbeats 4000000
/-! Dicts whose keys are tuples of numbers, nested: kept as one object; the keys' own objects are told of by others. -/
namespace Tl
open PySem PySem.Spec PyProof.Rows L2
/-! ### keys -/
mutual
/-- numbers, and tuples of such -/
def noTxt : NestedKey → Bool
  | .num _ => true
  | .tup ks => noTxts ks
  | _ => false
def noTxts : List NestedKey → Bool
  | [] => true
  | k :: ks => noTxt k && noTxts ks
end
mutual
theorem hash_any : ∀ (k : NestedKey) (w w' : World), noTxt k = true → k.hash w = k.hash w'
  | .num i, _, _, _ => rfl
  | .tup ks, w, w', h => by rw [NestedKey.hash, NestedKey.hash, hashes_any ks w w' (by simpa [noTxt] using h)]
  | .none, _, _, h => by simp [noTxt] at h
  | .text _, _, _, h => by simp [noTxt] at h
theorem hashes_any : ∀ (ks : List NestedKey) (w w' : World), noTxts ks = true → NestedKey.hashes w ks = NestedKey.hashes w' ks
  | [], _, _, _ => rfl
  | k :: ks, w, w', h => by
    rw [noTxts, Bool.and_eq_true] at h
    rw [NestedKey.hashes, NestedKey.hashes, hash_any k w w' h.1, hashes_any ks w w' h.2]
end
mutual
/-- the value v is the key k -/
inductive KeyV (K : PySem.W.Frag) (H : Hp) : V → NestedKey → Prop
  | int (i : Int) : KeyV K H (.int i) (.num i)
  | tup {a : Addr} {xs : List V} {ks : List NestedKey} (h : SqT K H a xs) (r : KeyVs K H xs ks) : KeyV K H (.ref a) (.tup ks)
inductive KeyVs (K : PySem.W.Frag) (H : Hp) : List V → List NestedKey → Prop
  | nil : KeyVs K H [] []
  | cons {x : V} {k : NestedKey} {xs : List V} {ks : List NestedKey} (h : KeyV K H x k) (r : KeyVs K H xs ks) : KeyVs K H (x :: xs) (k :: ks)
end
section
variable {X : Cx} {pins : List (Addr × Obj)} {σ : L2.St} {H : Hp} {s : Shared}
mutual
theorem KeyV.is (I : Inv X pins σ H s) : ∀ {k : NestedKey} {v : V} {u : Value}, KeyV X.K H v k → RelV v u → NestedIs s.heap k u
  | .num i, v, u, h, r => by
    cases h
    obtain ⟨t, rfl⟩ := r
    exact .int i t
  | .tup ks, v, u, h, r => by
    cases h with
    | tup hs hr =>
      cases r
      obtain ⟨its, rv, ⟨o, h1, h2, n, h3⟩, _⟩ := I.tuple hs
      exact .tup h1 h2 h3 (by simpa using KeyVs.is I hr rv)
  | .none, _, _, h, _ => by cases h
  | .text _, _, _, h, _ => by cases h
theorem KeyVs.is (I : Inv X pins σ H s) : ∀ {ks : List NestedKey} {vs : List V} {us : List Value}, KeyVs X.K H vs ks → Vals vs us → NestedAll s.heap ks us
  | [], _, _, h, r => by cases h; cases r; exact .nil
  | k :: ks, _, _, h, r => by
    cases h with
    | cons a b =>
      cases r with
      | cons ra rb => exact .cons (KeyV.is I a ra) (KeyVs.is I b rb)
end
end
/-! ### the object -/
abbrev DU1 := NestedKey × Addr × V
abbrev DU2 := NestedKey × Addr × Value
def RelU (x : DU1) (y : DU2) : Prop := x.1 = y.1 ∧ x.2.1 = y.2.1 ∧ RelV x.2.2 y.2.2
def entU (w : World) (y : DU2) : DictEntry := ⟨y.1.hash w, .ref y.2.1, y.2.2⟩
def phiU (a : Addr) (xs : List DU1) (h : Heap) : Prop := ∃ (ys : List DU2) (o : Obj) (es : Array DictEntry) (ep : Nat), Paired RelU xs ys ∧ h.get? a = some o ∧ o.ExactDict ∧ o.data = .dict es ep ∧ ∀ w : World, es.toList = ys.map (entU w)
def DU (a : Addr) (xs : List DU1) : HO := .ext (phiU a xs)
theorem phiU_ok {P : Program} {w : World} {H : Hp} {h : Heap} {a : Addr} {xs : List DU1} (p : phiU a xs h) : ObjOk P w H h a (DU a xs) := by
  obtain ⟨ys, o, es, ep, h1, h2, h3, h4, h5⟩ := p
  exact ⟨⟨ys, o, es, ep, h1, h2, h3, h4, h5⟩, ⟨o, h2⟩, fun h1' h2' ⟨ys', o', es', ep', g1, g2, g3, g4, g5⟩ k => ⟨ys', o', es', ep', g1, k _ g2, g3, g4, g5⟩⟩
theorem DU_get {P : Program} {w : World} {H : Hp} {h : Heap} {a : Addr} {xs : List DU1} (x : HOk P w H h) (e : H a = some (DU a xs)) : phiU a xs h := (show ObjOk P w H h a (DU a xs) from x a _ e).1
/-- what else is known of such a dict -/
structure KeysU (K : PySem.W.Frag) (H : Hp) (a : Addr) (xs : List DU1) : Prop where
  sm : (a == sysModules) = false
  sz : xs.length ≤ sizeLine
  nd : (xs.map (·.1)).Nodup
  ks : ∀ x ∈ xs, KeyV K H (.ref x.2.1) x.1 ∧ x.1.depth ≤ 8 ∧ noTxt x.1 = true
theorem Paired.fst {xs : List DU1} {ys : List DU2} (h : Paired RelU xs ys) : xs.map (·.1) = ys.map (·.1) := by
  induction h with
  | nil => rfl
  | cons r t ih => rw [List.map_cons, List.map_cons, ih, r.1]
theorem Paired.memU {xs : List DU1} {ys : List DU2} (h : Paired RelU xs ys) : ∀ y ∈ ys, ∃ x ∈ xs, RelU x y := by
  induction h with
  | nil => intro y hy; cases hy
  | cons r t ih =>
    intro y hy
    rcases List.mem_cons.mp hy with rfl | hy
    · exact ⟨_, .head _, r⟩
    · obtain ⟨x, hx, e⟩ := ih y hy
      exact ⟨x, .tail _ hx, e⟩
def findU {α : Type} (xs : List (NestedKey × Addr × α)) (k : NestedKey) : Option α := (xs.find? fun x => decide (x.1 = k)).map (·.2.2)
def putU {α : Type} (xs : List (NestedKey × Addr × α)) (k : NestedKey) (b : Addr) (v : α) : List (NestedKey × Addr × α) :=
  if (findU xs k).isSome then xs.map (fun x => if x.1 = k then (x.1, x.2.1, v) else x) else xs ++ [(k, b, v)]
theorem Paired.findU {xs : List DU1} {ys : List DU2} (h : Paired RelU xs ys) (k : NestedKey) : RelO (Tl.findU xs k) ((atKey ys k).map (·.2)) := by
  induction h with
  | nil => exact True.intro
  | @cons x y xs ys r t ih =>
    obtain ⟨kx, ax, vx⟩ := x
    obtain ⟨ky, ay, vy⟩ := y
    obtain ⟨r1, r2, r3⟩ := r
    simp only at r1 r2 r3
    subst r1 r2
    unfold Tl.findU atKey at ih ⊢
    by_cases e : kx = k
    · rw [List.find?_cons_of_pos (by simpa using e), List.find?_cons_of_pos (by simpa using e)]
      exact r3
    · rw [List.find?_cons_of_neg (by simpa using e), List.find?_cons_of_neg (by simpa using e)]
      exact ih
theorem Paired.putU {xs : List DU1} {ys : List DU2} (h : Paired RelU xs ys) (k : NestedKey) (b : Addr) {v : V} {u : Value} (r : RelV v u) : Paired RelU (Tl.putU xs k b v) (storedH ys k b u) := by
  have f := Paired.findU h k
  have e : (Tl.findU xs k).isSome = (atKey ys k).isSome := by
    have := f.isSome_eq
    rw [Option.isSome_map] at this
    exact this
  unfold Tl.putU storedH
  rw [e]
  split
  · rename_i hc
    clear f e hc
    induction h with
    | nil => exact .nil
    | @cons x y xs ys r1 t ih =>
      obtain ⟨kx, ax, vx⟩ := x
      obtain ⟨ky, ay, vy⟩ := y
      obtain ⟨r1, r2, r3⟩ := r1
      simp only at r1 r2 r3
      subst r1 r2
      rw [List.map_cons, List.map_cons]
      refine .cons ?_ ih
      unfold putAt
      by_cases e : kx = k
      · rw [if_pos e, if_pos e]
        exact ⟨rfl, rfl, r⟩
      · rw [if_neg e, if_neg e]
        exact ⟨rfl, rfl, r3⟩
  · rename_i hc
    clear f e hc
    induction h with
    | nil => exact .cons ⟨rfl, rfl, r⟩ .nil
    | cons r1 t ih => exact .cons r1 ih
section
variable {X : Cx} {pins : List (Addr × Obj)} {σ : L2.St} {H : Hp} {s : Shared} {a b : Addr} {xs : List DU1} {k : NestedKey} {A : Around} {E : Value → Shared → Prop}
theorem DU_of (I : Inv X pins σ H s) (e : H a = some (DU a xs)) (ku : KeysU X.K H a xs) : ∃ ys, Paired RelU xs ys ∧ s.heap.DictOfH (nestedKind X.prog X.w) a ys ∧ ∀ y ∈ ys, noTxt y.1 = true := by
  obtain ⟨ys, o, es, ep, h1, h2, h3, h4, h5⟩ := DU_get I.hok e
  refine ⟨ys, h1, ⟨o, es, ep, h2, h3, h4, h5 X.w, fun y hy => ?_, by rw [← Paired.fst h1]; exact ku.nd⟩, fun y hy => ?_⟩
  · obtain ⟨x, hx, r1, r2, _⟩ := Paired.memU h1 y hy
    obtain ⟨q1, q2, _⟩ := ku.ks x hx
    rw [← r1, ← r2]
    exact ⟨q1.is I rfl, q2⟩
  · obtain ⟨x, hx, r1, r2, _⟩ := Paired.memU h1 y hy
    rw [← r1]
    exact (ku.ks x hx).2.2
/-- d[k], there -/
theorem u_getItem {v : V} {Q : Value → Shared → Prop} (hu : A.units + 20 < cLine) (I : Inv X pins σ H s) (e : H a = some (DU a xs)) (ku : KeysU X.K H a xs) (hk : KeyV X.K H (.ref b) k) (hd : k.depth ≤ 8) (hf : findU xs k = some v) (h : ∀ w' s', Inv X pins σ H s' → RelV v w' → Q w' s') :
    wpAny (model X.prog X.w) A (getItem (.ref a) (.ref b)) Q E s := by
  obtain ⟨ys, h1, dd, _⟩ := DU_of I e ku
  obtain ⟨w', hw, rw'⟩ := RelO.some_of (v := v) (o := (atKey ys k).map (·.2)) (by rw [← hf]; exact Paired.findU h1 k)
  obtain ⟨p, hp, hp2⟩ := Option.map_eq_some_iff.mp hw
  refine wpAny_getItem_heap (knd := nestedKind X.prog X.w) (k := k) (show A.units + 1 + 8 < cLine by omega) ⟨hk.is I rfl, hd⟩ dd hp ?_
  rw [hp2]
  exact h w' _ (I.tok _) rw'
theorem u_notIn {Q : Value → Shared → Prop} (hu : A.units + 20 < cLine) (I : Inv X pins σ H s) (e : H a = some (DU a xs)) (ku : KeysU X.K H a xs) (hk : KeyV X.K H (.ref b) k) (hd : k.depth ≤ 8) (h : ∀ s', Inv X pins σ H s' → Q (.bool (!(findU xs k).isSome)) s') :
    wpAny (model X.prog X.w) A (compareOp .NotIn (.ref b) (.ref a)) Q E s := by
  obtain ⟨ys, h1, dd, _⟩ := DU_of I e ku
  refine wpAny_notIn_heap (knd := nestedKind X.prog X.w) (k := k) (show A.units + 1 + 8 < cLine by omega) ⟨hk.is I rfl, hd⟩ ku.sm dd ?_
  have q := (Paired.findU h1 k).isSome_eq
  rw [Option.isSome_map] at q
  rw [← q]
  exact h _ (I.tok _)
/-- d[k] = v -/
theorem u_setItem {v : V} {u : Value} {Q : Unit → Shared → Prop} (hu : A.units + 20 < cLine) (I : Inv X pins σ H s) (e : H a = some (DU a xs)) (ku : KeysU X.K H a xs) (hk : KeyV X.K H (.ref b) k) (hd : k.depth ≤ 8) (hn : noTxt k = true) (hz : xs.length < sizeLine) (r : RelV v u) (h : ∀ s', Inv X pins σ (upd H a (DU a (putU xs k b v))) s' → Q () s') :
    wpAny (model X.prog X.w) A (setItem (.ref a) (.ref b) u) Q E s := by
  obtain ⟨ys, h1, dd, hnt⟩ := DU_of I e ku
  have hz2 : ys.length ≤ sizeLine := by rw [← Paired.length h1]; omega
  refine wpAny_setItem_heap (knd := nestedKind X.prog X.w) (k := k) (hsz := hz2) (show A.units + 1 + 8 < cLine by omega) ⟨hk.is I rfl, hd⟩ dd fun h' dd' hs => h _ ?_
  obtain ⟨o, es, ep, g1, g2, g3, g4, g5, g6⟩ := dd'
  refine d_write I (by rw [e]; exact True.intro) hs ⟨o, g1⟩ (phiU_ok ⟨_, o, es, ep, Paired.putU h1 k b r, g1, g2, g3, fun w => ?_⟩)
  rw [g4]
  refine List.map_congr_left fun y hy => ?_
  have hy2 : noTxt y.1 = true := by
    unfold storedH at hy
    split at hy
    · obtain ⟨z, hz, rfl⟩ := List.mem_map.mp hy
      unfold putAt
      split
      · exact hnt z hz
      · exact hnt z hz
    · rcases List.mem_append.mp hy with hy | hy
      · exact hnt y hy
      · rw [List.mem_singleton.mp hy]; exact hn
  unfold entU
  show (⟨y.1.hash X.w, _, _⟩ : DictEntry) = _
  rw [hash_any y.1 X.w w hy2]
theorem du_empty {P : Program} {w : World} {H : Hp} (h : Heap) : ObjOk P w H (h.push { cls := .type "dict", data := .dict #[] }) h.objs.size (DU h.objs.size []) :=
  phiU_ok ⟨[], _, #[], 0, .nil, Heap.get?_push_size _ rfl, ⟨rfl, rfl, rfl⟩, rfl, fun _ => rfl⟩
end
/-! ### keys as data -/
mutual
def keyN : PyData → NestedKey
  | .int i => .num i
  | .tuple ds => .tup (keyNs ds)
  | _ => .none
def keyNs : List PyData → List NestedKey
  | [] => []
  | d :: ds => keyN d :: keyNs ds
end
mutual
/-- numbers, and tuples of such -/
def keyOk : PyData → Bool
  | .int _ => true
  | .tuple ds => keyOks ds
  | _ => false
def keyOks : List PyData → Bool
  | [] => true
  | d :: ds => keyOk d && keyOks ds
end
mutual
theorem keyN_inj : ∀ (a b : PyData), keyOk a = true → keyOk b = true → keyN a = keyN b → a = b
  | .int i, b, _, hb, e => by
    cases b with
    | int j => simp only [keyN, NestedKey.num.injEq] at e; rw [e]
    | tuple ds => simp [keyN] at e
    | _ => simp [keyOk] at hb
  | .tuple ds, b, ha, hb, e => by
    cases b with
    | int j => simp [keyN] at e
    | tuple es =>
      simp only [keyN, NestedKey.tup.injEq] at e
      rw [keyOk] at ha hb
      rw [keyNs_inj ds es ha hb e]
    | _ => simp [keyOk] at hb
  | .none, _, ha, _, _ => by simp [keyOk] at ha
  | .bool _, _, ha, _, _ => by simp [keyOk] at ha
  | .str _, _, ha, _, _ => by simp [keyOk] at ha
  | .list _, _, ha, _, _ => by simp [keyOk] at ha
  | .dict _, _, ha, _, _ => by simp [keyOk] at ha
theorem keyNs_inj : ∀ (a b : List PyData), keyOks a = true → keyOks b = true → keyNs a = keyNs b → a = b
  | [], [], _, _, _ => rfl
  | [], _ :: _, _, _, e => by simp [keyNs] at e
  | _ :: _, [], _, _, e => by simp [keyNs] at e
  | a :: as, b :: bs, ha, hb, e => by
    rw [keyOks, Bool.and_eq_true] at ha hb
    simp only [keyNs, List.cons.injEq] at e
    rw [keyN_inj a b ha.1 hb.1 e.1, keyNs_inj as bs ha.2 hb.2 e.2]
end
mutual
theorem keyN_noTxt : ∀ (d : PyData), keyOk d = true → noTxt (keyN d) = true
  | .int i, _ => by rw [keyN, noTxt]
  | .tuple ds, h => by rw [keyN, noTxt]; rw [keyOk] at h; exact keyNs_noTxt ds h
  | .none, h => by simp [keyOk] at h
  | .bool _, h => by simp [keyOk] at h
  | .str _, h => by simp [keyOk] at h
  | .list _, h => by simp [keyOk] at h
  | .dict _, h => by simp [keyOk] at h
theorem keyNs_noTxt : ∀ (ds : List PyData), keyOks ds = true → noTxts (keyNs ds) = true
  | [], _ => by rw [keyNs, noTxts]
  | d :: ds, h => by
    rw [keyOks, Bool.and_eq_true] at h
    rw [keyNs, noTxts, keyN_noTxt d h.1, keyNs_noTxt ds h.2]
    rfl
end
mutual
theorem keyN_depth : ∀ (d : PyData), (keyN d).depth ≤ d.depth
  | .int i => by rw [keyN, NestedKey.depth]; exact Nat.zero_le _
  | .tuple ds => by
    rw [keyN, NestedKey.depth, PyData.depth]
    have := keyNs_depth ds
    omega
  | .none => by rw [keyN, NestedKey.depth]; exact Nat.zero_le _; all_goals simp
  | .bool _ => by rw [keyN, NestedKey.depth]; exact Nat.zero_le _; all_goals simp
  | .str _ => by rw [keyN, NestedKey.depth]; exact Nat.zero_le _; all_goals simp
  | .list _ => by rw [keyN, NestedKey.depth]; exact Nat.zero_le _; all_goals simp
  | .dict _ => by rw [keyN, NestedKey.depth]; exact Nat.zero_le _; all_goals simp
theorem keyNs_depth : ∀ (ds : List PyData), NestedKey.depthAll (keyNs ds) ≤ PyData.depthAll ds
  | [] => by rw [keyNs, NestedKey.depthAll]; exact Nat.zero_le _
  | d :: ds => by
    have h1 := keyN_depth d
    have h2 := keyNs_depth ds
    rw [keyNs, NestedKey.depthAll, PyData.depthAll]
    omega
end
end Tl
set_option Elab.async false
set_option linter.all false
set_option maxRecDepth 100000
set_option maxHeartbeats 4000000
/-! A second layer over the hand layer: values are data or named objects; a memory M tells the objects that may change, all else is data for good. -/
namespace Tl
open PySem L2
mutual
/-- data at v, as F knows it; the empty dict may stand anywhere -/
inductive Dx (K : PySem.W.Frag) (F : Hp) : V → PyData → Prop
  | non : Dx K F .non .none
  | bl (b : Bool) : Dx K F (.bl b) (.bool b)
  | int (i : Int) : Dx K F (.int i) (.int i)
  | str (x : Str) : Dx K F (.str x) (.str x)
  | lst {a : Addr} {xs : List V} {ds : List PyData} : F a = some (.lst xs) → DxL K F xs ds → Dx K F (.ref a) (.list ds)
  | tup {a : Addr} {xs : List V} {ds : List PyData} : SqT K F a xs → DxL K F xs ds → Dx K F (.ref a) (.tuple ds)
  | dic {a : Addr} : F a = some (.dK []) → Dx K F (.ref a) (.dict [])
inductive DxL (K : PySem.W.Frag) (F : Hp) : List V → List PyData → Prop
  | nil : DxL K F [] []
  | cons {v : V} {vs : List V} {d : PyData} {ds : List PyData} : Dx K F v d → DxL K F vs ds → DxL K F (v :: vs) (d :: ds)
end
/-- one of two, by a truth -/
inductive IfB (c : Bool) (A B : Prop) : Prop where
  | t (h : c = true) (q : A) : IfB c A B
  | f (h : c = false) (q : B) : IfB c A B
theorem IfB.ite {c : Bool} {A B : Prop} (h : IfB c A B) : if c = true then A else B := by
  cases h with
  | t h q => rw [if_pos h]; exact q
  | f h q => rw [h, if_neg Bool.false_ne_true]; exact q
theorem IfB.of {c : Bool} {A B : Prop} (h1 : c = true → A) (h2 : c = false → B) : IfB c A B := by
  cases c with
  | true => exact .t rfl (h1 rfl)
  | false => exact .f rfl (h2 rfl)
theorem IfB.d {p A B : Prop} [Decidable p] (h1 : p → A) (h2 : ¬ p → B) : IfB (decide p) A B := IfB.of (fun h => h1 (of_decide_eq_true h)) fun h => h2 (of_decide_eq_false h)
theorem IfB.n {p A B : Prop} [Decidable p] (h1 : ¬ p → B) (h2 : p → A) : IfB (decide p) A B := IfB.d h2 h1
theorem IfB.not {c : Bool} {A B : Prop} (h : IfB c B A) : IfB (!c) A B := by
  cases h with
  | t h q => exact .f (by rw [h]; rfl) q
  | f h q => exact .t (by rw [h]; rfl) q
def ng : Bool → Bool → Bool
  | true, b => !b
  | false, b => b
theorem IfB.ngt {c : Bool} {A B : Prop} (h : IfB c B A) : IfB (ng true c) A B := h.not
theorem IfB.ngf {c : Bool} {A B : Prop} (h : IfB c A B) : IfB (ng false c) A B := h
theorem IfB.yes {p A B : Prop} [Decidable p] (h : p) (q : A) : IfB (decide p) A B := .t (decide_eq_true h) q
theorem IfB.no {p A B : Prop} [Decidable p] (h : ¬ p) (q : B) : IfB (decide p) A B := .f (decide_eq_false h) q
/-- a value -/
inductive W where
  | d (x : PyData)
  | r (a : Addr)
  | o (v : V)
  /-- a caught error: where it stands, its class, its dict, its fields -/
  | x (a C : Addr) (dd : Option Addr) (fs : List (Str × PyData))
/-- an object that may change -/
inductive MO where
  | lst (ws : List W)
  | src (b : Bool)
  | dK (kvs : List (Key × W))
  /-- a dict keyed by numbers in tuples -/
  | dT (kvs : List (PyData × W))
  | ins (C dx : Addr) (fs : List (Str × W))
  | exc (C : Addr) (dd : Option Addr)
  /-- a dict while it is walked -/
  | lkK (ob : Obj) (kv : List (Key × V)) (kvs : List (Key × W))
  /-- the table of a def's own code: what it tells bears the name q -/
  | tab (q : Str)
abbrev Mem := Addr → Option MO
abbrev EnvD := List (Option W)
def mset (M : Mem) (a : Addr) (o : MO) : Mem := fun b => if b = a then some o else M b
def mdel (M : Mem) (a : Addr) : Mem := fun b => if b = a then none else M b
theorem mset_same {M : Mem} {a : Addr} {o : MO} : mset M a o a = some o := if_pos rfl
theorem mset_ne {M : Mem} {a b : Addr} {o : MO} (h : b ≠ a) : mset M a o b = M b := if_neg h
theorem mdel_same {M : Mem} {a : Addr} : mdel M a a = none := if_pos rfl
theorem mdel_ne {M : Mem} {a b : Addr} (h : b ≠ a) : mdel M a b = M b := if_neg h
theorem mset_mset {M : Mem} {a : Addr} {o u : MO} : mset (mset M a o) a u = mset M a u := by
  funext b
  by_cases h : b = a
  · rw [h, mset_same, mset_same]
  · rw [mset_ne h, mset_ne h, mset_ne h]
theorem mdel_mset {M : Mem} {a : Addr} {o : MO} : mdel (mset M a o) a = mdel M a := by
  funext b
  by_cases h : b = a
  · rw [h, mdel_same, mdel_same]
  · rw [mdel_ne h, mdel_ne h, mset_ne h]
theorem mdel_none {M : Mem} {a : Addr} (h : M a = none) : mdel M a = M := by
  funext b; unfold mdel; split
  · rename_i e; rw [e, h]
  · rfl
theorem mset_id {M : Mem} {a : Addr} {o : MO} (h : M a = some o) : mset M a o = M := by
  funext b; unfold mset; split
  · rename_i e; rw [e, h]
  · rfl
mutual
theorem Dx.mono {K : PySem.W.Frag} {H H' : Hp} (e : Same H H') : ∀ (d : PyData) (v : V), Dx K H v d → Dx K H' v d
  | .none, _, h => by cases h; exact .non
  | .bool b, _, h => by cases h; exact .bl b
  | .int i, _, h => by cases h; exact .int i
  | .str x, _, h => by cases h; exact .str x
  | .list ds, _, h => by
    cases h with
    | lst hs ha => exact .lst (e _ _ hs) (DxL.mono e ds _ ha)
  | .tuple ds, _, h => by
    cases h with
    | tup hs ha => exact .tup (same_t e hs) (DxL.mono e ds _ ha)
  | .dict _, _, h => by cases h with | dic h => exact .dic (e _ _ h)
theorem DxL.mono {K : PySem.W.Frag} {H H' : Hp} (e : Same H H') : ∀ (ds : List PyData) (vs : List V), DxL K H vs ds → DxL K H' vs ds
  | [], _, h => by cases h; exact .nil
  | d :: ds, _, h => by
    cases h with
    | cons h1 h2 => exact .cons (Dx.mono e d _ h1) (DxL.mono e ds _ h2)
end
mutual
/-- no list within -/
def noL : PyData → Bool
  | .list _ => false
  | .tuple ds => noLs ds
  | _ => true
def noLs : List PyData → Bool
  | [] => true
  | d :: ds => noL d && noLs ds
end
mutual
theorem Dx.of {K : PySem.W.Frag} {H : Hp} : ∀ (d : PyData) (v : V), Dp K H v d → noL d = true → Dx K H v d
  | .none, _, h, _ => by cases h; exact .non
  | .bool b, _, h, _ => by cases h; exact .bl b
  | .int i, _, h, _ => by cases h; exact .int i
  | .str x, _, h, _ => by cases h; exact .str x
  | .list ds, _, h, n => by rw [noL] at n; cases n
  | .tuple ds, _, h, n => by
    cases h with
    | tup hs ha => exact .tup hs (DxL.of ds _ ha (by rw [noL] at n; exact n))
  | .dict _, _, h, _ => by cases h
theorem DxL.of {K : PySem.W.Frag} {H : Hp} : ∀ (ds : List PyData) (vs : List V), DpAll K H vs ds → noLs ds = true → DxL K H vs ds
  | [], _, h, _ => by cases h; exact .nil
  | d :: ds, _, h, n => by
    rw [noLs, Bool.and_eq_true] at n
    cases h with
    | cons h1 h2 => exact .cons (Dx.of d _ h1 n.1) (DxL.of ds _ h2 n.2)
end
mutual
theorem Dx.dp {K : PySem.W.Frag} {H : Hp} : ∀ (d : PyData) (v : V), Dx K H v d → d.hasDict = false → Dp K H v d
  | .none, _, h, _ => by cases h; exact .non
  | .bool b, _, h, _ => by cases h; exact .bl b
  | .int i, _, h, _ => by cases h; exact .int i
  | .str x, _, h, _ => by cases h; exact .str x
  | .list ds, _, h, n => by
    cases h with
    | lst hs ha => exact .lst (SqL.of hs) (DxL.dp ds _ ha (by rw [PyData.hasDict] at n; exact n))
  | .tuple ds, _, h, n => by
    cases h with
    | tup hs ha => exact .tup hs (DxL.dp ds _ ha (by rw [PyData.hasDict] at n; exact n))
  | .dict _, _, h, n => by rw [PyData.hasDict] at n; cases n
theorem DxL.dp {K : PySem.W.Frag} {H : Hp} : ∀ (ds : List PyData) (vs : List V), DxL K H vs ds → PyData.hasDictAll ds = false → DpAll K H vs ds
  | [], _, h, _ => by cases h; exact .nil
  | d :: ds, _, h, n => by
    rw [PyData.hasDictAll, Bool.or_eq_false_iff] at n
    cases h with
    | cons h1 h2 => exact .cons (Dx.dp d _ h1 n.1) (DxL.dp ds _ h2 n.2)
end
theorem DxL.len {K : PySem.W.Frag} {H : Hp} : ∀ {vs : List V} {ds : List PyData}, DxL K H vs ds → vs.length = ds.length
  | _, _, .nil => rfl
  | _, _, .cons _ h => by rw [List.length_cons, List.length_cons, DxL.len h]
theorem DxL.got {K : PySem.W.Frag} {H : Hp} : ∀ {vs : List V} {ds : List PyData} {i : Nat} {d : PyData}, DxL K H vs ds → ds[i]? = some d → ∃ v, vs[i]? = some v ∧ Dx K H v d
  | _, _, _, _, .nil, e => by simp at e
  | _, _, 0, _, .cons h _, e => by simp at e; subst e; exact ⟨_, rfl, h⟩
  | _, _, i + 1, d, .cons _ h, e => by
    obtain ⟨v, h1, h2⟩ := DxL.got (i := i) (d := d) h (by simpa using e)
    exact ⟨v, by simpa using h1, h2⟩
theorem DxL.app {K : PySem.W.Frag} {H : Hp} : ∀ {vs ws : List V} {ds es : List PyData}, DxL K H vs ds → DxL K H ws es → DxL K H (vs ++ ws) (ds ++ es)
  | _, _, _, _, .nil, h => h
  | _, _, _, _, .cons a b, h => .cons a (DxL.app b h)
theorem DxL.take {K : PySem.W.Frag} {H : Hp} : ∀ {vs : List V} {ds : List PyData} (n : Nat), DxL K H vs ds → DxL K H (vs.take n) (ds.take n)
  | _, _, 0, _ => .nil
  | _, _, _ + 1, .nil => .nil
  | _, _, n + 1, .cons a b => .cons a (DxL.take n b)
theorem DxL.drop {K : PySem.W.Frag} {H : Hp} : ∀ {vs : List V} {ds : List PyData} (n : Nat), DxL K H vs ds → DxL K H (vs.drop n) (ds.drop n)
  | _, _, 0, h => h
  | _, _, _ + 1, .nil => .nil
  | _, _, n + 1, .cons a b => DxL.drop n b
theorem DxL.rep {K : PySem.W.Frag} {H : Hp} {vs : List V} {ds : List PyData} (h : DxL K H vs ds) : ∀ n : Nat, DxL K H (List.replicate n vs).flatten (List.replicate n ds).flatten
  | 0 => .nil
  | n + 1 => by
    rw [List.replicate_succ, List.replicate_succ, List.flatten_cons, List.flatten_cons]
    exact DxL.app h (DxL.rep h n)
/-- an error's fields stand in its dict -/
def FX (K : PySem.W.Frag) (F : Hp) (d : Option Addr) (fs : List (Str × PyData)) : Prop := match d with
  | none => fs = []
  | some dd => ∃ fv, F dd = some (.xd fv) ∧ fv.map (·.1) = fs.map (·.1) ∧ DxL K F (fv.map (·.2)) (fs.map (·.2))
theorem FX.mono {K : PySem.W.Frag} {F F' : Hp} (e : Same F F') {d : Option Addr} {fs : List (Str × PyData)} (h : FX K F d fs) : FX K F' d fs := by
  cases d with
  | none => exact h
  | some dd =>
    obtain ⟨fv, h1, h2, h3⟩ := h
    exact ⟨fv, e _ _ h1, h2, DxL.mono e _ _ h3⟩
/-- v is the value x -/
inductive RW (K : PySem.W.Frag) (F : Hp) : V → W → Prop
  | d {v : V} {x : PyData} : Dx K F v x → RW K F v (.d x)
  | r (a : Addr) : RW K F (.ref a) (.r a)
  | o (v : V) : RW K F v (.o v)
  | x {a C : Addr} {dd : Option Addr} {fs : List (Str × PyData)} : FX K F dd fs → RW K F (.ref a) (.x a C dd fs)
inductive RWs (K : PySem.W.Frag) (F : Hp) : List V → List W → Prop
  | nil : RWs K F [] []
  | cons {v : V} {vs : List V} {x : W} {xs : List W} : RW K F v x → RWs K F vs xs → RWs K F (v :: vs) (x :: xs)
section
variable {K : PySem.W.Frag} {F F' H H' : Hp}
theorem RW.mono (e : Same F F') {v : V} {x : W} (h : RW K F v x) : RW K F' v x := by
  cases h with
  | d h => exact .d (Dx.mono e _ _ h)
  | r a => exact .r a
  | o v => exact .o v
  | x h => exact .x (h.mono e)
theorem RWs.mono (e : Same F F') : ∀ {vs : List V} {xs : List W}, RWs K F vs xs → RWs K F' vs xs
  | _, _, .nil => .nil
  | _, _, .cons h t => .cons (h.mono e) (t.mono e)
theorem RWs.len : ∀ {vs : List V} {xs : List W}, RWs K F vs xs → vs.length = xs.length
  | _, _, .nil => rfl
  | _, _, .cons _ t => by rw [List.length_cons, List.length_cons, t.len]
theorem RWs.got : ∀ {vs : List V} {xs : List W} {i : Nat} {x : W}, RWs K F vs xs → xs[i]? = some x → ∃ v, vs[i]? = some v ∧ RW K F v x
  | _, _, _, _, .nil, e => by simp at e
  | _, _, 0, _, .cons h _, e => by simp at e; subst e; exact ⟨_, rfl, h⟩
  | _, _, i + 1, x, .cons _ h, e => by
    obtain ⟨v, h1, h2⟩ := RWs.got (i := i) (x := x) h (by simpa using e)
    exact ⟨v, by simpa using h1, h2⟩
theorem RWs.app : ∀ {vs ws : List V} {xs ys : List W}, RWs K F vs xs → RWs K F ws ys → RWs K F (vs ++ ws) (xs ++ ys)
  | _, _, _, _, .nil, h => h
  | _, _, _, _, .cons a b, h => .cons a (RWs.app b h)
theorem RWs.take : ∀ {vs : List V} {xs : List W} (n : Nat), RWs K F vs xs → RWs K F (vs.take n) (xs.take n)
  | _, _, 0, _ => .nil
  | _, _, _ + 1, .nil => .nil
  | _, _, n + 1, .cons a b => .cons a (RWs.take n b)
theorem RWs.drop : ∀ {vs : List V} {xs : List W} (n : Nat), RWs K F vs xs → RWs K F (vs.drop n) (xs.drop n)
  | _, _, 0, h => h
  | _, _, _ + 1, .nil => .nil
  | _, _, n + 1, .cons a b => RWs.drop n b
theorem RWs.set {v : V} {x : W} (h : RW K F v x) : ∀ {vs : List V} {xs : List W} (n : Nat), RWs K F vs xs → RWs K F (vs.set n v) (xs.set n x)
  | _, _, _, .nil => .nil
  | _, _, 0, .cons _ t => .cons h t
  | _, _, n + 1, .cons a t => .cons a (RWs.set h n t)
theorem RWs.dat : ∀ {vs : List V} {ds : List PyData}, DxL K F vs ds → RWs K F vs (ds.map W.d)
  | _, _, .nil => .nil
  | _, _, .cons a b => .cons (.d a) (RWs.dat b)
theorem RWs.undat : ∀ {ds : List PyData} {vs : List V}, RWs K F vs (ds.map W.d) → DxL K F vs ds
  | [], _, h => by cases h; exact .nil
  | d :: ds, _, h => by
    cases h with
    | cons a b =>
      cases a with
      | d a => exact .cons a (RWs.undat b)
end
/-- the law's own source of numbers: its cells, three numbers -/
def SrcV (K : PySem.W.Frag) (F : Hp) (b : Bool) (vs : List V) : Prop := ∃ (c : Addr) (cs : List Int) (i p z : Int), vs = [.ref c, .int i, .int p, .int z] ∧ SqL K F c (cs.map V.int) ∧ cs.length ≤ 63 ∧ (b = true → 0 < cs.length) ∧ 0 ≤ i ∧ 0 ≤ p ∧ 0 ≤ z ∧ z < (if b = true then 2147483647 else 2305843009213693951)
theorem SrcV.mono {K : PySem.W.Frag} {F F' : Hp} (e : Same F F') {b : Bool} {vs : List V} (h : SrcV K F b vs) : SrcV K F' b vs := by
  obtain ⟨c, cs, i, p, z, h1, h2, h3⟩ := h
  exact ⟨c, cs, i, p, z, h1, same_l e h2, h3⟩
def PrR {κ : Type} (K : PySem.W.Frag) (F : Hp) (kv : List (κ × V)) (kw : List (κ × W)) : Prop := kv.map (·.1) = kw.map (·.1) ∧ RWs K F (kv.map (·.2)) (kw.map (·.2))
theorem PrR.mono {κ : Type} {K : PySem.W.Frag} {F F' : Hp} (e : Same F F') {kv : List (κ × V)} {kw : List (κ × W)} (h : PrR K F kv kw) : PrR K F' kv kw := ⟨h.1, h.2.mono e⟩
mutual
theorem KeyV.mono {K : PySem.W.Frag} {F F' : Hp} (e : Same F F') : ∀ (k : NestedKey) (v : V), KeyV K F v k → KeyV K F' v k
  | .num i, _, h => by cases h; exact .int i
  | .tup ks, _, h => by
    cases h with
    | tup hs hr => exact .tup (same_t e hs) (KeyVs.mono e ks _ hr)
  | .none, _, h => by cases h
  | .text _, _, h => by cases h
theorem KeyVs.mono {K : PySem.W.Frag} {F F' : Hp} (e : Same F F') : ∀ (ks : List NestedKey) (vs : List V), KeyVs K F vs ks → KeyVs K F' vs ks
  | [], _, h => by cases h; exact .nil
  | k :: ks, _, h => by
    cases h with
    | cons a b => exact .cons (KeyV.mono e k _ a) (KeyVs.mono e ks _ b)
end
theorem KeysU.mono {K : PySem.W.Frag} {F F' : Hp} (e : Same F F') {a : Addr} {xs : List DU1} (h : KeysU K F a xs) : KeysU K F' a xs :=
  ⟨h.sm, h.sz, h.nd, fun x hx => ⟨KeyV.mono e _ _ (h.ks x hx).1, (h.ks x hx).2⟩⟩
mutual
theorem keyV_of {K : PySem.W.Frag} {F : Hp} : ∀ (d : PyData) (v : V), Dx K F v d → keyOk d = true → KeyV K F v (keyN d)
  | .int i, _, h, _ => by cases h; rw [keyN]; exact .int i
  | .tuple ds, _, h, k => by
    cases h with
    | tup hs hr => rw [keyN]; exact .tup hs (keyVs_of ds _ hr (by rw [keyOk] at k; exact k))
  | .none, _, _, h => by simp [keyOk] at h
  | .bool _, _, _, h => by simp [keyOk] at h
  | .str _, _, _, h => by simp [keyOk] at h
  | .list _, _, _, h => by simp [keyOk] at h
  | .dict _, _, _, h => by simp [keyOk] at h
theorem keyVs_of {K : PySem.W.Frag} {F : Hp} : ∀ (ds : List PyData) (vs : List V), DxL K F vs ds → keyOks ds = true → KeyVs K F vs (keyNs ds)
  | [], _, h, _ => by cases h; rw [keyNs]; exact .nil
  | d :: ds, _, h, k => by
    cases h with
    | cons a b =>
      rw [keyOks, Bool.and_eq_true] at k
      rw [keyNs]
      exact .cons (keyV_of d _ a k.1) (keyVs_of ds _ b k.2)
end
/-- a table of a def's code: each code object in it is data, of the name q -/
def TabO (F : Hp) (u : HO) (q : Str) : Prop := ∃ ps : Array Value, u = .tbl ps ∧ TriplesOk ps.toList ∧
  ∀ (z : Pos) (x : Value), codeAmong z ps.toList = some x → ∃ b, x = .ref b ∧ F b = some (LamX.CodeO b q)
theorem TabO.mono {F F' : Hp} (e : Same F F') {u : HO} {q : Str} (h : TabO F u q) : TabO F' u q := by
  obtain ⟨ps, h1, h2, h3⟩ := h
  refine ⟨ps, h1, h2, fun z x hx => ?_⟩
  obtain ⟨b, e1, e2⟩ := h3 z x hx
  exact ⟨b, e1, e _ _ e2⟩
/-- what stands there is the object o -/
def OR (K : PySem.W.Frag) (F : Hp) (a : Addr) (u : HO) : MO → Prop
  | .lst ws => ∃ vs, u = .lst vs ∧ RWs K F vs ws
  | .src b => ∃ vs, u = .lst vs ∧ SrcV K F b vs
  | .dK kw => ∃ kv, u = .dK kv ∧ PrR K F kv kw
  | .dT kw => ∃ xs : List DU1, u = DU a xs ∧ KeysU K F a xs ∧ xs.map (·.1) = kw.map (fun x => keyN x.1) ∧ (∀ x ∈ kw, keyOk x.1 = true) ∧ RWs K F (xs.map (·.2.2)) (kw.map (·.2))
  | .ins C dx fw => ∃ fv, u = .ins C dx fv ∧ PrR K F fv fw
  | .exc C dd => u = CgO (.ref C) dd a
  | .lkK ob kv kw => u = .frz ob (.dK kv) ∧ PrR K F kv kw
  | .tab q => TabO F u q
theorem OR.mono {K : PySem.W.Frag} {F F' : Hp} (e : Same F F') {a : Addr} {u : HO} {o : MO} (h : OR K F a u o) : OR K F' a u o := by
  cases o with
  | lst ws =>
    obtain ⟨vs, h1, h2⟩ := h
    exact ⟨vs, h1, h2.mono e⟩
  | src b =>
    obtain ⟨vs, h1, h2⟩ := h
    exact ⟨vs, h1, h2.mono e⟩
  | dK kw =>
    obtain ⟨vs, h1, h2⟩ := h
    exact ⟨vs, h1, h2.mono e⟩
  | dT kw =>
    obtain ⟨vs, h1, h2, h3, h4, h5⟩ := h
    exact ⟨vs, h1, h2.mono e, h3, h4, h5.mono e⟩
  | ins C dx fw =>
    obtain ⟨vs, h1, h2⟩ := h
    exact ⟨vs, h1, h2.mono e⟩
  | exc C dd => exact h
  | lkK ob kv kw => exact ⟨h.1, h.2.mono e⟩
  | tab q => exact TabO.mono e h
/-- F: what is data for good; M: what may change; H: what stands there -/
structure Rl (K : PySem.W.Frag) (F H : Hp) (M : Mem) : Prop where
  fh : Same F H
  mf : ∀ a o, M a = some o → F a = none
  at_ : ∀ a o, M a = some o → ∃ u, H a = some u ∧ OR K F a u o
/-- from one state to a later one: what is neither data nor told by M stays as it is -/
structure Gr (F H : Hp) (M : Mem) (F' H' : Hp) (M' : Mem) : Prop where
  ff : Same F F'
  un : ∀ b u, H b = some u → M b = none → H' b = some u ∧ M' b = none
  nf : ∀ b u, H b = some u → M b = none → F b = none → F' b = none
theorem Gr.refl {F H : Hp} {M : Mem} : Gr F H M F H M := ⟨Same.refl _, fun _ _ h n => ⟨h, n⟩, fun _ _ _ _ h => h⟩
theorem Gr.trans {F H F1 H1 F2 H2 : Hp} {M M1 M2 : Mem} (a : Gr F H M F1 H1 M1) (b : Gr F1 H1 M1 F2 H2 M2) : Gr F H M F2 H2 M2 :=
  ⟨a.ff.trans b.ff, fun c u h n => b.un c u (a.un c u h n).1 (a.un c u h n).2, fun c u h n f => b.nf c u (a.un c u h n).1 (a.un c u h n).2 (a.nf c u h n f)⟩
section
variable {K : PySem.W.Frag} {F H : Hp} {M : Mem}
theorem Rl.there (h : Rl K F H M) {a : Addr} {o : MO} (e : M a = some o) : ∃ u, H a = some u := by
  obtain ⟨u, h1, _⟩ := h.at_ a o e
  exact ⟨u, h1⟩
theorem Rl.new (h : Rl K F H M) {p : Addr} (e : H p = none) : M p = none := by
  cases c : M p with
  | none => rfl
  | some o =>
    obtain ⟨u, h1, _⟩ := h.at_ p o c
    rw [e] at h1
    cases h1
theorem Rl.step (h : Rl K F H M) {F' H' : Hp} (ff : Same F F') (fh : Same F' H') (hm : ∀ a o, M a = some o → H' a = H a ∧ F' a = none) : Rl K F' H' M :=
  ⟨fh, fun a o e => (hm a o e).2, fun a o e => by
    obtain ⟨u, h1, h2⟩ := h.at_ a o e
    exact ⟨u, by rw [(hm a o e).1]; exact h1, h2.mono ff⟩⟩
/-- the heap grows by what nobody tells of -/
theorem Rl.same (h : Rl K F H M) {H' : Hp} (e : Same H H') : Rl K F H' M ∧ Gr F H M F H' M := by
  refine ⟨h.step (Same.refl _) (h.fh.trans e) fun a o c => ?_, Same.refl _, fun b u c n => ⟨e b u c, n⟩, fun _ _ _ _ f => f⟩
  obtain ⟨u, hu⟩ := h.there c
  exact ⟨by rw [hu]; exact e a u hu, h.mf a o c⟩
/-- a new thing that stays as it is -/
theorem Rl.fresh (h : Rl K F H M) {p : Addr} {u : HO} (e : H p = none) : Rl K (upd F p u) (upd H p u) M ∧ Gr F H M (upd F p u) (upd H p u) M := by
  have g := Gw.new (o := u) h.fh e
  refine ⟨h.step g.ff g.fh fun a o c => ?_, g.ff, fun b v c n => ⟨g.hh b v c, n⟩, fun b v c n f => ?_⟩
  · obtain ⟨v, hv⟩ := h.there c
    have n : a ≠ p := ne_of_none hv e
    exact ⟨upd_ne n, by rw [upd_ne n]; exact h.mf a o c⟩
  · rw [upd_ne (ne_of_none c e)]
    exact f
/-- a new object that may change -/
theorem Rl.born (h : Rl K F H M) {p : Addr} {u : HO} {o : MO} (e : H p = none) (r : OR K F p u o) : Rl K F (upd H p u) (mset M p o) ∧ Gr F H M F (upd H p u) (mset M p o) := by
  have fp := h.fh.free e
  refine ⟨⟨same_mut h.fh fp, fun a o' c => ?_, fun a o' c => ?_⟩, Same.refl _, fun b v c n => ?_, fun _ _ _ _ f => f⟩
  · by_cases z : a = p
    · rw [z]; exact fp
    · rw [mset_ne z] at c; exact h.mf a o' c
  · by_cases z : a = p
    · subst z
      rw [mset_same] at c
      cases c
      exact ⟨u, upd_same, r⟩
    · rw [mset_ne z] at c
      rw [upd_ne z]
      exact h.at_ a o' c
  · have z : b ≠ p := ne_of_none c e
    rw [upd_ne z, mset_ne z]
    exact ⟨c, n⟩
/-- an object changes -/
theorem Rl.put (h : Rl K F H M) {p : Addr} {u : HO} {o o' : MO} (e : M p = some o') (r : OR K F p u o) : Rl K F (upd H p u) (mset M p o) ∧ Gr F H M F (upd H p u) (mset M p o) := by
  have fp := h.mf p o' e
  refine ⟨⟨same_mut h.fh fp, fun a o' c => ?_, fun a o' c => ?_⟩, Same.refl _, fun b v c n => ?_, fun _ _ _ _ f => f⟩
  · by_cases z : a = p
    · rw [z]; exact fp
    · rw [mset_ne z] at c; exact h.mf a o' c
  · by_cases z : a = p
    · subst z
      rw [mset_same] at c
      cases c
      exact ⟨u, upd_same, r⟩
    · rw [mset_ne z] at c
      rw [upd_ne z]
      exact h.at_ a o' c
  · have z : b ≠ p := fun z => by rw [z, e] at n; cases n
    rw [upd_ne z, mset_ne z]
    exact ⟨c, n⟩
/-- a list of data is data from now on -/
theorem Rl.freeze (h : Rl K F H M) {p : Addr} {ds : List PyData} (e : M p = some (.lst (ds.map W.d))) : ∃ F', Rl K F' H (mdel M p) ∧ Gr F H M F' H (mdel M p) ∧ Dx K F' (.ref p) (.list ds) := by
  obtain ⟨_, h1, vs, rfl, h2⟩ := h.at_ p _ e
  have fp := h.mf p _ e
  have ff : Same F (upd F p (.lst vs)) := same_new fp
  have r : DxL K F vs ds := RWs.undat h2
  refine ⟨upd F p (.lst vs), ⟨fun b u q => ?_, fun a o c => ?_, fun a o c => ?_⟩, ⟨ff, fun b v c n => ⟨c, ?_⟩, fun b v c n f => ?_⟩, .lst upd_same (DxL.mono ff _ _ r)⟩
  · by_cases z : b = p
    · subst z
      rw [upd_same] at q
      rw [h1]
      exact q
    · rw [upd_ne z] at q
      exact h.fh b u q
  · have z : a ≠ p := fun z => by rw [z, mdel_same] at c; cases c
    rw [mdel_ne z] at c
    rw [upd_ne z]
    exact h.mf a o c
  · have z : a ≠ p := fun z => by rw [z, mdel_same] at c; cases c
    rw [mdel_ne z] at c
    obtain ⟨u, g1, g2⟩ := h.at_ a o c
    exact ⟨u, g1, g2.mono ff⟩
  · by_cases z : b = p
    · rw [z]; exact mdel_same
    · rw [mdel_ne z]; exact n
  · have z : b ≠ p := fun z => by rw [z, e] at n; cases n
    rw [upd_ne z]
    exact f
/-- an object that is not looked at any more -/
theorem Rl.drop (h : Rl K F H M) (p : Addr) : Rl K F H (mdel M p) ∧ Gr F H M F H (mdel M p) := by
  refine ⟨⟨h.fh, fun a o c => ?_, fun a o c => ?_⟩, Same.refl _, fun b v c n => ⟨c, ?_⟩, fun b v c n f => f⟩
  · have z : a ≠ p := fun z => by rw [z, mdel_same] at c; cases c
    rw [mdel_ne z] at c
    exact h.mf a o c
  · have z : a ≠ p := fun z => by rw [z, mdel_same] at c; cases c
    rw [mdel_ne z] at c
    exact h.at_ a o c
  · by_cases z : b = p
    · rw [z]; exact mdel_same
    · rw [mdel_ne z]; exact n
/-- the heap of a thing nobody tells of changes (an object made in between, not told by M, not data) -/
theorem Rl.hid (h : Rl K F H M) {p : Addr} {u : HO} (hf : F p = none) (hm : M p = none) : Rl K F (upd H p u) M :=
  h.step (Same.refl _) (same_mut h.fh hf) fun a o c => ⟨upd_ne (fun z => by rw [z, hm] at c; cases c), h.mf a o c⟩
end
/-! ### slots -/
@[reducible] def slot : EnvD → Nat → Option W
  | [], _ => none
  | x :: _, 0 => x
  | _ :: r, n + 1 => slot r n
@[reducible] def put : EnvD → Nat → Option W → EnvD
  | [], _, _ => []
  | _ :: r, 0, w => w :: r
  | x :: r, n + 1, w => x :: put r n w
theorem put_len : ∀ (ρ : EnvD) (i : Nat) (w : Option W), (put ρ i w).length = ρ.length
  | [], _, _ => rfl
  | _ :: r, 0, _ => rfl
  | _ :: r, n + 1, w => congrArg (· + 1) (put_len r n w)
theorem slot_put : ∀ {ρ : EnvD} {i : Nat} {w : Option W} {x : W}, slot (put ρ i w) i = some x → w = some x ∧ i < ρ.length
  | [], _, _, _, h => by cases h
  | _ :: r, 0, _, _, h => ⟨h, Nat.succ_pos _⟩
  | _ :: r, n + 1, w, x, h => by
    obtain ⟨h1, h2⟩ := slot_put (ρ := r) (i := n) h
    exact ⟨h1, Nat.succ_lt_succ h2⟩
theorem slot_put_ne : ∀ {ρ : EnvD} {i j : Nat} {w : Option W}, j ≠ i → slot (put ρ i w) j = slot ρ j
  | [], _, _, _, _ => rfl
  | _ :: r, 0, 0, _, h => absurd rfl h
  | _ :: r, 0, j + 1, _, _ => rfl
  | _ :: r, n + 1, 0, w, h => rfl
  | _ :: r, n + 1, j + 1, w, h => slot_put_ne (ρ := r) fun z => h (by rw [z])
structure RelS (K : PySem.W.Frag) (F : Hp) (σ : L2.St) (ρ : EnvD) : Prop where
  len : σ.length = ρ.length
  at_ : ∀ i x, slot ρ i = some x → ∃ v, σ[i]? = some (some v) ∧ RW K F v x
section
variable {K : PySem.W.Frag} {F F' : Hp} {σ : L2.St} {ρ : EnvD}
theorem RelS.mono (e : Same F F') (h : RelS K F σ ρ) : RelS K F' σ ρ := ⟨h.len, fun i x c => by
  obtain ⟨v, h1, h2⟩ := h.at_ i x c
  exact ⟨v, h1, h2.mono e⟩⟩
theorem RelS.set (h : RelS K F σ ρ) {v : V} {x : W} (r : RW K F v x) (i : Nat) : RelS K F (σ.set i (some v)) (put ρ i (some x)) := by
  refine ⟨by rw [List.length_set, put_len]; exact h.len, fun j y c => ?_⟩
  by_cases z : j = i
  · subst z
    obtain ⟨h1, h2⟩ := slot_put c
    cases h1
    exact ⟨v, by rw [List.getElem?_set_self (by rw [h.len]; exact h2)], r⟩
  · rw [slot_put_ne z] at c
    rw [List.getElem?_set_ne (fun q => z q.symm)]
    exact h.at_ j y c
theorem RelS.del (h : RelS K F σ ρ) (i : Nat) (w : Option V) : RelS K F (σ.set i w) (put ρ i none) := by
  refine ⟨by rw [List.length_set, put_len]; exact h.len, fun j y c => ?_⟩
  by_cases z : j = i
  · subst z
    obtain ⟨h1, h2⟩ := slot_put c
    cases h1
  · rw [slot_put_ne z] at c
    rw [List.getElem?_set_ne (fun q => z q.symm)]
    exact h.at_ j y c
end
end Tl
set_option Elab.async false
set_option linter.all false
set_option maxRecDepth 100000
set_option maxHeartbeats 4000000
/-! Readings at the second layer, and that they hold. -/
namespace Tl
open PySem L2
abbrev TDE := EnvD → Mem → (W → Mem → Prop) → Prop
abbrev TDA := EnvD → Mem → (List W → Mem → Prop) → Prop
abbrev TDT := EnvD → Mem → (Bool → Mem → Prop) → Prop
/-- a thing that is raised: its class, its fields -/
structure Ex where
  cls : Value
  fs : List (Str × PyData)
abbrev REx := Ex → EnvD → Mem → Prop
def XRel (K : PySem.W.Frag) (F : Hp) (cls : Value) (d : Option Addr) (x : Ex) : Prop := cls = x.cls ∧ FX K F d x.fs
def XOk (K : PySem.W.Frag) (F H : Hp) (M : Mem) (Wx : WX) (RE : REx) : Prop :=
  ∀ F' H' M' σ ρ cls d x, Gr F H M F' H' M' → Rl K F' H' M' → RelS K F' σ ρ → XRel K F' cls d x → RE x ρ M' → Wx cls d σ H'
theorem XOk.mono {K : PySem.W.Frag} {F H F' H' : Hp} {M M' : Mem} {Wx : WX} {RE : REx} (x : XOk K F H M Wx RE) (g : Gr F H M F' H' M') : XOk K F' H' M' Wx RE :=
  fun F2 H2 M2 σ ρ cls d e g2 => x F2 H2 M2 σ ρ cls d e (g.trans g2)
/-- what is wanted of a value, there as here -/
abbrev Kt (K : PySem.W.Frag) (F H : Hp) (M : Mem) (R : W → Mem → Prop) (Q : VK) : Prop := ∀ v H' F' M' x, Rl K F' H' M' → Gr F H M F' H' M' → RW K F' v x → R x M' → Q v H'
def SE (K : PySem.W.Frag) (Wx : WX) (RE : REx) (t : TE) (T : TDE) : Prop :=
  ∀ F H M σ ρ R Q, Rl K F H M → XOk K F H M Wx RE → RelS K F σ ρ → T ρ M R → Kt K F H M R Q → t σ H Q
def ST (K : PySem.W.Frag) (Wx : WX) (RE : REx) (t : TT) (T : TDT) : Prop :=
  ∀ F H M σ ρ (R : Bool → Mem → Prop) (Q : Bool → Hp → Prop), Rl K F H M → XOk K F H M Wx RE → RelS K F σ ρ → T ρ M R → (∀ b H' F' M', Rl K F' H' M' → Gr F H M F' H' M' → R b M' → Q b H') → t σ H Q
def SA (K : PySem.W.Frag) (Wx : WX) (RE : REx) (t : TA) (T : TDA) : Prop :=
  ∀ F H M σ ρ (R : List W → Mem → Prop) (Q : List V → Hp → Prop), Rl K F H M → XOk K F H M Wx RE → RelS K F σ ρ → T ρ M R → (∀ vs H' F' M' xs, Rl K F' H' M' → Gr F H M F' H' M' → RWs K F' vs xs → R xs M' → Q vs H') → t σ H Q
abbrev F2 := W → W → Mem → (W → Mem → Prop) → Prop
abbrev FL := List W → Mem → (W → Mem → Prop) → Prop
def SO (K : PySem.W.Frag) (r : R2) (f : F2) : Prop := ∀ F H M v u x y R Q, Rl K F H M → RW K F v x → RW K F u y → f x y M R → Kt K F H M R Q → r v u H Q
def SU (K : PySem.W.Frag) (r : V → Hp → VK → Prop) (f : W → Mem → (W → Mem → Prop) → Prop) : Prop := ∀ F H M v x R Q, Rl K F H M → RW K F v x → f x M R → Kt K F H M R Q → r v H Q
def SC (K : PySem.W.Frag) (r : List V → Hp → VK → Prop) (f : FL) : Prop := ∀ F H M vs xs R Q, Rl K F H M → RWs K F vs xs → f xs M R → Kt K F H M R Q → r vs H Q
inductive gO {α : Type} (o : Option α) (k : α → Prop) : Prop where
  | mk (a : α) (h : o = some a) (q : k a) : gO o k
theorem gO_of {α : Type} {o : Option α} {k : α → Prop} (h : gO o k) : ∃ a, o = some a ∧ k a := by
  cases h with
  | mk a h q => exact ⟨a, h, q⟩
theorem gO_i {α : Type} {o : Option α} {a : α} {k : α → Prop} (h : o = some a) (q : k a) : gO o k := .mk a h q
/-! ### what a value is -/
@[reducible] def gI (x : W) (k : Int → Prop) : Prop := match x with | .d (.int a) => k a | _ => False
@[reducible] def gS (x : W) (k : Str → Prop) : Prop := match x with | .d (.str a) => k a | _ => False
@[reducible] def gB (x : W) (k : Bool → Prop) : Prop := match x with | .d (.bool a) => k a | _ => False
@[reducible] def gT (x : W) (k : List PyData → Prop) : Prop := match x with | .d (.tuple a) => k a | _ => False
@[reducible] def gL (x : W) (k : List PyData → Prop) : Prop := match x with | .d (.list a) => k a | _ => False
@[reducible] def gD (x : W) (k : PyData → Prop) : Prop := match x with | .d a => k a | _ => False
@[reducible] def gR (x : W) (k : Addr → Prop) : Prop := match x with | .r a => k a | _ => False
theorem gI_of {x : W} {k : Int → Prop} (h : gI x k) : ∃ a, x = .d (.int a) ∧ k a := by
  unfold gI at h
  split at h
  · exact ⟨_, rfl, h⟩
  · exact h.elim
theorem gS_of {x : W} {k : Str → Prop} (h : gS x k) : ∃ a, x = .d (.str a) ∧ k a := by
  unfold gS at h
  split at h
  · exact ⟨_, rfl, h⟩
  · exact h.elim
theorem gB_of {x : W} {k : Bool → Prop} (h : gB x k) : ∃ a, x = .d (.bool a) ∧ k a := by
  unfold gB at h
  split at h
  · exact ⟨_, rfl, h⟩
  · exact h.elim
theorem gT_of {x : W} {k : List PyData → Prop} (h : gT x k) : ∃ a, x = .d (.tuple a) ∧ k a := by
  unfold gT at h
  split at h
  · exact ⟨_, rfl, h⟩
  · exact h.elim
theorem gL_of {x : W} {k : List PyData → Prop} (h : gL x k) : ∃ a, x = .d (.list a) ∧ k a := by
  unfold gL at h
  split at h
  · exact ⟨_, rfl, h⟩
  · exact h.elim
theorem gD_of {x : W} {k : PyData → Prop} (h : gD x k) : ∃ a, x = .d a ∧ k a := by
  unfold gD at h
  split at h
  · exact ⟨_, rfl, h⟩
  · exact h.elim
theorem gR_of {x : W} {k : Addr → Prop} (h : gR x k) : ∃ a, x = .r a ∧ k a := by
  unfold gR at h
  split at h
  · exact ⟨_, rfl, h⟩
  · exact h.elim
section
variable {K : PySem.W.Frag} {F H : Hp} {M : Mem} {v : V}
theorem RW.int {a : Int} (h : RW K F v (.d (.int a))) : v = .int a := by cases h with | d h => cases h; rfl
theorem RW.str {a : Str} (h : RW K F v (.d (.str a))) : v = .str a := by cases h with | d h => cases h; rfl
theorem RW.bl {a : Bool} (h : RW K F v (.d (.bool a))) : v = .bl a := by cases h with | d h => cases h; rfl
theorem RW.non (h : RW K F v (.d .none)) : v = .non := by cases h with | d h => cases h; rfl
theorem RW.dx {x : PyData} (h : RW K F v (.d x)) : Dx K F v x := by cases h with | d h => exact h
theorem RW.ref {a : Addr} (h : RW K F v (.r a)) : v = .ref a := by cases h; rfl
theorem RW.tup {ds : List PyData} (h : RW K F v (.d (.tuple ds))) : ∃ a xs, v = .ref a ∧ SqT K F a xs ∧ DxL K F xs ds := by
  cases h with
  | d h => cases h with | tup h1 h2 => exact ⟨_, _, rfl, h1, h2⟩
theorem RW.lst {ds : List PyData} (h : RW K F v (.d (.list ds))) : ∃ a xs, v = .ref a ∧ F a = some (.lst xs) ∧ DxL K F xs ds := by
  cases h with
  | d h => cases h with | lst h1 h2 => exact ⟨_, _, rfl, h1, h2⟩
theorem Rl.lst (h : Rl K F H M) {a : Addr} {ws : List W} (e : M a = some (.lst ws)) : ∃ vs, H a = some (.lst vs) ∧ RWs K F vs ws := by
  obtain ⟨_, h1, vs, rfl, h2⟩ := h.at_ a _ e
  exact ⟨vs, h1, h2⟩
/-- a new tuple of data -/
theorem Rl.tup (h : Rl K F H M) {p : Addr} {xs : List V} {ds : List PyData} (e : H p = none) (r : DxL K F xs ds) : Rl K (upd F p (.tup xs)) (upd H p (.tup xs)) M ∧ Gr F H M (upd F p (.tup xs)) (upd H p (.tup xs)) M ∧ RW K (upd F p (.tup xs)) (.ref p) (.d (.tuple ds)) := by
  obtain ⟨h1, h2⟩ := h.fresh (u := .tup xs) e
  exact ⟨h1, h2, .d (.tup (.inl (.inl upd_same)) (DxL.mono h2.ff _ _ r))⟩
theorem Rl.list (h : Rl K F H M) {p : Addr} {xs : List V} {ds : List PyData} (e : H p = none) (r : DxL K F xs ds) : Rl K (upd F p (.lst xs)) (upd H p (.lst xs)) M ∧ Gr F H M (upd F p (.lst xs)) (upd H p (.lst xs)) M ∧ RW K (upd F p (.lst xs)) (.ref p) (.d (.list ds)) := by
  obtain ⟨h1, h2⟩ := h.fresh (u := .lst xs) e
  exact ⟨h1, h2, .d (.lst upd_same (DxL.mono h2.ff _ _ r))⟩
end
section
variable {K : PySem.W.Frag} {Wx : WX} {RE : REx}
/-! ### names, constants -/
@[reducible] def nmT (i : Nat) : TDE := fun ρ M R => match slot ρ i with | some x => R x M | none => False
@[reducible] def cT (x : W) : TDE := fun _ M R => R x M
theorem se_nm {i : Nat} : SE K Wx RE (tVar i) (nmT i) := fun F H M σ ρ R Q hr hx hs ht k => by
  unfold nmT at ht
  cases c : slot ρ i with
  | none => rw [c] at ht; exact ht.elim
  | some x =>
    rw [c] at ht
    obtain ⟨v, h1, h2⟩ := hs.at_ i x c
    exact ⟨v, h1, k v H F M x hr .refl h2 ht⟩
theorem se_int {i : Int} : SE K Wx RE (tC (.int i)) (cT (.d (.int i))) := fun F H M σ ρ R Q hr hx hs ht k => k _ H F M _ hr .refl (.d (.int i)) ht
theorem se_str {i : Str} : SE K Wx RE (tC (.str i)) (cT (.d (.str i))) := fun F H M σ ρ R Q hr hx hs ht k => k _ H F M _ hr .refl (.d (.str i)) ht
theorem se_bl {i : Bool} : SE K Wx RE (tC (.bl i)) (cT (.d (.bool i))) := fun F H M σ ρ R Q hr hx hs ht k => k _ H F M _ hr .refl (.d (.bl i)) ht
theorem se_non : SE K Wx RE (tC .non) (cT (.d .none)) := fun F H M σ ρ R Q hr hx hs ht k => k _ H F M _ hr .refl (.d .non) ht
theorem se_o {v : V} : SE K Wx RE (tC v) (cT (.o v)) := fun F H M σ ρ R Q hr hx hs ht k => k _ H F M _ hr .refl (.o v) ht
/-! ### operators -/
@[reducible] def opT (f : F2) (Ta Tb : TDE) : TDE := fun ρ M R => Ta ρ M fun x M1 => Tb ρ M1 fun y M2 => f x y M2 R
@[reducible] def unT (f : W → Mem → (W → Mem → Prop) → Prop) (Ta : TDE) : TDE := fun ρ M R => Ta ρ M fun x M1 => f x M1 R
theorem se_op {r : R2} {f : F2} {ta tb : TE} {Ta Tb : TDE} (ho : SO K r f) (ha : SE K Wx RE ta Ta) (hb : SE K Wx RE tb Tb) : SE K Wx RE (tOp r ta tb) (opT f Ta Tb) := fun F H M σ ρ R Q hr hx hs ht k =>
  ha F H M σ ρ _ _ hr hx hs ht fun v H1 F1 M1 x r1 g1 rx ht1 => hb F1 H1 M1 σ ρ _ _ r1 (hx.mono g1) (hs.mono g1.ff) ht1 fun u H2 F2 M2 y r2 g2 ry ht2 =>
    ho F2 H2 M2 v u x y R Q r2 (rx.mono g2.ff) ry ht2 fun w H3 F3 M3 z r3 g3 rz hz => k w H3 F3 M3 z r3 ((g1.trans g2).trans g3) rz hz
theorem se_un {r : V → Hp → VK → Prop} {f : W → Mem → (W → Mem → Prop) → Prop} {ta : TE} {Ta : TDE} (ho : SU K r f) (ha : SE K Wx RE ta Ta) : SE K Wx RE (tUn r ta) (unT f Ta) := fun F H M σ ρ R Q hr hx hs ht k =>
  ha F H M σ ρ _ _ hr hx hs ht fun v H1 F1 M1 x r1 g1 rx ht1 => ho F1 H1 M1 v x R Q r1 rx ht1 fun w H3 F3 M3 z r3 g3 rz hz => k w H3 F3 M3 z r3 (g1.trans g3) rz hz
@[reducible] def fI (g : Int → Int → PyData) : F2 := fun x y M R => gI x fun a => gI y fun b => R (.d (g a b)) M
@[reducible] def fIc (C : Int → Int → Prop) (g : Int → Int → PyData) : F2 := fun x y M R => gI x fun a => gI y fun b => C a b ∧ R (.d (g a b)) M
theorem so_I {gv : Int → Int → V} {g : Int → Int → PyData} (h : ∀ F i j, Dx K F (gv i j) (g i j)) : SO K (rI0 gv) (fI g) := fun F H M v u x y R Q hr rx ry hf k => by
  obtain ⟨a, rfl, hf1⟩ := gI_of hf
  obtain ⟨b, rfl, hf2⟩ := gI_of hf1
  exact ⟨a, b, rx.int, ry.int, k _ H F M _ hr .refl (.d (h F a b)) hf2⟩
theorem so_Ic {C : Int → Int → Prop} {gv : Int → Int → V} {g : Int → Int → PyData} (h : ∀ F i j, Dx K F (gv i j) (g i j)) : SO K (rI C gv) (fIc C g) := fun F H M v u x y R Q hr rx ry hf k => by
  obtain ⟨a, rfl, hf1⟩ := gI_of hf
  obtain ⟨b, rfl, hc, hf2⟩ := gI_of hf1
  exact ⟨a, b, rx.int, ry.int, hc, k _ H F M _ hr .refl (.d (h F a b)) hf2⟩
@[reducible] def fAdd : F2 := fI fun a b => .int (a + b)
@[reducible] def fSub : F2 := fI fun a b => .int (a - b)
@[reducible] def fMul : F2 := fIc CMul fun a b => .int (a * b)
@[reducible] def fDiv : F2 := fIc (fun _ j => 0 < j ∧ j < 1000000000) fun a b => .int (a / b)
@[reducible] def fLt : F2 := fI fun a b => .bool (decide (a < b))
@[reducible] def fLe : F2 := fI fun a b => .bool (decide (a ≤ b))
@[reducible] def fGt : F2 := fI fun a b => .bool (decide (b < a))
@[reducible] def fGe : F2 := fI fun a b => .bool (decide (b ≤ a))
theorem so_add : SO K (rI0 fun i j => .int (i + j)) fAdd := so_I fun _ _ _ => .int _
theorem so_sub : SO K (rI0 fun i j => .int (i - j)) fSub := so_I fun _ _ _ => .int _
theorem so_mul : SO K (rI CMul fun i j => .int (i * j)) fMul := so_Ic fun _ _ _ => .int _
theorem so_div : SO K (rI CDivN fun i j => .int (i.fdiv j)) fDiv := fun F H M v u x y R Q hr rx ry hf k => by
  obtain ⟨a, rfl, hf1⟩ := gI_of hf
  obtain ⟨b, rfl, hc, hf2⟩ := gI_of hf1
  refine ⟨a, b, rx.int, ry.int, ⟨by omega, by omega⟩, ?_⟩
  show Q (V.int (a.fdiv b)) H
  rw [Int.fdiv_eq_ediv_of_nonneg _ (by omega)]
  exact k _ H F M _ hr .refl (.d (.int _)) hf2
theorem so_lt : SO K (rI0 fun i j => .bl (decide (i < j))) fLt := so_I fun _ _ _ => .bl _
theorem so_le : SO K (rI0 fun i j => .bl (decide (i ≤ j))) fLe := so_I fun _ _ _ => .bl _
theorem so_gt : SO K (rI0 fun i j => .bl (decide (j < i))) fGt := so_I fun _ _ _ => .bl _
theorem so_ge : SO K (rI0 fun i j => .bl (decide (j ≤ i))) fGe := so_I fun _ _ _ => .bl _
@[reducible] def fNeg : W → Mem → (W → Mem → Prop) → Prop := fun x M R => gI x fun a => R (.d (.int (-a))) M
theorem su_neg : SU K (rU fun i => .int (-i)) fNeg := fun F H M v x R Q hr rx hf k => by
  obtain ⟨a, rfl, hf⟩ := gI_of hf
  exact ⟨a, rx.int, k _ H F M _ hr .refl (.d (.int _)) hf⟩
/-- texts -/
@[reducible] def fS (g : Str → Str → PyData) : F2 := fun x y M R => gS x fun a => gS y fun b => R (.d (g a b)) M
/-- one sign in a text -/
@[reducible] def gC (x : W) (k : Nat → Prop) : Prop := gS x fun a => ∃ c, a = ⟨#[c]⟩ ∧ k c
/-! ### is None -/
@[reducible] def isN : W → Option Bool
  | .d .none => some true
  | .d _ => some false
  | .r _ => some false
  | .o _ => none
  | .x _ _ _ _ => some false
@[reducible] def fIsN (neg : Bool) : F2 := fun x y M R => y = .d .none ∧ gO (isN x) fun b => R (.d (.bool (ng neg b))) M
theorem isN_of {F : Hp} {v : V} {x : W} {b : Bool} (r : RW K F v x) (h : isN x = some b) : decide (v = .non) = b := by
  cases r with
  | d r => cases r <;> (cases h; simp)
  | r a => cases h; simp
  | o v => cases h
  | x _ => cases h; simp
theorem so_isN : SO K (fun x y H Q => y = V.non ∧ Q (.bl (decide (x = .non))) H) (fIsN false) := fun F H M v u x y R Q hr rx ry hf k => by
  obtain ⟨rfl, hf⟩ := hf
  obtain ⟨b, c, hf⟩ := gO_of hf
  refine ⟨ry.non, ?_⟩
  rw [isN_of rx c]
  exact k _ H F M _ hr .refl (.d (.bl _)) hf
theorem so_notN : SO K (fun x y H Q => y = V.non ∧ Q (.bl (!decide (x = .non))) H) (fIsN true) := fun F H M v u x y R Q hr rx ry hf k => by
  obtain ⟨rfl, hf⟩ := hf
  obtain ⟨b, c, hf⟩ := gO_of hf
  refine ⟨ry.non, ?_⟩
  rw [isN_of rx c]
  exact k _ H F M _ hr .refl (.d (.bl _)) hf
/-! ### == -/
/-- a list of data that may change, or data, as data -/
@[reducible] def asD (M : Mem) (x : W) (k : PyData → Prop) : Prop := match x with
  | .d a => k a
  | .r a => ∃ ds, M a = some (.lst (ds.map W.d)) ∧ k (.list ds)
  | _ => False
theorem asD_of {F H : Hp} {M : Mem} {v : V} {x : W} {k : PyData → Prop} (hr : Rl K F H M) (r : RW K F v x) (h : asD M x k) : ∃ a F', Same F F' ∧ Same F' H ∧ Dx K F' v a ∧ k a := by
  cases x with
  | d a => exact ⟨a, F, Same.refl _, hr.fh, r.dx, h⟩
  | r a =>
    obtain ⟨ds, h1, h2⟩ := h
    obtain ⟨F', r', g', d'⟩ := hr.freeze h1
    rw [r.ref]
    exact ⟨_, F', g'.ff, r'.fh, d', h2⟩
  | o v => exact h.elim
  | x a C dd fs => exact h.elim
def eqOk (d : PyData) : Bool := !d.hasDict && SeqAt.shaped d
theorem eqOk_of {d : PyData} (h : eqOk d = true) : d.hasDict = false ∧ SeqAt.shaped d = true := by
  unfold eqOk at h
  rw [Bool.and_eq_true] at h
  exact ⟨by simpa using h.1, h.2⟩
@[reducible] def fEqD (neg : Bool) : F2 := fun x y M R => asD M x fun a => asD M y fun b => (eqOk a = true ∧ eqOk b = true) ∧ R (.d (.bool (ng neg (PyData.eqv a b)))) M
theorem so_eqD : SO K (rEqD K) (fEqD false) := fun F H M v u x y R Q hr rx ry hf k => by
  obtain ⟨a, F1, e1, f1, da, hf⟩ := asD_of hr rx hf
  obtain ⟨b, F2, e2, f2, db, ⟨ha, hb⟩, hf⟩ := asD_of hr ry hf
  exact ⟨a, b, Dx.dp _ _ (Dx.mono f1 _ _ da) (eqOk_of ha).1, Dx.dp _ _ (Dx.mono f2 _ _ db) (eqOk_of hb).1, (eqOk_of ha).2, (eqOk_of hb).2, k _ H F M _ hr .refl (.d (.bl _)) hf⟩
theorem so_neD : SO K (rNeD K) (fEqD true) := fun F H M v u x y R Q hr rx ry hf k => by
  obtain ⟨a, F1, e1, f1, da, hf⟩ := asD_of hr rx hf
  obtain ⟨b, F2, e2, f2, db, ⟨ha, hb⟩, hf⟩ := asD_of hr ry hf
  exact ⟨a, b, Dx.dp _ _ (Dx.mono f1 _ _ da) (eqOk_of ha).1, Dx.dp _ _ (Dx.mono f2 _ _ db) (eqOk_of hb).1, (eqOk_of ha).2, (eqOk_of hb).2, k _ H F M _ hr .refl (.d (.bl _)) hf⟩
/-- plain values: numbers, texts, truths, None -/
@[reducible] def eqS : PyData → PyData → Option Bool
  | .int a, .int b => some (decide (a = b))
  | .str a, .str b => some (decide (a = b))
  | .bool a, .bool b => some (decide (a = b))
  | .none, .none => some true
  | .none, .int _ => some false
  | .none, .str _ => some false
  | .none, .bool _ => some false
  | .int _, .none => some false
  | .str _, .none => some false
  | .bool _, .none => some false
  | .int _, .str _ => some false
  | .str _, .int _ => some false
  | .bool _, .str _ => some false
  | .str _, .bool _ => some false
  | _, _ => none
@[reducible] def fEqS (neg : Bool) : F2 := fun x y M R => gD x fun a => gD y fun b => gO (eqS a b) fun c => R (.d (.bool (ng neg c))) M
theorem eqS_of {F : Hp} {v u : V} {a b : PyData} {c : Bool} (ra : Dx K F v a) (rb : Dx K F u b) (h : eqS a b = some c) : scal v u = true ∧ decide (v = u) = c := by
  cases ra <;> cases rb <;> first | (cases h; done) | (simp only [eqS, Option.some.injEq] at h; subst h; refine ⟨rfl, ?_⟩; simp)
theorem so_eqS : SO K rEq (fEqS false) := fun F H M v u x y R Q hr rx ry hf k => by
  obtain ⟨a, rfl, hf1⟩ := gD_of hf
  obtain ⟨b, rfl, hf2⟩ := gD_of hf1
  obtain ⟨e, c, hf2⟩ := gO_of hf2
  obtain ⟨h1, h2⟩ := eqS_of rx.dx ry.dx c
  refine ⟨h1, ?_⟩
  rw [h2]
  exact k _ H F M _ hr .refl (.d (.bl _)) hf2
theorem so_neS : SO K rNe (fEqS true) := fun F H M v u x y R Q hr rx ry hf k => by
  obtain ⟨a, rfl, hf1⟩ := gD_of hf
  obtain ⟨b, rfl, hf2⟩ := gD_of hf1
  obtain ⟨e, c, hf2⟩ := gO_of hf2
  obtain ⟨h1, h2⟩ := eqS_of rx.dx ry.dx c
  refine ⟨h1, ?_⟩
  rw [h2]
  exact k _ H F M _ hr .refl (.d (.bl _)) hf2
end
end Tl
set_option Elab.async false
set_option linter.all false
set_option maxRecDepth 100000
set_option maxHeartbeats 4000000
namespace Tl
open PySem L2
section
variable {K : PySem.W.Frag} {Wx : WX} {RE : REx}
/-! ### tests -/
@[reducible] def tbT (T : TDE) : TDT := fun ρ M R => T ρ M fun x M1 => gB x fun c => R c M1
@[reducible] def andT (T U : TDT) : TDT := fun ρ M R => T ρ M fun c M1 => IfB c (U ρ M1 R) (R false M1)
@[reducible] def orT (T U : TDT) : TDT := fun ρ M R => T ρ M fun c M1 => IfB c (R true M1) (U ρ M1 R)
@[reducible] def notT (T : TDT) : TDT := fun ρ M R => T ρ M fun c M1 => R (!c) M1
@[reducible] def andV (T U : TDE) : TDE := fun ρ M R => T ρ M fun x M1 => gB x fun c => IfB c (U ρ M1 R) (R (.d (.bool false)) M1)
@[reducible] def orV (T U : TDE) : TDE := fun ρ M R => T ρ M fun x M1 => gB x fun c => IfB c (R (.d (.bool true)) M1) (U ρ M1 R)
@[reducible] def notV (T : TDE) : TDE := fun ρ M R => T ρ M fun x M1 => gB x fun c => R (.d (.bool (!c))) M1
theorem st_val {t : TE} {T : TDE} (h : SE K Wx RE t T) : ST K Wx RE (tB t) (tbT T) := fun F H M σ ρ R Q hr hx hs ht k =>
  h F H M σ ρ _ _ hr hx hs ht fun v H1 F1 M1 x r1 g1 rx h1 => by
    obtain ⟨c, rfl, h2⟩ := gB_of h1
    exact ⟨c, rx.bl, k c H1 F1 M1 r1 g1 h2⟩
theorem st_test {t : TE} {T : TDE} (h : SE K Wx RE t T) : ST K Wx RE (tTest t) (tbT T) := fun F H M σ ρ R Q hr hx hs ht k =>
  h F H M σ ρ _ _ hr hx hs ht fun v H1 F1 M1 x r1 g1 rx h1 => by
    obtain ⟨c, rfl, h2⟩ := gB_of h1
    exact ⟨c, rx.bl, k c H1 F1 M1 r1 g1 h2⟩
theorem st_and {t u : TT} {T U : TDT} (ha : ST K Wx RE t T) (hb : ST K Wx RE u U) : ST K Wx RE (tAnd t u) (andT T U) := fun F H M σ ρ R Q hr hx hs ht k =>
  ha F H M σ ρ _ _ hr hx hs ht fun c H1 F1 M1 r1 g1 h1 => by
    have h1 := h1.ite
    by_cases hc : c = true
    · rw [if_pos hc] at h1 ⊢
      exact hb F1 H1 M1 σ ρ R Q r1 (hx.mono g1) (hs.mono g1.ff) h1 fun b H2 F2 M2 r2 g2 h2 => k b H2 F2 M2 r2 (g1.trans g2) h2
    · rw [if_neg hc] at h1 ⊢
      exact k _ H1 F1 M1 r1 g1 h1
theorem st_or {t u : TT} {T U : TDT} (ha : ST K Wx RE t T) (hb : ST K Wx RE u U) : ST K Wx RE (tOr t u) (orT T U) := fun F H M σ ρ R Q hr hx hs ht k =>
  ha F H M σ ρ _ _ hr hx hs ht fun c H1 F1 M1 r1 g1 h1 => by
    have h1 := h1.ite
    by_cases hc : c = true
    · rw [if_pos hc] at h1 ⊢
      exact k _ H1 F1 M1 r1 g1 h1
    · rw [if_neg hc] at h1 ⊢
      exact hb F1 H1 M1 σ ρ R Q r1 (hx.mono g1) (hs.mono g1.ff) h1 fun b H2 F2 M2 r2 g2 h2 => k b H2 F2 M2 r2 (g1.trans g2) h2
theorem st_not {t : TT} {T : TDT} (ha : ST K Wx RE t T) : ST K Wx RE (tNot t) (notT T) := fun F H M σ ρ R Q hr hx hs ht k =>
  ha F H M σ ρ _ _ hr hx hs ht fun c H1 F1 M1 r1 g1 h1 => k _ H1 F1 M1 r1 g1 h1
theorem se_and {t u : TE} {T U : TDE} (ha : SE K Wx RE t T) (hb : SE K Wx RE u U) : SE K Wx RE (tAndV t u) (andV T U) := fun F H M σ ρ R Q hr hx hs ht k =>
  ha F H M σ ρ _ _ hr hx hs ht fun v H1 F1 M1 x r1 g1 rx h1 => by
    obtain ⟨c, rfl, h2⟩ := gB_of h1
    refine ⟨c, rx.bl, ?_⟩
    have h2 := h2.ite
    by_cases hc : c = true
    · rw [if_pos hc] at h2 ⊢
      exact hb F1 H1 M1 σ ρ R Q r1 (hx.mono g1) (hs.mono g1.ff) h2 fun b H2 F2 M2 x r2 g2 h3 h4 => k b H2 F2 M2 x r2 (g1.trans g2) h3 h4
    · rw [if_neg hc] at h2 ⊢
      exact k _ H1 F1 M1 _ r1 g1 (.d (.bl _)) h2
theorem se_or {t u : TE} {T U : TDE} (ha : SE K Wx RE t T) (hb : SE K Wx RE u U) : SE K Wx RE (tOrV t u) (orV T U) := fun F H M σ ρ R Q hr hx hs ht k =>
  ha F H M σ ρ _ _ hr hx hs ht fun v H1 F1 M1 x r1 g1 rx h1 => by
    obtain ⟨c, rfl, h2⟩ := gB_of h1
    refine ⟨c, rx.bl, ?_⟩
    have h2 := h2.ite
    by_cases hc : c = true
    · rw [if_pos hc] at h2 ⊢
      exact k _ H1 F1 M1 _ r1 g1 (.d (.bl _)) h2
    · rw [if_neg hc] at h2 ⊢
      exact hb F1 H1 M1 σ ρ R Q r1 (hx.mono g1) (hs.mono g1.ff) h2 fun b H2 F2 M2 x r2 g2 h3 h4 => k b H2 F2 M2 x r2 (g1.trans g2) h3 h4
theorem se_not {t : TE} {T : TDE} (ha : SE K Wx RE t T) : SE K Wx RE (tNotV t) (notV T) := fun F H M σ ρ R Q hr hx hs ht k =>
  ha F H M σ ρ _ _ hr hx hs ht fun v H1 F1 M1 x r1 g1 rx h1 => by
    obtain ⟨c, rfl, h2⟩ := gB_of h1
    exact ⟨c, rx.bl, k _ H1 F1 M1 _ r1 g1 (.d (.bl _)) h2⟩
@[reducible] def chT (f f' : F2) (Ta Tb Tc : TDE) : TDE := fun ρ M R => Ta ρ M fun x M1 => Tb ρ M1 fun y M2 => f x y M2 fun z M3 => gB z fun c => IfB c (Tc ρ M3 fun w M4 => f' y w M4 R) (R (.d (.bool false)) M3)
theorem se_chain {r r' : R2} {f f' : F2} {ta tb tc : TE} {Ta Tb Tc : TDE} (ho : SO K r f) (ho' : SO K r' f') (ha : SE K Wx RE ta Ta) (hb : SE K Wx RE tb Tb) (hc : SE K Wx RE tc Tc) : SE K Wx RE (tChain r r' ta tb tc) (chT f f' Ta Tb Tc) := fun F H M σ ρ R Q hr hx hs ht k =>
  ha F H M σ ρ _ _ hr hx hs ht fun v H1 F1 M1 x r1 g1 rx ht1 => hb F1 H1 M1 σ ρ _ _ r1 (hx.mono g1) (hs.mono g1.ff) ht1 fun u H2 F2 M2 y r2 g2 ry ht2 =>
    ho F2 H2 M2 v u x y _ _ r2 (rx.mono g2.ff) ry ht2 fun w H3 F3 M3 z r3 g3 rz hz => by
      obtain ⟨c, rfl, h2⟩ := gB_of hz
      refine ⟨c, rz.bl, ?_⟩
      have g := (g1.trans g2).trans g3
      have h2 := h2.ite
      by_cases hc' : c = true
      · rw [if_pos hc'] at h2 ⊢
        exact hc F3 H3 M3 σ ρ _ _ r3 (hx.mono g) (hs.mono g.ff) h2 fun w4 H4 F4 M4 z4 r4 g4 rz4 h4 =>
          ho' F4 H4 M4 u w4 y z4 R Q r4 (ry.mono (g3.trans g4).ff) rz4 h4 fun w5 H5 F5 M5 z5 r5 g5 rz5 h5 => k w5 H5 F5 M5 z5 r5 ((g.trans g4).trans g5) rz5 h5
      · rw [if_neg hc'] at h2 ⊢
        exact k _ H3 F3 M3 _ r3 g (.d (.bl _)) h2
/-! ### arguments, displays -/
def SAn (K : PySem.W.Frag) (Wx : WX) (RE : REx) (n : Nat) (t : TA) (T : TDA) : Prop :=
  ∀ F H M σ ρ (R : List W → Mem → Prop) (Q : List V → Hp → Prop), Rl K F H M → XOk K F H M Wx RE → RelS K F σ ρ → T ρ M R → (∀ vs H' F' M' xs, Rl K F' H' M' → Gr F H M F' H' M' → RWs K F' vs xs → xs.length = n → R xs M' → Q vs H') → t σ H Q
@[reducible] def nilA : TDA := fun _ M R => R [] M
@[reducible] def consA (T : TDE) (U : TDA) : TDA := fun ρ M R => T ρ M fun x M1 => U ρ M1 fun xs M2 => R (x :: xs) M2
theorem sa_nil : SAn K Wx RE 0 tNil nilA := fun F H M σ ρ R Q hr hx hs ht k => k [] H F M [] hr .refl .nil rfl ht
theorem sa_cons {n : Nat} {t : TE} {u : TA} {T : TDE} {U : TDA} (ha : SE K Wx RE t T) (hb : SAn K Wx RE n u U) : SAn K Wx RE (n + 1) (tCons t u) (consA T U) := fun F H M σ ρ R Q hr hx hs ht k =>
  ha F H M σ ρ _ _ hr hx hs ht fun v H1 F1 M1 x r1 g1 rx h1 => hb F1 H1 M1 σ ρ _ _ r1 (hx.mono g1) (hs.mono g1.ff) h1 fun vs H2 F2 M2 xs r2 g2 rxs hl h2 =>
    k (v :: vs) H2 F2 M2 (x :: xs) r2 (g1.trans g2) (.cons (rx.mono g2.ff) rxs) (by rw [List.length_cons, hl]) h2
/-- all of them data -/
inductive gDs (xs : List W) (k : List PyData → Prop) : Prop where
  | mk (ds : List PyData) (h : xs = ds.map W.d) (q : k ds)
theorem gDs_of {xs : List W} {k : List PyData → Prop} (h : gDs xs k) : ∃ ds, xs = ds.map W.d ∧ k ds := by
  cases h with
  | mk ds h q => exact ⟨ds, h, q⟩
theorem map_injD {α β : Type} {f : α → β} (hf : ∀ a b, f a = f b → a = b) : ∀ {xs ys : List α}, xs.map f = ys.map f → xs = ys
  | [], [], _ => rfl
  | [], _ :: _, h => by cases h
  | _ :: _, [], h => by cases h
  | x :: xs, y :: ys, h => by
    rw [List.map_cons, List.map_cons] at h
    injection h with h1 h2
    rw [hf _ _ h1, map_injD hf h2]
theorem gDs_map {ds : List PyData} {k : List PyData → Prop} : gDs (ds.map W.d) k = k ds := propext ⟨fun h => by
  obtain ⟨es, e, q⟩ := gDs_of h
  rw [map_injD (fun a b h => by injection h) e]
  exact q, fun q => .mk ds rfl q⟩
theorem gDs_n {k : List PyData → Prop} (q : k []) : gDs [] k := .mk [] rfl q
theorem gDs_c {a : PyData} {r : List W} {k : List PyData → Prop} (h : gDs r fun ds => k (a :: ds)) : gDs (.d a :: r) k := by
  obtain ⟨ds, rfl, q⟩ := gDs_of h
  exact .mk (a :: ds) rfl q
@[reducible] def tupT (T : TDA) : TDE := fun ρ M R => T ρ M fun xs M1 => gDs xs fun ds => R (.d (.tuple ds)) M1
@[reducible] def lsfT (T : TDA) : TDE := fun ρ M R => T ρ M fun xs M1 => gDs xs fun ds => R (.d (.list ds)) M1
@[reducible] def lstT (T : TDA) : TDE := fun ρ M R => T ρ M fun xs M1 => ∀ p, M1 p = none → R (.r p) (mset M1 p (.lst xs))
theorem se_tup {n : Nat} {t : TA} {T : TDA} (h : SAn K Wx RE n t T) (hn : n ≤ 1000 := by decide) : SE K Wx RE (tTup t) (tupT T) := fun F H M σ ρ R Q hr hx hs ht k =>
  h F H M σ ρ _ _ hr hx hs ht fun vs H1 F1 M1 xs r1 g1 rxs hl h1 => by
    obtain ⟨ds, rfl, h2⟩ := gDs_of h1
    refine ⟨by rw [rxs.len, hl]; exact sz1000 hn, fun p hp => ?_⟩
    obtain ⟨r2, g2, rz⟩ := r1.tup hp rxs.undat
    exact k _ _ _ _ _ r2 (g1.trans g2) rz h2
theorem se_lsf {n : Nat} {t : TA} {T : TDA} (h : SAn K Wx RE n t T) (hn : n ≤ 1000 := by decide) : SE K Wx RE (tLst t) (lsfT T) := fun F H M σ ρ R Q hr hx hs ht k =>
  h F H M σ ρ _ _ hr hx hs ht fun vs H1 F1 M1 xs r1 g1 rxs hl h1 => by
    obtain ⟨ds, rfl, h2⟩ := gDs_of h1
    refine ⟨by rw [rxs.len, hl]; exact sz1000 hn, fun p hp => ?_⟩
    obtain ⟨r2, g2, rz⟩ := r1.list hp rxs.undat
    exact k _ _ _ _ _ r2 (g1.trans g2) rz h2
theorem se_lst {n : Nat} {t : TA} {T : TDA} (h : SAn K Wx RE n t T) (hn : n ≤ 1000 := by decide) : SE K Wx RE (tLst t) (lstT T) := fun F H M σ ρ R Q hr hx hs ht k =>
  h F H M σ ρ _ _ hr hx hs ht fun vs H1 F1 M1 xs r1 g1 rxs hl h1 => by
    refine ⟨by rw [rxs.len, hl]; exact sz1000 hn, fun p hp => ?_⟩
    obtain ⟨r2, g2⟩ := r1.born (u := .lst vs) (o := .lst xs) hp ⟨vs, rfl, rxs⟩
    exact k _ _ _ _ _ r2 (g1.trans g2) (.r p) (h1 p (r1.new hp))
/-! ### items -/
/-- the items of a list, data or not -/
@[reducible] def gW (M : Mem) (x : W) (k : List W → Prop) : Prop := match x with
  | .d (.list ds) => k (ds.map W.d)
  | .r a => ∃ ws, M a = some (.lst ws) ∧ k ws
  | _ => False
theorem gW_of {F H : Hp} {M : Mem} {v : V} {x : W} {k : List W → Prop} (hr : Rl K F H M) (r : RW K F v x) (h : gW M x k) : ∃ a vs ws, v = .ref a ∧ H a = some (.lst vs) ∧ RWs K F vs ws ∧ k ws := by
  unfold gW at h
  split at h
  · obtain ⟨a, xs, rfl, h1, h2⟩ := r.lst
    exact ⟨a, xs, _, rfl, hr.fh _ _ h1, .dat h2, h⟩
  · obtain ⟨ws, h1, h2⟩ := h
    obtain ⟨vs, h3, h4⟩ := hr.lst h1
    exact ⟨_, vs, ws, r.ref, h3, h4, h2⟩
  · exact h.elim
theorem atI_map {α β : Type} (f : α → β) (xs : List α) (i : Int) : atI (xs.map f) i = (atI xs i).map f := by
  unfold atI
  rw [List.length_map]
  cases ixN xs.length i with
  | none => rfl
  | some j => simp
theorem atI_rw {F : Hp} {vs : List V} {xs : List W} {i : Int} {x : W} (r : RWs K F vs xs) (h : atI xs i = some x) : ∃ v, atI vs i = some v ∧ RW K F v x := by
  unfold atI at h ⊢
  rw [r.len]
  cases c : ixN xs.length i with
  | none => rw [c] at h; cases h
  | some j => rw [c] at h; exact r.got h
theorem atI_dx {F : Hp} {vs : List V} {ds : List PyData} {i : Int} {d : PyData} (r : DxL K F vs ds) (h : atI ds i = some d) : ∃ v, atI vs i = some v ∧ Dx K F v d := by
  unfold atI at h ⊢
  rw [r.len]
  cases c : ixN ds.length i with
  | none => rw [c] at h; cases h
  | some j => rw [c] at h; exact r.got h
@[reducible] def fIxT : F2 := fun x y M R => gT x fun ds => gI y fun i => gO (atI ds i) fun d => R (.d d) M
@[reducible] def fIxL : F2 := fun x y M R => gW M x fun ws => gI y fun i => gO (atI ws i) fun w => R w M
theorem so_ixT : SO K (rIxT K) fIxT := fun F H M v u x y R Q hr rx ry hf k => by
  obtain ⟨ds, rfl, h1⟩ := gT_of hf
  obtain ⟨i, rfl, h2⟩ := gI_of h1
  obtain ⟨d, h3, h4⟩ := gO_of h2
  obtain ⟨a, xs, rfl, h5, h6⟩ := rx.tup
  obtain ⟨w, h7, h8⟩ := atI_dx h6 h3
  exact ⟨a, xs, i, w, rfl, ry.int, same_t hr.fh h5, h7, k _ H F M _ hr .refl (.d h8) h4⟩
theorem so_ixL : SO K (rIxL K) fIxL := fun F H M v u x y R Q hr rx ry hf k => by
  obtain ⟨a, vs, ws, rfl, h1, h2, h3⟩ := gW_of hr rx hf
  obtain ⟨i, rfl, h4⟩ := gI_of h3
  obtain ⟨w, h5, h6⟩ := gO_of h4
  obtain ⟨u2, h7, h8⟩ := atI_rw h2 h5
  exact ⟨a, vs, i, u2, rfl, ry.int, SqL.of h1, h7, k _ H F M _ hr .refl h8 h6⟩
/-! ### slices -/
abbrev TDO := EnvD → Mem → (Option Int → Mem → Prop) → Prop
def SPt (K : PySem.W.Frag) (Wx : WX) (RE : REx) (t : TO) (T : TDO) : Prop :=
  ∀ F H M σ ρ (R : Option Int → Mem → Prop) (Q : Option Int → Hp → Prop), Rl K F H M → XOk K F H M Wx RE → RelS K F σ ρ → T ρ M R → (∀ o H' F' M', Rl K F' H' M' → Gr F H M F' H' M' → R o M' → Q o H') → t σ H Q
@[reducible] def noP : TDO := fun _ M R => R none M
@[reducible] def someP (T : TDE) : TDO := fun ρ M R => T ρ M fun x M1 => gI x fun i => R (some i) M1
theorem sp_no : SPt K Wx RE tNoPart noP := fun F H M σ ρ R Q hr hx hs ht k => k none H F M hr .refl ht
theorem sp_some {t : TE} {T : TDE} (h : SE K Wx RE t T) : SPt K Wx RE (tPart t) (someP T) := fun F H M σ ρ R Q hr hx hs ht k =>
  h F H M σ ρ _ _ hr hx hs ht fun v H1 F1 M1 x r1 g1 rx h1 => by
    obtain ⟨i, rfl, h2⟩ := gI_of h1
    exact ⟨i, rx.int, k _ H1 F1 M1 r1 g1 h2⟩
abbrev FSl := W → Option Int → Option Int → Mem → (W → Mem → Prop) → Prop
def SSl (K : PySem.W.Frag) (r : V → Option Int → Option Int → Hp → VK → Prop) (f : FSl) : Prop := ∀ F H M v x lo hi R Q, Rl K F H M → RW K F v x → f x lo hi M R → Kt K F H M R Q → r v lo hi H Q
@[reducible] def slT (f : FSl) (T : TDE) (Tl Th : TDO) : TDE := fun ρ M R => T ρ M fun x M1 => Tl ρ M1 fun lo M2 => Th ρ M2 fun hi M3 => f x lo hi M3 R
theorem se_sl {r : V → Option Int → Option Int → Hp → VK → Prop} {f : FSl} {te : TE} {tl th : TO} {T : TDE} {Tl Th : TDO} (ho : SSl K r f) (he : SE K Wx RE te T) (hl : SPt K Wx RE tl Tl) (hh : SPt K Wx RE th Th) : SE K Wx RE (tSl r te tl th) (slT f T Tl Th) := fun F H M σ ρ R Q hr hx hs ht k =>
  he F H M σ ρ _ _ hr hx hs ht fun v H1 F1 M1 x r1 g1 rx h1 => hl F1 H1 M1 σ ρ _ _ r1 (hx.mono g1) (hs.mono g1.ff) h1 fun lo H2 F2 M2 r2 g2 h2 =>
    hh F2 H2 M2 σ ρ _ _ r2 (hx.mono (g1.trans g2)) (hs.mono (g1.trans g2).ff) h2 fun hi H3 F3 M3 r3 g3 h3 =>
      ho F3 H3 M3 v x lo hi R Q r3 (rx.mono (g2.trans g3).ff) h3 fun w H4 F4 M4 z r4 g4 rz hz => k w H4 F4 M4 z r4 (((g1.trans g2).trans g3).trans g4) rz hz
def cut {α : Type} (xs : List α) (lo hi : Option Int) : List α := (xs.drop (HT.sIx xs.length 0 lo)).take (HT.sIx xs.length xs.length hi - HT.sIx xs.length 0 lo)
theorem cut_dx {F : Hp} {vs : List V} {ds : List PyData} {lo hi : Option Int} (r : DxL K F vs ds) : DxL K F (cutV vs lo hi) (cut ds lo hi) := by
  unfold cutV cut
  rw [r.len]
  exact (r.drop _).take _
theorem cut_whole {α : Type} {xs : List α} {lo hi : Option Int} (h : HT.sIx xs.length 0 lo = 0 ∧ HT.sIx xs.length xs.length hi = xs.length) : cut xs lo hi = xs := by
  unfold cut
  rw [h.1, h.2, List.drop_zero, Nat.sub_zero, List.take_length]
@[reducible] def fSlT : FSl := fun x lo hi M R => gT x fun ds => R (.d (.tuple (cut ds lo hi))) M
theorem sl_T : SSl K (rSlA K) fSlT := fun F H M v x lo hi R Q hr rx hf k => by
  obtain ⟨ds, rfl, h1⟩ := gT_of hf
  obtain ⟨a, xs, rfl, h2, h3⟩ := rx.tup
  refine ⟨a, xs, rfl, same_t hr.fh h2, fun hw => ?_, fun _ p hp => ?_⟩
  · rw [h3.len] at hw
    rw [cut_whole hw] at h1
    exact k _ H F M _ hr .refl rx h1
  · obtain ⟨r2, g2, rz⟩ := hr.tup hp (cut_dx (lo := lo) (hi := hi) h3)
    exact k _ _ _ _ _ r2 g2 rz h1
/-- a slice of a list: data -/
@[reducible] def fSlF : FSl := fun x lo hi M R => gW M x fun ws => gDs ws fun ds => R (.d (.list (cut ds lo hi))) M
theorem sl_F : SSl K (rSlL K) fSlF := fun F H M v x lo hi R Q hr rx hf k => by
  obtain ⟨a, vs, ws, rfl, h1, h2, h3⟩ := gW_of hr rx hf
  obtain ⟨ds, rfl, h4⟩ := gDs_of h3
  refine ⟨a, vs, rfl, SqL.of h1, fun p hp => ?_⟩
  obtain ⟨r2, g2, rz⟩ := hr.list hp (cut_dx (lo := lo) (hi := hi) h2.undat)
  exact k _ _ _ _ _ r2 g2 rz h4
/-! ### + and * of rows -/
/-- list + list: data -/
@[reducible] def fCatF : F2 := fun x y M R => gW M x fun a => gW M y fun b => gDs a fun a => gDs b fun b => a.length + b.length ≤ sizeLine ∧ R (.d (.list (a ++ b))) M
theorem so_catF : SO K rCat fCatF := fun F H M v u x y R Q hr rx ry hf k => by
  obtain ⟨p, vs, ws, rfl, h1, h2, h3⟩ := gW_of hr rx hf
  obtain ⟨q, us, zs, rfl, h4, h5, h6⟩ := gW_of hr ry h3
  obtain ⟨a, rfl, h7⟩ := gDs_of h6
  obtain ⟨b, rfl, hz, h8⟩ := gDs_of h7
  refine ⟨p, q, vs, us, rfl, rfl, h1, h4, by rw [h2.len, h5.len, List.length_map, List.length_map]; exact hz, fun t ht => ?_⟩
  obtain ⟨r2, g2, rz⟩ := hr.list ht (h2.undat.app h5.undat)
  exact k _ _ _ _ _ r2 g2 rz h8
@[reducible] def fRepT : F2 := fun x y M R => gT x fun a => gI y fun n => (0 ≤ n ∧ n ≤ 1000 ∧ a.length ≤ 1000) ∧ R (.d (.tuple (List.replicate n.toNat a).flatten)) M
theorem so_repT : SO K (rRepA K) fRepT := fun F H M v u x y R Q hr rx ry hf k => by
  obtain ⟨a, rfl, h1⟩ := gT_of hf
  obtain ⟨n, rfl, ⟨c1, c2, c3⟩, h2⟩ := gI_of h1
  obtain ⟨p, xs, rfl, h3, h4⟩ := rx.tup
  refine ⟨p, n, xs, rfl, ry.int, same_t hr.fh h3, c1, c2, by rw [h4.len]; exact c3, fun e => ?_, fun _ t ht => ?_⟩
  · have ea : (List.replicate n.toNat a).flatten = a := by
      rcases e with e | e
      · have : a = [] := by
          apply List.eq_nil_of_length_eq_zero
          rw [← h4.len, e]
          rfl
        subst this
        simp
      · subst e
        simp
    rw [ea] at h2
    exact k _ H F M _ hr .refl rx h2
  · obtain ⟨r2, g2, rz⟩ := hr.tup ht (h4.rep n.toNat)
    exact k _ _ _ _ _ r2 g2 rz h2
end
end Tl
set_option Elab.async false
set_option linter.all false
set_option maxRecDepth 100000
set_option maxHeartbeats 4000000
namespace Tl
open PySem L2
section
variable {K : PySem.W.Frag} {Wx : WX} {RE : REx}
/-! ### built-in calls -/
@[reducible] def cbT (f : FL) (T : TDA) : TDE := fun ρ M R => T ρ M fun xs M1 => f xs M1 R
theorem se_cb {n : Nat} {r : List V → Hp → VK → Prop} {f : FL} {t : TA} {T : TDA} (ho : SC K r f) (h : SAn K Wx RE n t T) : SE K Wx RE (tCB r t) (cbT f T) := fun F H M σ ρ R Q hr hx hs ht k =>
  h F H M σ ρ _ _ hr hx hs ht fun vs H1 F1 M1 xs r1 g1 rxs hl h1 => ho F1 H1 M1 vs xs R Q r1 rxs h1 fun w H2 F2 M2 z r2 g2 rz hz => k w H2 F2 M2 z r2 (g1.trans g2) rz hz
@[reducible] def g1 (xs : List W) (k : W → Prop) : Prop := match xs with | [x] => k x | _ => False
@[reducible] def g2 (xs : List W) (k : W → W → Prop) : Prop := match xs with | [x, y] => k x y | _ => False
theorem g1_of {xs : List W} {k : W → Prop} (h : g1 xs k) : ∃ x, xs = [x] ∧ k x := by
  unfold g1 at h
  split at h
  · exact ⟨_, rfl, h⟩
  · exact h.elim
theorem g2_of {xs : List W} {k : W → W → Prop} (h : g2 xs k) : ∃ x y, xs = [x, y] ∧ k x y := by
  unfold g2 at h
  split at h
  · exact ⟨_, _, rfl, h⟩
  · exact h.elim
theorem RWs.one {F : Hp} {vs : List V} {x : W} (r : RWs K F vs [x]) : ∃ v, vs = [v] ∧ RW K F v x := by
  cases r with
  | cons a b => cases b; exact ⟨_, rfl, a⟩
theorem RWs.two {F : Hp} {vs : List V} {x y : W} (r : RWs K F vs [x, y]) : ∃ v u, vs = [v, u] ∧ RW K F v x ∧ RW K F u y := by
  cases r with
  | cons a b => cases b with | cons b c => cases c; exact ⟨_, _, rfl, a, b⟩
/-- the length of a row -/
@[reducible] def fLen : FL := fun xs M R => g1 xs fun x => match x with
  | .d (.tuple ds) => R (.d (.int ds.length)) M
  | x => gW M x fun ws => R (.d (.int ws.length)) M
theorem sc_len : SC K (fun xs H Q => ∃ p ys, xs = [V.ref p] ∧ (SqL K H p ys ∨ SqT K H p ys) ∧ Q (.int ys.length) H) fLen := fun F H M vs xs R Q hr rx hf k => by
  obtain ⟨x, rfl, h1⟩ := g1_of hf
  obtain ⟨v, rfl, r⟩ := rx.one
  have hw : (∀ ds, x ≠ .d (.tuple ds)) → gW M x (fun ws => R (.d (.int ws.length)) M) := fun hn => by
    cases x with
    | d a =>
      cases a with
      | tuple ds => exact absurd rfl (hn ds)
      | _ => exact h1
    | r a => exact h1
    | o a => exact h1
    | x a C dd fs => exact h1
  by_cases c : ∃ ds, x = .d (.tuple ds)
  · obtain ⟨ds, rfl⟩ := c
    obtain ⟨a, xs, rfl, h2, h3⟩ := r.tup
    refine ⟨a, xs, rfl, .inr (same_t hr.fh h2), ?_⟩
    rw [h3.len]
    exact k _ H F M _ hr .refl (.d (.int _)) h1
  · obtain ⟨a, us, ws, rfl, h2, h3, h4⟩ := gW_of hr r (hw fun ds e => c ⟨ds, e⟩)
    refine ⟨a, us, rfl, .inl (SqL.of h2), ?_⟩
    rw [h3.len]
    exact k _ H F M _ hr .refl (.d (.int _)) h4
/-- all truths -/
inductive gBs (xs : List W) (k : List Bool → Prop) : Prop where
  | mk (bs : List Bool) (h : xs = bs.map fun b => W.d (.bool b)) (q : k bs)
theorem gBs_of {xs : List W} {k : List Bool → Prop} (h : gBs xs k) : ∃ bs : List Bool, xs = bs.map (fun b => W.d (.bool b)) ∧ k bs := by
  cases h with
  | mk bs h q => exact ⟨bs, h, q⟩
theorem gBs_map {α : Type} (g : α → Bool) {xs : List α} {k : List Bool → Prop} : gBs (xs.map fun a => W.d (.bool (g a))) k = k (xs.map g) := propext ⟨fun h => by
  obtain ⟨es, e, q⟩ := gBs_of h
  rw [show (xs.map fun a => W.d (.bool (g a))) = (xs.map g).map fun b => W.d (.bool b) by rw [List.map_map]; rfl] at e
  rw [map_injD (fun a b h => by injection h with h; injection h) e]
  exact q, fun q => .mk (xs.map g) (by rw [List.map_map]; rfl) q⟩
theorem gBs_n {k : List Bool → Prop} (q : k []) : gBs [] k := .mk [] rfl q
theorem gBs_c {x : W} {r : List W} {k : List Bool → Prop} (h : gB x fun b => gBs r fun bs => k (b :: bs)) : gBs (x :: r) k := by
  obtain ⟨a, rfl, h⟩ := gB_of h
  obtain ⟨bs, rfl, q⟩ := gBs_of h
  exact .mk (a :: bs) rfl q
inductive gIs (xs : List W) (k : List Int → Prop) : Prop where
  | mk (bs : List Int) (h : xs = bs.map fun b => W.d (.int b)) (q : k bs)
theorem gIs_of {xs : List W} {k : List Int → Prop} (h : gIs xs k) : ∃ bs : List Int, xs = bs.map (fun b => W.d (.int b)) ∧ k bs := by
  cases h with
  | mk bs h q => exact ⟨bs, h, q⟩
theorem gIs_n {k : List Int → Prop} (q : k []) : gIs [] k := .mk [] rfl q
theorem gIs_c {x : W} {r : List W} {k : List Int → Prop} (h : gI x fun b => gIs r fun bs => k (b :: bs)) : gIs (x :: r) k := by
  obtain ⟨a, rfl, h⟩ := gI_of h
  obtain ⟨bs, rfl, q⟩ := gIs_of h
  exact .mk (a :: bs) rfl q
inductive gSs (xs : List W) (k : List Str → Prop) : Prop where
  | mk (bs : List Str) (h : xs = bs.map fun b => W.d (.str b)) (q : k bs)
theorem gSs_of {xs : List W} {k : List Str → Prop} (h : gSs xs k) : ∃ bs : List Str, xs = bs.map (fun b => W.d (.str b)) ∧ k bs := by
  cases h with
  | mk bs h q => exact ⟨bs, h, q⟩
theorem gSs_n {k : List Str → Prop} (q : k []) : gSs [] k := .mk [] rfl q
theorem gSs_c {x : W} {r : List W} {k : List Str → Prop} (h : gS x fun b => gSs r fun bs => k (b :: bs)) : gSs (x :: r) k := by
  obtain ⟨a, rfl, h⟩ := gS_of h
  obtain ⟨bs, rfl, q⟩ := gSs_of h
  exact .mk (a :: bs) rfl q
theorem rws_bl {F : Hp} : ∀ {bs : List Bool} {vs : List V}, RWs K F vs (bs.map fun b => W.d (.bool b)) → vs = bs.map V.bl
  | [], _, h => by cases h; rfl
  | b :: bs, _, h => by
    cases h with
    | cons a c => rw [rws_bl c, a.bl]; rfl
@[reducible] def fAll : FL := fun xs M R => g1 xs fun x => gW M x fun ws => gBs ws fun bs => R (.d (.bool (bs.all id))) M
theorem sc_all : SC K (rAll K) fAll := fun F H M vs xs R Q hr rx hf k => by
  obtain ⟨x, rfl, h1⟩ := g1_of hf
  obtain ⟨v, rfl, r⟩ := rx.one
  obtain ⟨a, us, ws, rfl, h2, h3, h4⟩ := gW_of hr r h1
  obtain ⟨bs, rfl, h5⟩ := gBs_of h4
  refine ⟨a, bs, rfl, ?_, k _ H F M _ hr .refl (.d (.bl _)) h5⟩
  rw [← rws_bl h3]
  exact SqL.of h2
/-- tuple(..) -/
@[reducible] def fTuple : FL := fun xs M R => g1 xs fun x => match x with
  | .d (.tuple ds) => R (.d (.tuple ds)) M
  | x => gW M x fun ws => gDs ws fun ds => R (.d (.tuple ds)) M
@[reducible] def fInt : FL := fun xs M R => g1 xs fun x => match x with
  | .d (.bool b) => R (.d (.int (if b then 1 else 0))) M
  | x => gI x fun i => R (.d (.int i)) M
theorem sc_int : SC K (fun xs H Q => (∃ i, xs = [V.int i] ∧ Q (.int i) H) ∨ ∃ k, xs = [.bl k] ∧ Q (.int (if k then 1 else 0)) H) fInt := fun F H M vs xs R Q hr rx hf k => by
  obtain ⟨x, rfl, h1⟩ := g1_of hf
  obtain ⟨v, rfl, r⟩ := rx.one
  have hw : (∀ b, x ≠ .d (.bool b)) → gI x (fun i => R (.d (.int i)) M) := fun hn => by
    cases x with
    | d a =>
      cases a with
      | bool b => exact absurd rfl (hn b)
      | _ => exact h1
    | r a => exact h1
    | o a => exact h1
    | x a C dd fs => exact h1
  by_cases c : ∃ b, x = .d (.bool b)
  · obtain ⟨b, rfl⟩ := c
    exact .inr ⟨b, by rw [r.bl], k _ H F M _ hr .refl (.d (.int _)) h1⟩
  · obtain ⟨i, rfl, h2⟩ := gI_of (hw fun b e => c ⟨b, e⟩)
    exact .inl ⟨i, by rw [r.int], k _ H F M _ hr .refl (.d (.int _)) h2⟩
@[reducible] def isList : PyData → Bool
  | .list _ => true
  | _ => false
/-! ### isinstance -/
def tyIs (d : PyData) (n : String) : Option Bool :=
  if n = "int" then some (isInt d) else if n = "bool" then some (isBl d) else if n = "str" then some (isStr d) else if n = "tuple" then some (isTup d) else if n = "list" then some (isList d) else none
theorem kit_lst (d : PyData) : kitB (tyName d) "list" = some (isList d) := by cases d <;> (simp only [tyName, isList]; decide +kernel)
theorem tyIs_kit {d : PyData} {n : String} {b : Bool} (h : tyIs d n = some b) : kitB (tyName d) n = some b := by
  unfold tyIs at h
  split at h
  · rename_i e; subst e; rw [← h]; exact kit_int d
  · split at h
    · rename_i e; subst e; rw [← h]; exact kit_bl d
    · split at h
      · rename_i e; subst e; rw [← h]; exact kit_str d
      · split at h
        · rename_i e; subst e; rw [← h]; exact kit_tup d
        · split at h
          · rename_i e; subst e; rw [← h]; exact kit_lst d
          · cases h
theorem ty_dx {H : Hp} {v : V} {d : PyData} (h : Dx K H v d) : TyX K H v (.type (tyName d)) := by
  cases h with
  | non => exact .base .non
  | bl b => exact .base (.bl b)
  | int i => exact .base (.int i)
  | str x => exact .base (.str x)
  | lst hs _ => exact .base (.lst hs)
  | tup hs _ =>
    rcases hs with (h | ⟨o, h⟩) | ⟨o, its, n, h1, h2, _⟩
    · exact .base (.tup h)
    · exact .fTuple h
    · exact .kTuple h1 h2
  | dic h => exact .base (.dK h)
@[reducible] def fIsi : FL := fun xs M R => g2 xs fun x y => match y with
  | .o (.ty n) => (match x with
    | .d a => gO (tyIs a n) fun b => R (.d (.bool b)) M
    | .r a => ∃ ws, M a = some (.lst ws) ∧ gO (tyIs (.list []) n) fun b => R (.d (.bool b)) M
    | _ => False)
  | _ => False
theorem sc_isi : SC K (rIsi K) fIsi := fun F H M vs xs R Q hr rx hf k => by
  obtain ⟨x, y, rfl, h1⟩ := g2_of hf
  obtain ⟨v, u, rfl, r, r'⟩ := rx.two
  cases y with
  | d a => exact h1.elim
  | r a => exact h1.elim
  | x a C dd fs => exact h1.elim
  | o z =>
    cases r'
    cases u with
    | ty n =>
      cases x with
      | o a => exact h1.elim
      | x a C dd fs => exact h1.elim
      | d a =>
        obtain ⟨b, h2, h3⟩ := gO_of h1
        exact ⟨v, .ty n, _, _, b, rfl, .ty n, ty_dx (Dx.mono hr.fh _ _ r.dx), kit_ty (tyIs_kit h2), k _ H F M _ hr .refl (.d (.bl _)) h3⟩
      | r a =>
        obtain ⟨ws, h0, h2⟩ := h1
        obtain ⟨b, h3, h4⟩ := gO_of h2
        obtain ⟨us, h5, h6⟩ := hr.lst h0
        rw [r.ref]
        have hk : kitB "list" n = some b := tyIs_kit (d := .list []) h3
        exact ⟨.ref a, .ty n, .type "list", _, b, rfl, .ty n, .base (.lst h5), kit_ty hk, k _ H F M _ hr .refl (.d (.bl _)) h4⟩
    | _ => exact h1.elim
/-! ### methods of a list that may change -/
/-- a method of a list -/
def SM (K : PySem.W.Frag) (r : V → List V → Hp → VK → Prop) (f : W → List W → Mem → (W → Mem → Prop) → Prop) : Prop := ∀ F H M v vs x xs R Q, Rl K F H M → RW K F v x → RWs K F vs xs → f x xs M R → Kt K F H M R Q → r v vs H Q
@[reducible] def bmL (f : W → List W → Mem → (W → Mem → Prop) → Prop) (T : TDE) (U : TDA) : TDE := fun ρ M R => T ρ M fun x M1 => gR x fun a => (∃ ws, M1 a = some (.lst ws)) ∧ U ρ M1 fun xs M2 => f (.r a) xs M2 R
theorem se_bmL {n : Nat} {r : V → List V → Hp → VK → Prop} {f : W → List W → Mem → (W → Mem → Prop) → Prop} {to : TE} {t : TA} {T : TDE} {U : TDA} (ho : SM K r f) (h1 : SE K Wx RE to T) (h2 : SAn K Wx RE n t U) :
    SE K Wx RE (tBM K "list" r to t) (bmL f T U) := fun F H M σ ρ R Q hr hx hs ht k =>
  h1 F H M σ ρ _ _ hr hx hs ht fun v H1 F1 M1 x r1 g1 rx q1 => by
    obtain ⟨a, rfl, ⟨ws, hw⟩, q2⟩ := gR_of q1
    rw [rx.ref]
    obtain ⟨vs, h3, h4⟩ := r1.lst hw
    refine ⟨.inl ⟨rfl, _, SqL.of h3⟩, h2 F1 H1 M1 σ ρ _ _ r1 (hx.mono g1) (hs.mono g1.ff) q2 fun us H2 F2 M2 xs r2 g2 rxs hl q3 => ?_⟩
    exact ho F2 H2 M2 _ us _ xs R Q r2 (.r a) rxs q3 fun w H3 F3 M3 z r3 g3 rz hz => k w H3 F3 M3 z r3 ((g1.trans g2).trans g3) rz hz
@[reducible] def fAppend : W → List W → Mem → (W → Mem → Prop) → Prop := fun x xs M R => gR x fun a => g1 xs fun y => ∃ ws, M a = some (.lst ws) ∧ ws.length < sizeLine ∧ R (.d .none) (mset M a (.lst (ws ++ [y])))
theorem sm_append : SM K rAppend fAppend := fun F H M v vs x xs R Q hr rx rxs hf k => by
  obtain ⟨a, rfl, h1⟩ := gR_of hf
  obtain ⟨y, rfl, ws, h2, hz, h3⟩ := g1_of h1
  obtain ⟨u, rfl, ry⟩ := rxs.one
  obtain ⟨us, h4, h5⟩ := hr.lst h2
  rw [rx.ref]
  refine ⟨a, us, u, rfl, rfl, h4, by rw [h5.len]; exact hz, ?_⟩
  obtain ⟨r2, g2⟩ := hr.put (u := .lst (us ++ [u])) (o := .lst (ws ++ [y])) h2 ⟨_, rfl, h5.app (.cons ry .nil)⟩
  exact k _ _ _ _ _ r2 g2 (.d .non) h3
/-! ### calls of defs -/
abbrev TF := List W → Mem → (W → Mem → Prop) → (Ex → Mem → Prop) → Prop
/-- the promise of a def by the second layer -/
def spD (K : PySem.W.Frag) (n : Nat) (f : TF) : Sp := fun vs H Q E => ∃ F M ws R RX, Rl K F H M ∧ RWs K F vs ws ∧ ws.length = n ∧ f ws M R RX ∧ Kt K F H M R Q ∧
  ∀ cls d H' F' M' x, Rl K F' H' M' → Gr F H M F' H' M' → XRel K F' cls d x → RX x M' → E cls d H'
@[reducible] def callT (f : TF) (T : TDA) : TDE := fun ρ M R => T ρ M fun xs M1 => f xs M1 R fun _ _ => False
@[reducible] def callX (RE : REx) (f : TF) (T : TDA) : TDE := fun ρ M R => T ρ M fun xs M1 => f xs M1 R fun x M' => RE x ρ M'
theorem se_call {n : Nat} {f : TF} {E : XK} {t : TA} {T : TDA} (h : SAn K Wx RE n t T) : SE K Wx RE (tCall (spD K n f) [] E t) (callT f T) := fun F H M σ ρ R Q hr hx hs ht k =>
  h F H M σ ρ _ _ hr hx hs ht fun vs H1 F1 M1 xs r1 g1 rxs hl h1 => by
    show spD K n f (vs ++ []) H1 Q E
    rw [List.append_nil]
    exact ⟨F1, M1, xs, R, _, r1, rxs, hl, h1, fun w H2 F2 M2 z r2 g2 rz hz => k w H2 F2 M2 z r2 (g1.trans g2) rz hz, fun cls d H' F' M' x _ _ _ z => z.elim⟩
theorem se_callX {n : Nat} {f : TF} {t : TA} {T : TDA} (h : SAn K Wx RE n t T) : SE K Wx RE (tCallS (spD K n f) (WE Wx) t) (callX RE f T) := fun F H M σ ρ R Q hr hx hs ht k =>
  h F H M σ ρ _ _ hr hx hs ht fun vs H1 F1 M1 xs r1 g1 rxs hl h1 =>
    ⟨F1, M1, xs, R, _, r1, rxs, hl, h1, fun w H2 F2 M2 z r2 g2 rz hz => k w H2 F2 M2 z r2 (g1.trans g2) rz hz, fun cls d H' F' M' x r2 g2 xr z => hx F' H' M' σ ρ cls d x (g1.trans g2) r2 (hs.mono (g1.trans g2).ff) xr z⟩
end
end Tl
set_option Elab.async false
set_option linter.all false
set_option maxRecDepth 100000
set_option maxHeartbeats 4000000
namespace Tl
open PySem L2
/-! ### what is walked -/
/-- one turn's item: one thing as it stands, or a pair that is made for it -/
def Yd (K : PySem.W.Frag) (F H : Hp) (x : V) (H' : Hp) (row : List W) (pair : Bool) : Prop :=
  if pair = true then ∃ T v1 v2 w1 w2, row = [w1, w2] ∧ x = .ref T ∧ H T = none ∧ H' = upd H T (.tup [v1, v2]) ∧ RW K F v1 w1 ∧ RW K F v2 w2
  else ∃ w, row = [w] ∧ H' = H ∧ RW K F x w
def ItOk (K : PySem.W.Frag) (F H : Hp) (M : Mem) (J : It) (rows : List (List W)) (keep : Mem → Prop) (pair : Bool) : Prop :=
  ∃ (G : Hp → Prop) (Y : Nat → Hp → V → Hp → Prop), Walk J rows.length G Y ∧ (∀ F2 H2 M2, Rl K F2 H2 M2 → Gr F H M F2 H2 M2 → keep M2 → G H2) ∧
    ∀ i x H2 H3 F2 M2 row, rows[i]? = some row → Rl K F2 H2 M2 → Gr F H M F2 H2 M2 → keep M2 → Y i H2 x H3 → Yd K F2 H2 x H3 row pair
theorem ItOk.of {K : PySem.W.Frag} {F H : Hp} {M : Mem} {J : It} {rows : List (List W)} {keep : Mem → Prop} {pair : Bool} {n : Nat} {G : Hp → Prop} {Y : Nat → Hp → V → Hp → Prop} (wk : Walk J n G Y) (hn : rows.length = n)
    (hG : ∀ F2 H2 M2, Rl K F2 H2 M2 → Gr F H M F2 H2 M2 → keep M2 → G H2) (hY : ∀ i x H2 H3 F2 M2 row, rows[i]? = some row → Rl K F2 H2 M2 → Gr F H M F2 H2 M2 → keep M2 → Y i H2 x H3 → Yd K F2 H2 x H3 row pair) : ItOk K F H M J rows keep pair :=
  ⟨G, Y, by rw [hn]; exact wk, hG, hY⟩
abbrev TDI := EnvD → Mem → (List (List W) → (Mem → Prop) → Mem → Prop) → Prop
def SI (K : PySem.W.Frag) (Wx : WX) (RE : REx) (wi : TI) (pair : Bool) (T : TDI) : Prop :=
  ∀ F H M σ ρ (R : List (List W) → (Mem → Prop) → Mem → Prop) (Q : It → Hp → Prop), Rl K F H M → XOk K F H M Wx RE → RelS K F σ ρ → T ρ M R →
    (∀ J H' F' M' rows keep, Rl K F' H' M' → Gr F H M F' H' M' → ItOk K F' H' M' J rows keep pair → R rows keep M' → Q J H') → wi σ H Q
abbrev TDG := List W → EnvD → Mem → (EnvD → Mem → Prop) → Prop
/-- binding a turn's item: the slots vs alone are changed -/
def SG (K : PySem.W.Frag) (g : TG) (pair : Bool) (vs : List Nat) (b : TDG) : Prop :=
  ∀ F H M x H' row σ ρ (R : EnvD → Mem → Prop) (Q : L2.St → Hp → Prop), Rl K F H M → Yd K F H x H' row pair → RelS K F σ ρ → b row ρ M R →
    (∀ σ' H2 F2 M2 ρ', Rl K F2 H2 M2 → Gr F H M F2 H2 M2 → RelS K F2 σ' ρ' → (wipe σ' vs = wipe σ vs) → R ρ' M2 → Q σ' H2) → g x σ H' Q
section
variable {K : PySem.W.Frag} {Wx : WX} {RE : REx}
@[reducible] def any1 : Mem → Prop := fun _ => True
@[reducible] def rows1 (ws : List W) : List (List W) := ws.map fun w => [w]
/-- over a tuple -/
@[reducible] def itTup (T : TDE) : TDI := fun ρ M R => T ρ M fun x M1 => gT x fun ds => R (rows1 (ds.map W.d)) any1 M1
/-- over a list of data -/
@[reducible] def itLst (T : TDE) : TDI := fun ρ M R => T ρ M fun x M1 => match x with
  | .d (.list ds) => R (rows1 (ds.map W.d)) any1 M1
  | .r a => ∃ ws, M1 a = some (.lst ws) ∧ R (rows1 ws) (fun M => M a = some (.lst ws)) M1
  | _ => False
theorem rows1_get {ws : List W} {i : Nat} {row : List W} (h : (rows1 ws)[i]? = some row) : ∃ w, ws[i]? = some w ∧ row = [w] := by
  unfold rows1 at h
  rw [List.getElem?_map] at h
  obtain ⟨w, h1, h2⟩ := Option.map_eq_some_iff.mp h
  exact ⟨w, h1, h2.symm⟩
theorem si_tup {t : TE} {T : TDE} (h : SE K Wx RE t T) : SI K Wx RE (iTup K t) false (itTup T) := fun F H M σ ρ R Q hr hx hs ht k =>
  h F H M σ ρ _ _ hr hx hs ht fun v H1 F1 M1 x r1 g1 rx h1 => by
    obtain ⟨ds, rfl, h2⟩ := gT_of h1
    obtain ⟨a, xs, rfl, h3, h4⟩ := rx.tup
    refine ⟨a, rfl, ⟨xs, same_t r1.fh h3⟩, k _ H1 F1 M1 _ _ r1 g1 ?_ h2⟩
    refine ItOk.of (walk_tup (K := K) (a := a) (xs := xs)) (by unfold rows1; rw [List.length_map, List.length_map, h4.len]) (fun F2 H2 M2 r2 g2 _ => same_t (g2.ff.trans r2.fh) h3) (fun i x H2 H3 F2 M2 row hrow r2 g2 _ y => ?_)
    · obtain ⟨w, hw, rfl⟩ := rows1_get hrow
      rw [List.getElem?_map] at hw
      obtain ⟨d, hd, rfl⟩ := Option.map_eq_some_iff.mp hw
      obtain ⟨v, hv, dv⟩ := h4.got hd
      obtain ⟨rfl, hy⟩ := y
      rw [hv] at hy
      cases hy
      exact ⟨_, rfl, rfl, .d (Dx.mono g2.ff _ _ dv)⟩
theorem si_lst {t : TE} {T : TDE} (h : SE K Wx RE t T) : SI K Wx RE (iList K t) false (itLst T) := fun F H M σ ρ R Q hr hx hs ht k =>
  h F H M σ ρ _ _ hr hx hs ht fun v H1 F1 M1 x r1 g1 rx h1 => by
    cases x with
    | o a => exact h1.elim
    | x a C dd fs => exact h1.elim
    | d a =>
      cases a with
      | list ds =>
        obtain ⟨a, xs, rfl, h3, h4⟩ := rx.lst
        refine ⟨a, rfl, ⟨xs, SqL.of (r1.fh _ _ h3)⟩, k _ H1 F1 M1 _ _ r1 g1 ?_ h1⟩
        refine ItOk.of (walk_list (K := K) (a := a) (xs := xs)) (by unfold rows1; rw [List.length_map, List.length_map, h4.len]) (fun F2 H2 M2 r2 g2 _ => SqL.of ((g2.ff.trans r2.fh) _ _ h3)) (fun i x H2 H3 F2 M2 row hrow r2 g2 _ y => ?_)
        · obtain ⟨w, hw, rfl⟩ := rows1_get hrow
          rw [List.getElem?_map] at hw
          obtain ⟨d, hd, rfl⟩ := Option.map_eq_some_iff.mp hw
          obtain ⟨v, hv, dv⟩ := h4.got hd
          obtain ⟨rfl, hy⟩ := y
          rw [hv] at hy
          cases hy
          exact ⟨_, rfl, rfl, .d (Dx.mono g2.ff _ _ dv)⟩
      | _ => exact h1.elim
    | r a =>
      obtain ⟨ws, hw, h2⟩ := h1
      rw [rx.ref]
      obtain ⟨xs, h3, h4⟩ := r1.lst hw
      refine ⟨a, rfl, ⟨xs, SqL.of h3⟩, k _ H1 F1 M1 _ _ r1 g1 ?_ h2⟩
      refine ⟨fun H => ∃ vs, H a = some (.lst vs) ∧ vs.length = ws.length, fun i H x H' => H' = H ∧ ∀ vs, H a = some (.lst vs) → vs[i]? = some x, ?_, fun F2 H2 M2 r2 g2 hk => ?_, fun i x H2 H3 F2 M2 row hrow r2 g2 hk y => ?_⟩
      · have el : (rows1 ws).length = ws.length := by unfold rows1; rw [List.length_map]
        rw [el]
        refine ⟨fun i H hi ⟨vs, q1, q2⟩ => ⟨vs, vs[i]'(by omega), SqL.of q1, List.getElem?_eq_getElem _⟩, fun H ⟨vs, q1, q2⟩ => ⟨vs, SqL.of q1, by omega⟩, fun i H x H' hi ⟨vs, q1, q2⟩ y => ⟨y.1, fun us hu => y.2 us (SqL.of hu)⟩⟩
      · obtain ⟨vs, q1, q2⟩ := r2.lst hk
        exact ⟨vs, q1, q2.len⟩
      · obtain ⟨w, hw, rfl⟩ := rows1_get hrow
        obtain ⟨vs, q1, q2⟩ := r2.lst hk
        obtain ⟨v, hv, rv⟩ := q2.got hw
        obtain ⟨rfl, hy⟩ := y
        have := hy vs q1
        rw [hv] at this
        cases this
        exact ⟨_, rfl, rfl, rv⟩
/-- over a range -/
def rng (lo : Int) (n : Nat) : List W := (List.range n).map fun i => W.d (.int (lo + (i : Nat)))
/-- small enough for a range -/
def Sm (i : Int) : Prop := -(2 ^ 62) ≤ i ∧ i < 2 ^ 62
theorem sm_of {i : Int} (h1 : -1000000000 ≤ i) (h2 : i ≤ 1000000000) : Sm i := ⟨by omega, by omega⟩
@[reducible] def itR1 (T : TDA) : TDI := fun ρ M R => T ρ M fun xs M1 => g1 xs fun x => gI x fun j => Sm j ∧ R (rows1 (rng 0 j.toNat)) any1 M1
theorem rng_ok {F H : Hp} {M : Mem} {lo : Int} {n : Nat} : ItOk K F H M (Itr lo n) (rows1 (rng lo n)) any1 false := by
  refine ItOk.of (walk_range (lo := lo) (n := n)) (by unfold rows1 rng; rw [List.length_map, List.length_map, List.length_range]) (fun F2 H2 M2 r2 g2 _ => True.intro) (fun i x H2 H3 F2 M2 row hrow r2 g2 _ y => ?_)
  · obtain ⟨w, hw, rfl⟩ := rows1_get hrow
    unfold rng at hw
    rw [List.getElem?_map] at hw
    obtain ⟨c, hc, rfl⟩ := Option.map_eq_some_iff.mp hw
    have e : c = i := by
      obtain ⟨h1, h2⟩ := List.getElem?_eq_some_iff.mp hc
      rw [← h2]
      simp
    subst e
    obtain ⟨rfl, rfl⟩ := y
    exact ⟨_, rfl, rfl, .d (.int _)⟩
theorem si_r1 {t : TA} {T : TDA} {n : Nat} (h : SAn K Wx RE n t T) : SI K Wx RE (iRng1 t) false (itR1 T) := fun F H M σ ρ R Q hr hx hs ht k =>
  h F H M σ ρ _ _ hr hx hs ht fun vs H1 F1 M1 xs r1 g1 rxs hl h1 => by
    obtain ⟨x, rfl, h2⟩ := g1_of h1
    obtain ⟨j, rfl, ⟨c1, c2⟩, h3⟩ := gI_of h2
    obtain ⟨v, rfl, rv⟩ := rxs.one
    exact ⟨j, by rw [rv.int], c1, c2, k _ H1 F1 M1 _ _ r1 g1 rng_ok h3⟩
/-! ### binding -/
@[reducible] def bName (i : Nat) : TDG := fun row ρ M R => match row with | [w] => R (put ρ i (some w)) M | _ => False
theorem sg_name {i : Nat} : SG K (gName i) false [i] (bName i) := fun F H M x H' row σ ρ R Q hr hy hs hb k => by
  obtain ⟨w, rfl, rfl, rx⟩ := hy
  refine k _ _ F M _ hr .refl (hs.set rx i) ?_ hb
  show (σ.set i (some x)).set i none = σ.set i none
  rw [List.set_set]
theorem wipe2 {σ : L2.St} {i j : Nat} {a b : Option V} : wipe ((σ.set i a).set j b) [i, j] = wipe σ [i, j] := by
  show (((σ.set i a).set j b).set j none).set i none = (σ.set j none).set i none
  rw [List.set_set]
  by_cases h : i = j
  · subst h
    rw [List.set_set, List.set_set, List.set_set]
  · rw [List.set_comm _ _ h, List.set_set]
/-- a tuple that stands there: two names -/
@[reducible] def bTup2 (i j : Nat) : TDG := fun row ρ M R => match row with | [w] => gT w fun ds => (match ds with | [a, b] => R (put (put ρ i (some (.d a))) j (some (.d b))) M | _ => False) | _ => False
theorem sg_tup2 {i j : Nat} : SG K (gTup K 2 (gCons (gName i) (gCons (gName j) gNil))) false [i, j] (bTup2 i j) := fun F H M x H' row σ ρ R Q hr hy hs hb k => by
  obtain ⟨w, rfl, rfl, rx⟩ := hy
  obtain ⟨ds, rfl, h1⟩ := gT_of hb
  obtain ⟨a, xs, rfl, h2, h3⟩ := rx.tup
  split at h1
  · rename_i c d
    cases h3 with
    | cons q1 h3 =>
    cases h3 with
    | cons q2 h3 =>
    cases h3
    refine ⟨a, _, rfl, same_t hr.fh h2, rfl, _, _, rfl, _, [], rfl, rfl, ?_⟩
    exact k _ _ F M _ hr .refl ((hs.set (.d q1) i).set (.d q2) j) wipe2 h1
  · exact h1.elim
/-! ### list comprehensions -/
/-- one after another; behind all the new list -/
def lcGo (b : TDG) (keep : Mem → Prop) (tt : TDT) (te : TDE) (ρ : EnvD) (fin : List W → Mem → Prop) : List (List W) → List W → Mem → Prop
  | [], acc, M => keep M ∧ fin acc M
  | row :: rest, acc, M => keep M ∧ b row ρ M fun ρ1 M1 => tt ρ1 M1 fun c M2 => IfB c (te ρ1 M2 fun y M3 => acc.length < sizeLine ∧ lcGo b keep tt te ρ fin rest (acc ++ [y]) M3) (lcGo b keep tt te ρ fin rest acc M2)
theorem wipe_wipe : ∀ (vs : List Nat) (σ : L2.St), vs.length ≤ 2 → wipe (wipe σ vs) vs = wipe σ vs
  | [], σ, _ => rfl
  | [a], σ, _ => by
    show (σ.set a none).set a none = σ.set a none
    rw [List.set_set]
  | [a, b], σ, _ => by
    show (((σ.set b none).set a none).set b none).set a none = (σ.set b none).set a none
    by_cases h : a = b
    · subst h
      rw [List.set_set, List.set_set, List.set_set]
    · rw [List.set_comm _ _ h, List.set_set, List.set_set]
  | _ :: _ :: _ :: _, _, h => by simp at h
theorem RelS.wipe {F : Hp} {σ : L2.St} {ρ : EnvD} (h : RelS K F σ ρ) : ∀ (vs : List Nat), (∀ i ∈ vs, slot ρ i = none) → RelS K F (L2.wipe σ vs) ρ
  | [], _ => h
  | v :: vs, hn => by
    have ih := h.wipe vs fun i hi => hn i (.tail _ hi)
    refine ⟨by rw [wipe_length]; exact h.len, fun i x c => ?_⟩
    obtain ⟨u, h1, h2⟩ := ih.at_ i x c
    refine ⟨u, ?_, h2⟩
    show ((L2.wipe σ vs).set v none)[i]? = _
    rw [List.getElem?_set_ne fun z => by rw [z] at hn; have := hn i (.head _); rw [c] at this; cases this]
    exact h1
/-- the slots of a comprehension's own names forgotten -/
@[reducible] def hide (ρ : EnvD) : List Nat → EnvD
  | [] => ρ
  | v :: vs => put (hide ρ vs) v none
theorem hide_rel {F : Hp} {σ : L2.St} {ρ : EnvD} (h : RelS K F σ ρ) : ∀ vs, RelS K F (L2.wipe σ vs) (hide ρ vs)
  | [] => h
  | v :: vs => (hide_rel h vs).del v none
theorem lc_core {wi : TI} {g : TG} {tt : TT} {te : TE} {vs : List Nat} {pair : Bool} {it : TDI} {b : TDG} {Tt : TDT} {Te : TDE} (hi : SI K Wx RE wi pair it) (hg : SG K g pair vs b) (ht : ST K (fun _ _ _ _ => False) (fun _ _ _ => False) tt Tt) (he : SE K (fun _ _ _ _ => False) (fun _ _ _ => False) te Te) (hv : vs.length ≤ 2)
    (fin : (W → Mem → Prop) → List W → Mem → Prop)
    (hf : ∀ F H M R Q D acc vl, Rl K F H M → H D = some (.lst vl) → F D = none → M D = none → RWs K F vl acc → fin R acc M → (∀ F0 H0 M0, Gr F0 H0 M0 F H M → H0 D = none → Kt K F0 H0 M0 R Q → Q (.ref D) H)) :
    SE K Wx RE (tLc wi g tt te vs) (fun ρ M R => it ρ M fun rows keep M1 => lcGo b keep Tt Te (hide ρ vs) (fin R) rows [] M1) := fun F H M σ ρ R Q hr hx hs hT k =>
  hi F H M σ ρ _ _ hr hx hs hT fun J H1 F1 M1 rows keep r1 g1 iok h1 D hD => by
    obtain ⟨G, Y, wk, hG, hY⟩ := iok
    have x0 : ∀ (F H : Hp) (M : Mem), XOk K F H M (fun _ _ _ _ => False) (fun _ _ _ => False) := fun F H M F' H' M' σ ρ cls d x _ _ _ _ z => z
    refine lc_it wk (fun i H2 => ∃ F2 M2 acc vl, Rl K F2 H2 M2 ∧ Gr F1 H1 M1 F2 H2 M2 ∧ H2 D = some (.lst vl) ∧ F2 D = none ∧ M2 D = none ∧ RWs K F2 vl acc ∧ lcGo b keep Tt Te (hide ρ vs) (fin R) (rows.drop i) acc M2)
      ⟨F1, M1, [], [], (r1.hid (r1.fh.free hD) (r1.new hD)), ⟨Same.refl _, fun c u q n => ⟨by rw [upd_ne (ne_of_none q hD)]; exact q, n⟩, fun _ _ _ _ f => f⟩, upd_same, r1.fh.free hD, r1.new hD, .nil, h1⟩
      (fun i H2 hi2 ⟨F2, M2, acc, vl, r2, g2, d1, d2, d3, d4, q⟩ => ?_) (fun i x H2 H3 hi2 ⟨F2, M2, acc, vl, r2, g2, d1, d2, d3, d4, q⟩ y => ?_) (fun H2 ⟨F2, M2, acc, vl, r2, g2, d1, d2, d3, d4, q⟩ => ?_)
    · have hk : keep M2 := by
        cases hd : rows.drop i with
        | nil => rw [hd] at q; exact q.1
        | cons a b => rw [hd] at q; exact q.1
      exact hG F2 H2 M2 r2 g2 hk
    · rw [List.drop_eq_getElem_cons hi2] at q
      obtain ⟨hk, q⟩ := q
      have hrow : rows[i]? = some rows[i] := List.getElem?_eq_getElem hi2
      have yd := hY i x H2 H3 F2 M2 _ hrow r2 g2 hk y
      have rel := (hs.mono (g1.trans g2).ff)
      refine hg F2 H2 M2 x H3 _ (wipe σ vs) (hide ρ vs) _ _ r2 yd (hide_rel rel vs) q fun σ4 H4 F4 M4 ρ4 r4 g4 s4 w4 q4 => ⟨by rw [w4]; exact wipe_wipe vs σ hv, ?_⟩
      have D4 : H4 D = some (.lst vl) ∧ M4 D = none := g4.un D _ d1 d3
      have F4D : F4 D = none := g4.nf D _ d1 d3 d2
      refine ht F4 H4 M4 σ4 ρ4 _ _ r4 (x0 _ _ _) s4 q4 fun c H5 F5 M5 r5 g5 q5 => ?_
      have D5 := g5.un D _ D4.1 D4.2
      have F5D := g5.nf D _ D4.1 D4.2 F4D
      have q5 := q5.ite
      by_cases hc : c = true
      · rw [if_pos hc] at q5 ⊢
        refine he F5 H5 M5 σ4 ρ4 _ _ r5 (x0 _ _ _) (s4.mono g5.ff) q5 fun v6 H6 F6 M6 z6 r6 g6 rz6 q6 => ?_
        have D6 := g6.un D _ D5.1 D5.2
        have F6D := g6.nf D _ D5.1 D5.2 F5D
        have gg := ((g4.trans g5).trans g6)
        refine ⟨vl, D6.1, by rw [d4.len]; exact q6.1, F6, M6, acc ++ [z6], vl ++ [v6], r6.hid F6D D6.2, ?_, upd_same, F6D, D6.2, (d4.mono gg.ff).app (.cons rz6 .nil), q6.2⟩
        have g7 := g2.trans gg
        refine ⟨g7.ff, fun c u q n => ?_, g7.nf⟩
        have z : c ≠ D := ne_of_none q hD
        rw [upd_ne z]
        exact g7.un c u q n
      · rw [if_neg hc] at q5 ⊢
        exact ⟨F5, M5, acc, vl, r5, (g2.trans (g4.trans g5)), D5.1, F5D, D5.2, d4.mono (g4.trans g5).ff, q5⟩
    · rw [List.drop_length] at q
      exact hf F2 H2 M2 R Q D acc vl r2 d1 d2 d3 d4 q.2 F1 H1 M1 g2 hD fun v H' F' M' x a b c d => k v H' F' M' x a (g1.trans b) c d
/-- a list that is data -/
@[reducible] def lcF (it : TDI) (b : TDG) (tt : TDT) (te : TDE) (vs : List Nat) : TDE := fun ρ M R => it ρ M fun rows keep M1 => lcGo b keep tt te (hide ρ vs) (fun acc M2 => gDs acc fun ds => R (.d (.list ds)) M2) rows [] M1
theorem se_lcF {wi : TI} {g : TG} {tt : TT} {te : TE} {vs : List Nat} {pair : Bool} {it : TDI} {b : TDG} {Tt : TDT} {Te : TDE} (hi : SI K Wx RE wi pair it) (hg : SG K g pair vs b) (ht : ST K (fun _ _ _ _ => False) (fun _ _ _ => False) tt Tt) (he : SE K (fun _ _ _ _ => False) (fun _ _ _ => False) te Te) (hv : vs.length ≤ 2 := by decide) :
    SE K Wx RE (tLc wi g tt te vs) (lcF it b Tt Te vs) :=
  lc_core hi hg ht he hv (fun R acc M2 => gDs acc fun ds => R (.d (.list ds)) M2) fun F H M R Q D acc vl hr h1 h2 h3 h4 hq F0 H0 M0 g hD k => by
    obtain ⟨ds, rfl, h5⟩ := gDs_of hq
    have e : Same F (upd F D (.lst vl)) := same_new h2
    have r' : Rl K (upd F D (.lst vl)) H M := by
      refine ⟨fun b u q => ?_, fun a o c => ?_, fun a o c => ?_⟩
      · by_cases z : b = D
        · subst z
          rw [upd_same] at q
          rw [h1]
          exact q
        · rw [upd_ne z] at q
          exact hr.fh b u q
      · rw [upd_ne (fun z => by rw [z, h3] at c; cases c)]
        exact hr.mf a o c
      · obtain ⟨u, q1, q2⟩ := hr.at_ a o c
        exact ⟨u, q1, q2.mono e⟩
    refine k _ H _ M _ r' ⟨g.ff.trans e, g.un, fun b u q n f => ?_⟩ (.d (.lst upd_same (DxL.mono e _ _ h4.undat))) h5
    rw [upd_ne (ne_of_none q hD)]
    exact g.nf b u q n f
end
end Tl
set_option Elab.async false
set_option linter.all false
set_option maxRecDepth 100000
set_option maxHeartbeats 4000000
namespace Tl
open PySem L2
/-! ### statements -/
structure EndD where
  nx : EnvD → Mem → Prop
  rt : W → Mem → Prop
  bk : EnvD → Mem → Prop := fun _ _ => False
  ct : EnvD → Mem → Prop := fun _ _ => False
abbrev TDS := EndD → EnvD → Mem → Prop
abbrev Nk (K : PySem.W.Frag) (F H : Hp) (M : Mem) (R : EnvD → Mem → Prop) (Q : L2.St → Hp → Prop) : Prop := ∀ σ' H' F' M' ρ', Rl K F' H' M' → Gr F H M F' H' M' → RelS K F' σ' ρ' → R ρ' M' → Q σ' H'
structure EK (K : PySem.W.Frag) (F H : Hp) (M : Mem) (D : EndD) (E : Ends) : Prop where
  nx : Nk K F H M D.nx E.nx
  rt : Kt K F H M D.rt E.rt
  bk : Nk K F H M D.bk E.bk
  ct : Nk K F H M D.ct E.ct
theorem EK.mono {K : PySem.W.Frag} {F H F' H' : Hp} {M M' : Mem} {D : EndD} {E : Ends} (k : EK K F H M D E) (g : Gr F H M F' H' M') : EK K F' H' M' D E :=
  ⟨fun σ H2 F2 M2 ρ r g2 => k.nx σ H2 F2 M2 ρ r (g.trans g2), fun v H2 F2 M2 x r g2 => k.rt v H2 F2 M2 x r (g.trans g2), fun σ H2 F2 M2 ρ r g2 => k.bk σ H2 F2 M2 ρ r (g.trans g2), fun σ H2 F2 M2 ρ r g2 => k.ct σ H2 F2 M2 ρ r (g.trans g2)⟩
def SSt (K : PySem.W.Frag) (Wx : WX) (RE : REx) (t : TS) (T : TDS) : Prop :=
  ∀ F H M σ ρ D E, Rl K F H M → XOk K F H M Wx RE → RelS K F σ ρ → T D ρ M → EK K F H M D E → t E σ H
section
variable {K : PySem.W.Frag} {Wx : WX} {RE : REx}
@[reducible] def nextS : TDS := fun D ρ M => D.nx ρ M
@[reducible] def seqS (T U : TDS) : TDS := fun D ρ M => T { D with nx := U D } ρ M
@[reducible] def retS (T : TDE) : TDS := fun D ρ M => T ρ M D.rt
@[reducible] def dropS (T : TDE) : TDS := fun D ρ M => T ρ M fun _ M1 => D.nx ρ M1
@[reducible] def ifS (c : TDT) (T U : TDS) : TDS := fun D ρ M => c ρ M fun b M1 => IfB b (T D ρ M1) (U D ρ M1)
@[reducible] def setS (i : Nat) (T : TDE) : TDS := fun D ρ M => T ρ M fun x M1 => D.nx (put ρ i (some x)) M1
theorem ss_nil : SSt K Wx RE tNext nextS := fun F H M σ ρ D E hr hx hs ht k => k.nx σ H F M ρ hr .refl hs ht
theorem ss_cons {t u : TS} {T U : TDS} (h1 : SSt K Wx RE t T) (h2 : SSt K Wx RE u U) : SSt K Wx RE (tSeq t u) (seqS T U) := fun F H M σ ρ D E hr hx hs ht k =>
  h1 F H M σ ρ { D with nx := U D } { E with nx := u E } hr hx hs ht ⟨fun σ' H' F' M' ρ' r g s q => h2 F' H' M' σ' ρ' D E r (hx.mono g) s q (k.mono g), k.rt, k.bk, k.ct⟩
/-- as seqS, where a cut is made -/
def seqC (T U : TDS) : TDS := seqS T U
theorem ss_cut {t u : TS} {T U : TDS} (h1 : SSt K Wx RE t T) (h2 : SSt K Wx RE u U) : SSt K Wx RE (tSeq t u) (seqC T U) := by unfold seqC; exact ss_cons h1 h2
theorem seq_cut {T U : TDS} {D : EndD} {ρ : EnvD} {M : Mem} (C : EnvD → Mem → Prop) (h1 : ∀ N : EnvD → Mem → Prop, (∀ ρ' M', C ρ' M' → N ρ' M') → T { D with nx := N } ρ M) (h2 : ∀ ρ' M', C ρ' M' → U D ρ' M') : seqC T U D ρ M := by unfold seqC; exact h1 _ h2
theorem ss_ret {t : TE} {T : TDE} (h : SE K Wx RE t T) : SSt K Wx RE (tRet t) (retS T) := fun F H M σ ρ D E hr hx hs ht k => h F H M σ ρ _ _ hr hx hs ht k.rt
theorem ss_drop {t : TE} {T : TDE} (h : SE K Wx RE t T) : SSt K Wx RE (tDrop t) (dropS T) := fun F H M σ ρ D E hr hx hs ht k =>
  h F H M σ ρ _ _ hr hx hs ht fun v H1 F1 M1 x r1 g1 rx h1 => k.nx σ H1 F1 M1 ρ r1 g1 (hs.mono g1.ff) h1
theorem ss_if {c : TT} {t u : TS} {C : TDT} {T U : TDS} (hc : ST K Wx RE c C) (h1 : SSt K Wx RE t T) (h2 : SSt K Wx RE u U) : SSt K Wx RE (tIfS c t u) (ifS C T U) := fun F H M σ ρ D E hr hx hs ht k =>
  hc F H M σ ρ _ _ hr hx hs ht fun b H1 F1 M1 r1 g1 q1 => by
    have q1 := q1.ite
    by_cases hb : b = true
    · rw [if_pos hb] at q1 ⊢
      exact h1 F1 H1 M1 σ ρ D E r1 (hx.mono g1) (hs.mono g1.ff) q1 (k.mono g1)
    · rw [if_neg hb] at q1 ⊢
      exact h2 F1 H1 M1 σ ρ D E r1 (hx.mono g1) (hs.mono g1.ff) q1 (k.mono g1)
theorem ss_set {i : Nat} {t : TE} {T : TDE} (h : SE K Wx RE t T) : SSt K Wx RE (tAsg t (gName i)) (setS i T) := fun F H M σ ρ D E hr hx hs ht k =>
  h F H M σ ρ _ _ hr hx hs ht fun v H1 F1 M1 x r1 g1 rx h1 => k.nx _ H1 F1 M1 _ r1 g1 ((hs.mono g1.ff).set rx i) h1
/-- a, b = e -/
@[reducible] def unpS (b : TDG) (T : TDE) : TDS := fun D ρ M => T ρ M fun x M1 => b [x] ρ M1 D.nx
theorem ss_unp {g : TG} {vs : List Nat} {b : TDG} {t : TE} {T : TDE} (hg : SG K g false vs b) (h : SE K Wx RE t T) : SSt K Wx RE (tAsg t g) (unpS b T) := fun F H M σ ρ D E hr hx hs ht k =>
  h F H M σ ρ _ _ hr hx hs ht fun v H1 F1 M1 x r1 g1 rx h1 => hg F1 H1 M1 v H1 [x] σ ρ _ _ r1 ⟨x, rfl, rfl, rx⟩ (hs.mono g1.ff) h1 fun σ' H2 F2 M2 ρ' r2 g2 s2 _ q2 => k.nx σ' H2 F2 M2 ρ' r2 (g1.trans g2) s2 q2
/-- for -/
def forGo (b : TDG) (keep : Mem → Prop) (body : TDS) (D : EndD) : List (List W) → EnvD → Mem → Prop
  | [], ρ, M => keep M ∧ D.nx ρ M
  | row :: rest, ρ, M => keep M ∧ b row ρ M fun ρ1 M1 => body ⟨forGo b keep body D rest, D.rt, D.nx, forGo b keep body D rest⟩ ρ1 M1
@[reducible] def forS (it : TDI) (b : TDG) (body : TDS) : TDS := fun D ρ M => it ρ M fun rows keep M1 => forGo b keep body D rows ρ M1
theorem ss_for {wi : TI} {g : TG} {tb : TS} {pair : Bool} {vs : List Nat} {it : TDI} {b : TDG} {Tb : TDS} (hi : SI K Wx RE wi pair it) (hg : SG K g pair vs b) (hb : SSt K Wx RE tb Tb) : SSt K Wx RE (tFor wi g tb) (forS it b Tb) := fun F H M σ ρ D E hr hx hs ht k =>
  hi F H M σ ρ _ _ hr hx hs ht fun J H1 F1 M1 rows keep r1 g1 iok h1 => by
    obtain ⟨G, Y, wk, hG, hY⟩ := iok
    refine for_it wk (fun i σ2 H2 => ∃ F2 M2 ρ2, Rl K F2 H2 M2 ∧ Gr F1 H1 M1 F2 H2 M2 ∧ RelS K F2 σ2 ρ2 ∧ forGo b keep Tb D (rows.drop i) ρ2 M2)
      ⟨F1, M1, ρ, r1, .refl, hs.mono g1.ff, h1⟩ (fun i σ2 H2 hi2 ⟨F2, M2, ρ2, r2, g2, s2, q⟩ => ?_) (fun i x σ2 H2 H3 hi2 ⟨F2, M2, ρ2, r2, g2, s2, q⟩ y => ?_) (fun σ2 H2 ⟨F2, M2, ρ2, r2, g2, s2, q⟩ => ?_)
    · have hk : keep M2 := by
        cases hd : rows.drop i with
        | nil => rw [hd] at q; exact q.1
        | cons a b => rw [hd] at q; exact q.1
      exact hG F2 H2 M2 r2 g2 hk
    · rw [List.drop_eq_getElem_cons hi2] at q
      obtain ⟨hk, q⟩ := q
      have yd := hY i x H2 H3 F2 M2 _ (List.getElem?_eq_getElem hi2) r2 g2 hk y
      refine hg F2 H2 M2 x H3 _ σ2 ρ2 _ _ r2 yd s2 q fun σ4 H4 F4 M4 ρ4 r4 g4 s4 _ q4 => ?_
      have gg := g2.trans g4
      refine hb F4 H4 M4 σ4 ρ4 _ _ r4 (hx.mono (g1.trans gg)) s4 q4 ⟨fun σ5 H5 F5 M5 ρ5 r5 g5 s5 q5 => ⟨F5, M5, ρ5, r5, gg.trans g5, s5, q5⟩, fun v H5 F5 M5 x5 r5 g5 => k.rt v H5 F5 M5 x5 r5 ((g1.trans gg).trans g5), fun σ5 H5 F5 M5 ρ5 r5 g5 => k.nx σ5 H5 F5 M5 ρ5 r5 ((g1.trans gg).trans g5), fun σ5 H5 F5 M5 ρ5 r5 g5 s5 q5 => ⟨F5, M5, ρ5, r5, gg.trans g5, s5, q5⟩⟩
    · rw [List.drop_length] at q
      exact k.nx σ2 H2 F2 M2 ρ2 r2 (g1.trans g2) s2 q.2
/-- while, by an invariant and a measure -/
@[reducible] def whileS (c : TDT) (body : TDS) : TDS := fun D ρ M => ∃ I : Nat → EnvD → Mem → Prop, (∃ m, I m ρ M) ∧ ∀ m ρ M, I m ρ M → c ρ M fun b M1 => IfB b (body ⟨fun ρ' M' => ∃ m', m' < m ∧ I m' ρ' M', D.rt, D.nx, fun ρ' M' => ∃ m', m' < m ∧ I m' ρ' M'⟩ ρ M1) (D.nx ρ M1)
theorem ss_while {c : TT} {tb : TS} {C : TDT} {Tb : TDS} (hc : ST K Wx RE c C) (hb : SSt K Wx RE tb Tb) : SSt K Wx RE (tWhile c tb) (whileS C Tb) := fun F H M σ ρ D E hr hx hs ht k => by
  obtain ⟨I, ⟨m0, h0⟩, turn⟩ := ht
  refine ⟨fun m σ2 H2 => ∃ F2 M2 ρ2, Rl K F2 H2 M2 ∧ Gr F H M F2 H2 M2 ∧ RelS K F2 σ2 ρ2 ∧ I m ρ2 M2, ⟨m0, F, M, ρ, hr, .refl, hs, h0⟩, fun m σ2 H2 ⟨F2, M2, ρ2, r2, g2, s2, q⟩ => ?_⟩
  refine hc F2 H2 M2 σ2 ρ2 _ _ r2 (hx.mono g2) s2 (turn m ρ2 M2 q) fun b H3 F3 M3 r3 g3 q3 => ?_
  have gg := g2.trans g3
  have q3 := q3.ite
  by_cases h : b = true
  · rw [if_pos h] at q3 ⊢
    refine ⟨fun σ4 H4 => ∃ m', m' < m ∧ ∃ F4 M4 ρ4, Rl K F4 H4 M4 ∧ Gr F H M F4 H4 M4 ∧ RelS K F4 σ4 ρ4 ∧ I m' ρ4 M4, fun σ4 H4 h4 => h4, ?_⟩
    refine hb F3 H3 M3 σ2 ρ2 _ _ r3 (hx.mono gg) (s2.mono g3.ff) q3 ⟨fun σ5 H5 F5 M5 ρ5 r5 g5 s5 ⟨m', hm, q5⟩ => ⟨m', hm, F5, M5, ρ5, r5, gg.trans g5, s5, q5⟩, fun v H5 F5 M5 x5 r5 g5 => k.rt v H5 F5 M5 x5 r5 (gg.trans g5), fun σ5 H5 F5 M5 ρ5 r5 g5 => k.nx σ5 H5 F5 M5 ρ5 r5 (gg.trans g5), fun σ5 H5 F5 M5 ρ5 r5 g5 s5 ⟨m', hm, q5⟩ => ⟨m', hm, F5, M5, ρ5, r5, gg.trans g5, s5, q5⟩⟩
  · rw [if_neg h] at q3 ⊢
    exact k.nx σ2 H3 F3 M3 ρ2 r3 gg (s2.mono g3.ff) q3
/-- raise -/
@[reducible] def raiseS (RE : REx) (x : Ex) : TDS := fun _ ρ M => RE x ρ M
theorem ss_raise0 {C : Addr} : SSt K Wx RE (fun _ σ H => (fun _ H Q => Q (.ref C) none H : L2.St → Hp → XK → Prop) σ H fun cls d H' => Wx cls d σ H') (raiseS RE ⟨.ref C, []⟩) := fun F H M σ ρ D E hr hx hs ht k =>
  hx F H M σ ρ _ _ ⟨.ref C, []⟩ .refl hr hs ⟨rfl, rfl⟩ ht
end
/-! ### defs -/
section
variable {P : Program} {w : World} {K : PySem.W.Frag} {mg : Str → Option Value} {base : Heap}
/-- the slots as a def begins -/
@[reducible] def start0 (n : Nat) (ws : List W) : EnvD := ws.map some ++ List.replicate (n - ws.length) none
theorem slot_rep (m i : Nat) : slot (List.replicate m none) i = none := by
  induction m generalizing i with
  | zero => rfl
  | succ m ih =>
    rw [List.replicate_succ]
    cases i with
    | zero => rfl
    | succ i => exact ih i
theorem slot_start : ∀ {ws : List W} {m i : Nat} {x : W}, slot (ws.map some ++ List.replicate m none) i = some x → ws[i]? = some x
  | [], m, i, x, h => by
    rw [List.map_nil, List.nil_append, slot_rep] at h
    cases h
  | w :: ws, m, 0, x, h => h
  | w :: ws, m, i + 1, x, h => by
    have := slot_start (ws := ws) (m := m) (i := i) h
    simpa using this
theorem rel_start {F : Hp} {N : List Str} {vs : List V} {ws : List W} (r : RWs K F vs ws) : RelS K F (L2.start N vs) (start0 N.length ws) := by
  refine ⟨?_, fun i x c => ?_⟩
  · unfold L2.start start0
    rw [List.length_append, List.length_append, List.length_map, List.length_map, List.length_replicate, List.length_replicate, r.len]
  · obtain ⟨v, h1, h2⟩ := r.got (slot_start c)
    refine ⟨v, ?_, h2⟩
    unfold L2.start
    rw [List.getElem?_append_left (by rw [List.length_map]; exact (List.getElem?_eq_some_iff.mp h1).1), List.getElem?_map, h1]
    rfl
/-- what is wanted behind a def -/
abbrev endD (R : W → Mem → Prop) : EndD := ⟨fun _ M => R (.d .none) M, R, fun _ _ => False, fun _ _ => False⟩
theorem ek_def {F H : Hp} {M : Mem} {R : W → Mem → Prop} {Q : VK} (k : Kt K F H M R Q) : EK K F H M (endD R) { nx := fun _ H' => Q .non H', rt := Q } :=
  ⟨fun σ H' F' M' ρ r g s q => k _ H' F' M' _ r g (.d .non) q, k, fun _ _ _ _ _ _ _ _ z => z.elim, fun _ _ _ _ _ _ _ _ z => z.elim⟩
/-- a def that lets nothing out -/
theorem okD {f : Addr} {fd : FuncData} {k n : Nat} {x qual : Str} {st : Stmt} {N ps : List Str} {tf : TF} (F : Fun K x qual st f fd) (S : FnScope N ps (defScope st)) (hp : ps.length = n)
    (hb : ∀ (cdv : Value) (A : Around) (outer : List Env) (s : Shared) (H : Hp) (E : XK), Room k (A.deeper (PyProof.Rows.envOfC qual (defScope st) s.heap.objs.size f cdv)) →
      ∃ (t : TS) (T : TDS), PSs (cxOf CX0 P w K mg base N qual (defScope st) f cdv A outer s H E).nox (defBody st) t ∧ SSt K (fun _ _ _ _ => False) (fun _ _ _ => False) t T ∧
        ∀ ws M R RX, ws.length = n → tf ws M R RX → T (endD R) (start0 N.length ws) M) : FnOk P w K mg base CX0 (k + 1) f fd ps (spD K n tf) := by
  refine F.ok S (fun vs H Q E h => ?_) (fun cdv A outer s H vs Q E hr h => ?_)
  · obtain ⟨F0, M, ws, R, RX, r, rs, hl, _⟩ := h
    rw [rs.len, hl, hp]
  · obtain ⟨F0, M, ws, R, RX, r, rs, hl, hf, hk, _⟩ := h
    obtain ⟨t, T, h1, h2, h3⟩ := hb cdv A outer s H E hr
    refine ⟨t, h1, h2 F0 H M _ _ _ _ r (fun F' H' M' σ ρ cls d x _ _ _ _ z => z) (rel_start rs) (h3 ws M R RX hl hf) (ek_def hk)⟩
/-- a def that errors may leave -/
theorem okDX {f : Addr} {fd : FuncData} {k n : Nat} {x qual : Str} {st : Stmt} {N ps : List Str} {tf : TF} (F : Fun K x qual st f fd) (S : FnScope N ps (defScope st)) (hp : ps.length = n)
    (hb : ∀ (cdv : Value) (A : Around) (outer : List Env) (s : Shared) (H : Hp) (E : XK), Room k (A.deeper (PyProof.Rows.envOfC qual (defScope st) s.heap.objs.size f cdv)) →
      ∃ (t : TS) (T : REx → TDS), PSs (cxOf (L2.CX P w) P w K mg base N qual (defScope st) f cdv A outer s H E) (defBody st) t ∧ (∀ RE, SSt K (fun cls d _ H => E cls d H) RE t (T RE)) ∧
        ∀ ws M R RX, ws.length = n → tf ws M R RX → T (fun x _ M => RX x M) (endD R) (start0 N.length ws) M) : FnOk P w K mg base (L2.CX P w) (k + 1) f fd ps (spD K n tf) := by
  refine F.okX S (fun vs H Q E h => ?_) (fun cdv A outer s H vs Q E hr h => ?_)
  · obtain ⟨F0, M, ws, R, RX, r, rs, hl, _⟩ := h
    rw [rs.len, hl, hp]
  · obtain ⟨F0, M, ws, R, RX, r, rs, hl, hf, hk, hx⟩ := h
    obtain ⟨t, T, h1, h2, h3⟩ := hb cdv A outer s H E hr
    refine ⟨t, h1, h2 (fun x _ M => RX x M) F0 H M _ _ _ _ r (fun F' H' M' σ ρ cls d x g r' _ xr z => hx cls d H' F' M' x r' g xr z) (rel_start rs) (h3 ws M R RX hl hf) (ek_def hk)⟩
end
end Tl
set_option Elab.async false
set_option linter.all false
set_option maxRecDepth 100000
set_option maxHeartbeats 4000000
namespace Tl
open PySem L2 RZ
theorem PS.nox {X : Cx} {st : Stmt} {t : TS} (h : PS X.nox st t) : PS X st t := ⟨fun pins s σ H D I hw =>
  wpAny_mono (h.run pins s σ H D (I.wish _) hw) (fun _ _ q => q.unwish) fun _ _ z => False.elim z⟩
section
variable {K : PySem.W.Frag} {Wx : WX} {RE : REx}
@[reducible] def yesT : TDT := fun _ M R => R true M
theorem st_yes : ST K Wx RE tYes yesT := fun F H M σ ρ R Q hr hx hs ht k => k true H F M hr .refl ht
/-- x += e, numbers -/
@[reducible] def augI (g : Int → Int → Int) (i : Nat) (T : TDE) : TDS := fun D ρ M => match slot ρ i with | some x => T ρ M fun y M1 => gI x fun a => gI y fun b => D.nx (put ρ i (some (.d (.int (g a b))))) M1 | none => False
theorem ss_augI {g : Int → Int → Int} {i : Nat} {t : TE} {T : TDE} (h : SE K Wx RE t T) : SSt K Wx RE (tAug i t (ipI g)) (augI g i T) := fun F H M σ ρ D E hr hx hs ht k => by
  unfold augI at ht
  cases c : slot ρ i with
  | none => rw [c] at ht; exact ht.elim
  | some x =>
    rw [c] at ht
    obtain ⟨v, h1, h2⟩ := hs.at_ i x c
    refine ⟨v, h1, h F H M σ ρ _ _ hr hx hs ht fun u H1 F1 M1 y r1 g1 ry q1 => ?_⟩
    obtain ⟨a, rfl, q2⟩ := gI_of q1
    obtain ⟨b, rfl, q3⟩ := gI_of q2
    exact ⟨a, b, h2.int, ry.int, k.nx _ H1 F1 M1 _ r1 g1 ((hs.mono g1.ff).set (.d (.int _)) i) q3⟩
end
end Tl
set_option Elab.async false
set_option linter.all false
set_option maxRecDepth 100000
set_option maxHeartbeats 4000000
namespace Tl
open PySem L2
theorem rows1_map {α : Type} (f : α → W) (xs : List α) : rows1 (xs.map f) = xs.map fun a => [f a] := by
  unfold rows1
  rw [List.map_map]
  rfl
section
variable {b : TDG} {keep : Mem → Prop} {tt : TDT} {te : TDE} {ρ : EnvD} {fin : List W → Mem → Prop} {M : Mem}
/-- each of some rows gives an item -/
theorem lc_map {α : Type} {row : α → List W} (g : α → W) (hk : keep M) : ∀ (xs : List α) (acc : List W), (∀ a ∈ xs, ∀ (Rk : W → Mem → Prop) (Rn : Mem → Prop), Rk (g a) M → b (row a) ρ M fun ρ1 M1 => IfB true (te ρ1 M1 Rk) (Rn M1)) → acc.length + xs.length ≤ sizeLine → fin (acc ++ xs.map g) M → lcGo b keep yesT te ρ fin (xs.map row) acc M
  | [], acc, hb, hl, h => by
    rw [List.map_nil, lcGo]
    rw [List.map_nil, List.append_nil] at h
    exact ⟨hk, h⟩
  | a :: xs, acc, hb, hl, h => by
    rw [List.map_cons, lcGo]
    rw [List.length_cons] at hl
    refine ⟨hk, hb a (.head _) _ _ ⟨by omega, lc_map g hk xs (acc ++ [g a]) (fun x hx => hb x (.tail _ hx)) (by rw [List.length_append]; simp; omega) (by rw [List.append_assoc]; exact h)⟩⟩
/-- one name, over a list of data -/
theorem lc1 {α : Type} {i : Nat} {f : α → W} (g : α → W) (hk : keep M) {xs : List α} (hb : ∀ a ∈ xs, ∀ Rk : W → Mem → Prop, Rk (g a) M → te (put ρ i (some (f a))) M Rk) (hl : xs.length ≤ sizeLine) (h : fin (xs.map g) M) : lcGo (bName i) keep yesT te ρ fin (rows1 (xs.map f)) [] M := by
  rw [rows1_map]
  exact lc_map g hk xs [] (fun a ha Rk Rn q => .t rfl (hb a ha Rk q)) (by simpa using hl) h
end
/-- a for, by what holds at each turn -/
theorem for_ix {b : TDG} {keep : Mem → Prop} {body : TDS} {D : EndD} {rows : List (List W)} {ρ : EnvD} {M : Mem} (Pv : Nat → EnvD → Mem → Prop) (h0 : Pv 0 ρ M) (hk : ∀ i ρ M, i ≤ rows.length → Pv i ρ M → keep M)
    (hs : ∀ i row ρ M (N : EnvD → Mem → Prop), rows[i]? = some row → Pv i ρ M → (∀ ρ' M', Pv (i + 1) ρ' M' → N ρ' M') → b row ρ M fun ρ1 M1 => body ⟨N, D.rt, D.nx, N⟩ ρ1 M1) (hd : ∀ ρ M, Pv rows.length ρ M → D.nx ρ M) : forGo b keep body D rows ρ M := by
  have go : ∀ (n i : Nat) (ρ : EnvD) (M : Mem), n = rows.length - i → i ≤ rows.length → Pv i ρ M → forGo b keep body D (rows.drop i) ρ M := by
    intro n
    induction n with
    | zero =>
      intro i ρ M hn hi p
      have e : i = rows.length := by omega
      subst e
      rw [List.drop_length, forGo]
      exact ⟨hk _ _ _ (Nat.le_refl _) p, hd ρ M p⟩
    | succ n ih =>
      intro i ρ M hn hi p
      have hi2 : i < rows.length := by omega
      rw [List.drop_eq_getElem_cons hi2, forGo]
      exact ⟨hk _ _ _ hi p, hs i _ ρ M _ (List.getElem?_eq_getElem hi2) p fun ρ' M' p' => ih (i + 1) ρ' M' (by omega) (by omega) p'⟩
  exact go _ 0 ρ M rfl (Nat.zero_le _) h0
/-- over a list of things, one name -/
theorem for1 {α : Type} {i : Nat} {f : α → W} {keep : Mem → Prop} {body : TDS} {D : EndD} {xs : List α} {ρ : EnvD} {M : Mem} (Pv : Nat → EnvD → Mem → Prop) (h0 : Pv 0 ρ M) (hk : ∀ i ρ M, i ≤ xs.length → Pv i ρ M → keep M)
    (hs : ∀ j a ρ M (N : EnvD → Mem → Prop), xs[j]? = some a → Pv j ρ M → (∀ ρ' M', Pv (j + 1) ρ' M' → N ρ' M') → body ⟨N, D.rt, D.nx, N⟩ (put ρ i (some (f a))) M) (hd : ∀ ρ M, Pv xs.length ρ M → D.nx ρ M) : forGo (bName i) keep body D (rows1 (xs.map f)) ρ M := by
  have el : (rows1 (xs.map f)).length = xs.length := by rw [rows1_map, List.length_map]
  refine for_ix Pv h0 (fun i ρ M hi p => hk i ρ M (by rw [← el]; exact hi) p) (fun j row ρ M N hrow p hN => ?_) (fun ρ M p => hd ρ M (by rw [← el]; exact p))
  rw [rows1_map, List.getElem?_map] at hrow
  obtain ⟨a, ha, e⟩ := Option.map_eq_some_iff.mp hrow
  subst e
  exact hs j a ρ M N ha p hN
/-- over numbers -/
theorem forR {i : Nat} {lo : Int} {n : Nat} {keep : Mem → Prop} {body : TDS} {D : EndD} {ρ : EnvD} {M : Mem} (Pv : Nat → EnvD → Mem → Prop) (h0 : Pv 0 ρ M) (hk : ∀ i ρ M, i ≤ n → Pv i ρ M → keep M)
    (hs : ∀ j ρ M (N : EnvD → Mem → Prop), j < n → Pv j ρ M → (∀ ρ' M', Pv (j + 1) ρ' M' → N ρ' M') → body ⟨N, D.rt, D.nx, N⟩ (put ρ i (some (.d (.int (lo + (j : Nat)))))) M) (hd : ∀ ρ M, Pv n ρ M → D.nx ρ M) : forGo (bName i) keep body D (rows1 (rng lo n)) ρ M := by
  unfold rng
  refine for1 Pv h0 (fun i ρ M hi p => hk i ρ M (by simpa using hi) p) (fun j a ρ M N ha p hN => ?_) (fun ρ M p => hd ρ M (by simpa using p))
  have e : a = j ∧ j < n := by
    obtain ⟨h1, h2⟩ := List.getElem?_eq_some_iff.mp ha
    rw [List.length_range] at h1
    simp at h2
    exact ⟨h2.symm, h1⟩
  obtain ⟨rfl, hj⟩ := e
  exact hs a ρ M N hj p hN
end Tl
set_option Elab.async false
set_option linter.all false
set_option maxRecDepth 100000
set_option maxHeartbeats 4000000
namespace Tl
open PySem L2
theorem b_list {X : Cx} (T : Bl X.mg) {p : Pos} (hg : Gl X "list" := by rfl) : PE X (.Name "list" p) (tC (.ty "list")) := pe_bltn hg T.list PyProof.Rows.boot_list rfl
/-- what nobody looks at any more is left out -/
def lax (R : W → Mem → Prop) : W → Mem → Prop := fun x M => ∃ M0, (∀ a o, M0 a = some o → M a = some o) ∧ R x M0
theorem Rl.less {K : PySem.W.Frag} {F H : Hp} {M M0 : Mem} (h : Rl K F H M) (e : ∀ a o, M0 a = some o → M a = some o) : Rl K F H M0 :=
  ⟨h.fh, fun a o c => h.mf a o (e a o c), fun a o c => h.at_ a o (e a o c)⟩
theorem none_less {M M0 : Mem} (e : ∀ a o, M0 a = some o → M a = some o) {b : Addr} (h : M b = none) : M0 b = none := by
  cases c : M0 b with
  | none => rfl
  | some o => rw [e b o c] at h; cases h
theorem kt_lax {K : PySem.W.Frag} {F H : Hp} {M : Mem} {R : W → Mem → Prop} {Q : VK} (k : Kt K F H M R Q) : Kt K F H M (lax R) Q := fun v H' F' M' x r g rx ⟨M0, e, h⟩ =>
  k v H' F' M0 x (r.less e) ⟨g.ff, fun b u h1 h2 => ⟨(g.un b u h1 h2).1, none_less e (g.un b u h1 h2).2⟩, g.nf⟩ rx h
section
variable {P : Program} {w : World} {K : PySem.W.Frag} {mg : Str → Option Value} {base : Heap}
theorem okDXL {f : Addr} {fd : FuncData} {k n : Nat} {x qual : Str} {st : Stmt} {N ps : List Str} {tf : TF} (F : Fun K x qual st f fd) (S : FnScope N ps (defScope st)) (hp : ps.length = n)
    (hb : ∀ (cdv : Value) (A : Around) (outer : List Env) (s : Shared) (H : Hp) (E : XK), Room k (A.deeper (PyProof.Rows.envOfC qual (defScope st) s.heap.objs.size f cdv)) →
      ∃ (t : TS) (T : REx → TDS), PSs (cxOf (L2.CX P w) P w K mg base N qual (defScope st) f cdv A outer s H E) (defBody st) t ∧ (∀ RE, SSt K (fun cls d _ H => E cls d H) RE t (T RE)) ∧
        ∀ ws M R RX, ws.length = n → tf ws M R RX → T (fun x _ M => RX x M) (endD (lax R)) (start0 N.length ws) M) : FnOk P w K mg base (L2.CX P w) (k + 1) f fd ps (spD K n tf) := by
  refine F.okX S (fun vs H Q E h => ?_) (fun cdv A outer s H vs Q E hr h => ?_)
  · obtain ⟨F0, M, ws, R, RX, r, rs, hl, _⟩ := h
    rw [rs.len, hl, hp]
  · obtain ⟨F0, M, ws, R, RX, r, rs, hl, hf, hk, hx⟩ := h
    obtain ⟨t, T, h1, h2, h3⟩ := hb cdv A outer s H E hr
    refine ⟨t, h1, h2 (fun x _ M => RX x M) F0 H M _ _ _ _ r (fun F' H' M' σ ρ cls d x g r' _ xr z => hx cls d H' F' M' x r' g xr z) (rel_start rs) (h3 ws M R RX hl hf) (ek_def (kt_lax hk))⟩
end
end Tl
set_option Elab.async false
set_option linter.all false
set_option maxRecDepth 100000
set_option maxHeartbeats 4000000
/-! Elders and levels, lists of kids by their weights and places. -/
namespace Tl
open PySem L2
structure RelEL (es ls : List Nat) : Prop where
  first : ls[0]? = some 1
  lev : ∀ (j l : Nat), ls[j]? = some l → 1 ≤ l ∧ l ≤ 10
  eld : ∀ (j e : Nat), 1 ≤ j → es[j]? = some e → e < j ∧ ∀ (l l' : Nat), ls[e]? = some l → ls[j]? = some l' → l' = l + 1
theorem get_snoc {α : Type} {xs : List α} {x y : α} {j : Nat} (h : (xs ++ [x])[j]? = some y) : (j < xs.length ∧ xs[j]? = some y) ∨ (j = xs.length ∧ y = x) := by
  by_cases c : j < xs.length
  · rw [List.getElem?_append_left c] at h
    exact .inl ⟨c, h⟩
  · rw [List.getElem?_append_right (by omega)] at h
    have e : j - xs.length = 0 := by
      by_cases z : j - xs.length = 0
      · exact z
      · rw [List.getElem?_eq_none (by show 1 ≤ _; omega)] at h
        cases h
    rw [e] at h
    exact .inr ⟨by omega, (Option.some.inj h).symm⟩
theorem RelEL.app {es ls : List Nat} (r : RelEL es ls) {e l : Nat} (hlen : es.length = ls.length) (he : ls[e]? = some l) (hl : l ≤ 9) : RelEL (es ++ [e]) (ls ++ [l + 1]) := by
  have hel : e < ls.length := (List.getElem?_eq_some_iff.mp he).1
  refine ⟨?_, fun j m h => ?_, fun j e' hj h => ?_⟩
  · rw [List.getElem?_append_left (by omega)]
    exact r.first
  · rcases get_snoc h with ⟨_, h⟩ | ⟨_, rfl⟩
    · exact r.lev j m h
    · omega
  · rcases get_snoc h with ⟨c, h⟩ | ⟨rfl, rfl⟩
    · obtain ⟨h1, h2⟩ := r.eld j e' hj h
      refine ⟨h1, fun a b ha hb => ?_⟩
      rw [List.getElem?_append_left (by omega)] at ha hb
      exact h2 a b ha hb
    · refine ⟨by omega, fun a b ha hb => ?_⟩
      rw [List.getElem?_append_left hel] at ha
      rw [hlen, List.getElem?_append_right (Nat.le_refl _), Nat.sub_self] at hb
      rw [he] at ha
      cases ha
      exact (Option.some.inj hb).symm
theorem RelEL.one : RelEL [0] [1] := by
  refine ⟨rfl, fun j l h => ?_, fun j e hj h => ?_⟩
  · match j, h with
    | 0, h => have := Option.some.inj h; omega
    | j + 1, h => simp at h
  · match j, h with
    | 0, _ => omega
    | j + 1, h => simp at h
mutual
def nn : PyData → Nat
  | .tuple [_, .tuple ks] => 1 + nnAll ks
  | _ => 1
def nnAll : List PyData → Nat
  | [] => 0
  | k :: ks => nn k + nnAll ks
end
/-- how many places the first m lists have together -/
def sn (m : Nat) (tss : List (List PyData)) : Nat := ((tss.take m).map nnAll).sum
end Tl
set_option Elab.async false
set_option linter.all false
set_option maxRecDepth 100000
set_option maxHeartbeats 4000000
/-! What the program's own looks answer, as Lean functions; promises. -/
namespace Tl
open PySem L2
/-! ### what they answer -/
def isCount : PyData → Bool
  | .int i => decide (0 ≤ i)
  | _ => false
def isNum (m : Int) : PyData → Bool
  | .int i => decide (0 ≤ i) && decide (i ≤ m)
  | _ => false
def small (c : Nat) : Bool := decide (97 ≤ c) && decide (c ≤ 122)
def isTag : PyData → Bool
  | .str s => decide (1 ≤ s.length) && decide (s.length ≤ 8) && s.cps.toList.all small
  | _ => false
/-- a truth about one thing -/
@[reducible] def tfB (f : PyData → Bool) : TF := fun ws M R _ => g1 ws fun x => gD x fun d => txt d = true ∧ R (.d (.bool (f d))) M
@[reducible] def tfB2 (f : Int → PyData → Bool) : TF := fun ws M R _ => g2 ws fun x y => gD x fun d => gI y fun m => txt d = true ∧ R (.d (.bool (f m d))) M
/-! ### trees -/
@[reducible] def optD : Option Nat → PyData
  | none => .none
  | some n => .int n
theorem no0 {tf : TF} {P : Program} {w : World} {K : PySem.W.Frag} {mg : Str → Option Value} {base : Heap} {CX : CXT} {f : Addr} {fd : FuncData} {k n : Nat} {ps : List Str} (h : ∀ ws M R RX, ¬ tf ws M R RX) : FnOk P w K mg base CX k f fd ps (spD K n tf) :=
  ⟨fun vs H Q E ⟨F0, M, ws, R, RX, r, rs, hl, hf, _⟩ => absurd hf (h _ _ _ _), fun A outer s H args us vs Q E _ _ _ _ ⟨F0, M, ws, R, RX, r, rs, hl, hf, _⟩ => absurd hf (h _ _ _ _)⟩
/-! ### refusals -/
/-- an own error without a word, as the top has left its class -/
structure Er (K : PySem.W.Frag) (mg : Str → Option Value) (x : Str) (C : Addr) : Prop where
  g : mg x = some (.ref C)
  x : PySem.W.excIn K C [.type "ValueError", .type "Exception", .type "BaseException", .type "object"] "ValueError.__new__" = true
  k : PySem.W.keepIn K (.ref C) = true
  b : PySem.W.subIn K (.ref C) (.type "BaseException") = some true
  t : PySem.W.typeIn K (.ref C) = some (.type "type")
/-- a def that errors may leave -/
structure UseX (P : Program) (w : World) (K : PySem.W.Frag) (mg : Str → Option Value) (base : Heap) (x : Str) (ps : List Str) (k : Nat) (sp : Sp) where
  f : Addr
  fd : FuncData
  ok : FnOk P w K mg base (L2.CX P w) k f fd ps sp
  m : mg x = some (.ref f)
  kp : PySem.W.keepIn K (.ref f) = true
  b : Binds K fd ps []
/-! ### trees by their form -/
def TrT : Nat → PyData → Prop
  | 0, _ => False
  | h + 1, d => ∃ (s : Str) (ks : List PyData), d = .tuple [.str s, .tuple ks] ∧ isTag (.str s) = true ∧ ∀ k ∈ ks, TrT h k
theorem TrT.mono : ∀ {h h' : Nat} {d : PyData}, h ≤ h' → TrT h d → TrT h' d
  | 0, _, _, _, t => t.elim
  | h + 1, 0, _, e, _ => by omega
  | h + 1, h' + 1, d, e, t => by
    obtain ⟨s, ks, rfl, a, b⟩ := t
    exact ⟨s, ks, rfl, a, fun k hk => TrT.mono (by omega) (b k hk)⟩
theorem tags6_tag : ∀ s ∈ tags6, isTag (.str s) = true := by decide +kernel
theorem TrD.t : ∀ {h : Nat} {d : PyData}, TrD h d → TrT h d
  | 0, _, t => t.elim
  | h + 1, d, t => by
    obtain ⟨s, ks, rfl, a, b⟩ := t
    exact ⟨s, ks, rfl, tags6_tag s a.2.2.2, fun k hk => TrD.t (b k hk)⟩
theorem TrT.node {n : Nat} {d : PyData} (h : TrT n d) : ∃ (s : Str) (ks : List PyData), d = .tuple [.str s, .tuple ks] ∧ isTag (.str s) = true ∧ ∀ k ∈ ks, TrT (n - 1) k := by
  cases n with
  | zero => exact h.elim
  | succ n => exact h
end Tl
set_option Elab.async false
set_option linter.all false
set_option maxRecDepth 100000
set_option maxHeartbeats 4000000
/-! Errors: raised with fields, caught, looked at. -/
namespace Tl
open PySem PySem.Spec PyProof.Rows L2
section
variable {K : PySem.W.Frag} {Wx Wout : WX} {RE : REx}
/-! ### try -/
/-! ### isinstance of an error -/
@[reducible] def clsW : W → Option Value
  | .o (.ty n) => some (.type n)
  | .o (.ref C) => some (.ref C)
  | _ => none
theorem clsW_of {F : Hp} {v : V} {x : W} {c : Value} (r : RW K F v x) (h : clsW x = some c) : ClsV v c := by
  unfold clsW at h
  split at h
  · cases r; cases h; exact .ty _
  · cases r; cases h; exact .own _
  · cases h
theorem clsV_val {c : V} {cv : Value} (k : ClsV c cv) : ∀ u, RelV c u → u = cv := fun u r => k.eq r
theorem fx_dx {F H : Hp} {d : Option Addr} {fs : List (Str × PyData)} (e : Same F H) (h : FX K F d fs) : DxO H d := by
  cases d with
  | none => trivial
  | some dd =>
    obtain ⟨fv, h1, _⟩ := h
    exact ⟨fv, e _ _ h1⟩
/-- all of them classes -/
@[reducible] def gCs : List W → (List Value → Prop) → Prop
  | [], k => k []
  | x :: r, k => gO (clsW x) fun c => gCs r fun cs => k (c :: cs)
theorem gCs_of {F : Hp} : ∀ {xs : List W} {vs : List V} {k : List Value → Prop}, RWs K F vs xs → gCs xs k → ∃ cs, Paired ClsV vs cs ∧ k cs
  | [], _, k, r, h => by cases r; exact ⟨[], .nil, h⟩
  | x :: xs, _, k, r, h => by
    cases r with
    | cons a b =>
      obtain ⟨c, h1, h2⟩ := gO_of h
      obtain ⟨cs, h3, h4⟩ := gCs_of b h2
      exact ⟨c :: cs, .cons (clsW_of a h1) h3, h4⟩
/-- kept.n -/
theorem dx_lookup {F : Hp} {n : Str} : ∀ {fv : List (Str × V)} {fs : List (Str × PyData)} {y : PyData}, fv.map (·.1) = fs.map (·.1) → DxL K F (fv.map (·.2)) (fs.map (·.2)) → fs.lookup n = some y → ∃ v, fv.lookup n = some v ∧ Dx K F v y
  | [], [], _, _, _, h => by cases h
  | [], _ :: _, _, e, _, _ => by simp at e
  | _ :: _, [], _, e, _, _ => by simp at e
  | (f, v) :: fv, (g, d) :: fs, y, e, r, h => by
    simp only [List.map_cons, List.cons.injEq] at e
    obtain ⟨e1, e2⟩ := e
    subst e1
    cases r with
    | cons r1 r2 =>
      rw [List.lookup_cons] at h ⊢
      cases c : n == f with
      | true =>
        rw [c] at h
        cases h
        exact ⟨v, rfl, r1⟩
      | false =>
        rw [c] at h
        exact dx_lookup e2 r2 h
/-! ### within the suite -/
/-- isinstance(e, c), e the error that the suite holds -/
def rIsS (K : PySem.W.Frag) (a : Addr) (cls : Value) (d : Option Addr) : List V → Hp → VK → Prop := fun xs H Q => ∃ (D : Addr) (c : V) (cv : Value) (b : Bool), cls = .ref D ∧ xs = [.ref a, c] ∧ DxO H d ∧ ExcC K D ∧ (∀ u, RelV c u → u = cv) ∧ PySem.W.kitOne K (.ref D) cv = some b ∧ Q (.bl b) H
def rIsST (K : PySem.W.Frag) (a : Addr) (cls : Value) (d : Option Addr) : List V → Hp → VK → Prop := fun xs H Q => ∃ (D tp : Addr) (cs : List V) (us : List Value) (b : Bool), cls = .ref D ∧ xs = [.ref a, .ref tp] ∧ DxO H d ∧ ExcC K D ∧ H tp = some (.tup cs) ∧ Paired ClsV cs us ∧ PySem.W.kitAny K (.ref D) us = some b ∧ Q (.bl b) H
theorem su_inst {X : Cx} {a D : Addr} {d : Option Addr} {oe : Obj} {pn pins : List (Addr × Obj)} {σ : L2.St} {H : Hp} {s : Shared} (I : Inv (X.suite a ((a, oe) :: pn)) pins σ H s) (hz : Zc (.ref D) d oe) (hf : ∃ vs, oe.data = .fields vs) (hd : DxO H d) : ∃ od, PySem.W.InstAt s.heap a oe D od := by
  obtain ⟨hget, _⟩ := I.pin (a, oe) (List.mem_append.mpr (.inl List.mem_cons_self))
  obtain ⟨vs, hv⟩ := hf
  have no : PySem.W.notCls oe = true := by unfold PySem.W.notCls; rw [hv] <;> rfl
  cases d with
  | none => exact ⟨none, hget, hz.1, no, by rw [hz.2]; trivial⟩
  | some dd =>
    obtain ⟨fs, hf⟩ := hd
    obtain ⟨mA, hns, _⟩ : ∃ mA, s.heap.Ns1 dd mA ∧ ∀ f, RelO (fs.lookup f) (mA f) := I.hok dd _ hf
    obtain ⟨od, ho, _⟩ := lookIn_ns hns
    exact ⟨some od, hget, hz.1, no, by rw [hz.2]; exact ho⟩
theorem call_isS {X : Cx} {a : Addr} {cls : Value} {d : Option Addr} {oe : Obj} {pn : List (Addr × Obj)} (hz : Zc cls d oe) (hf : ∃ vs, oe.data = .fields vs) : CallR (X.suite a ((a, oe) :: pn)) (.builtin "isinstance") (rIsS X.K a cls d) := by
  intro pins s σ H xs us Q I r h
  obtain ⟨D, c, cv, b, rfl, rfl, hd, C, hc, hk, q⟩ := h
  rcases r with _ | ⟨rx, r⟩
  rcases r with _ | ⟨rt, r⟩
  cases r
  cases rx
  obtain rfl := hc _ rt
  obtain ⟨od, J⟩ := su_inst I hz hf hd
  obtain ⟨cd, hcd, _⟩ := PySem.W.any_some C.hd
  exact PySem.W.kia_one (PySem.W.kitx_exc (by rw [hcd]; rfl) C.hg C.hk C.hs C.ha C.hn C.ht C.hm) I.kIn J hk (fun z => nomatch z) fun tk => ⟨.bl b, H, I.kept (t' := tk) fun _ _ z => z, rfl, q⟩
theorem call_isST {X : Cx} {a : Addr} {cls : Value} {d : Option Addr} {oe : Obj} {pn : List (Addr × Obj)} (hz : Zc cls d oe) (hf : ∃ vs, oe.data = .fields vs) : CallR (X.suite a ((a, oe) :: pn)) (.builtin "isinstance") (rIsST X.K a cls d) := by
  intro pins s σ H xs us Q I r h
  obtain ⟨D, tp, cs, ws, b, rfl, rfl, hd, C, hT, kc, hk, q⟩ := h
  rcases r with _ | ⟨rx, r⟩
  rcases r with _ | ⟨rt, r⟩
  cases r
  cases rx
  cases rt
  obtain ⟨od, J⟩ := su_inst I hz hf hd
  obtain ⟨cd, hcd, _⟩ := PySem.W.any_some C.hd
  obtain ⟨_, its, rv, o, h1, h2, n, h3⟩ := (show ObjOk X.prog X.w H s.heap tp (.tup cs) from I.hok tp _ hT)
  have e3 := ClsV.all kc rv
  subst e3
  obtain ⟨oc, od', dt, sl⟩ := o
  simp only at h2 h3
  subst h2 h3
  exact PySem.W.kia_tup (PySem.W.kitx_exc (by rw [hcd]; rfl) C.hg C.hk C.hs C.ha C.hn C.ht C.hm) I.kIn J h1 hk (fun z => nomatch z) fun tk => ⟨.bl b, H, I.kept (t' := tk) fun _ _ z => z, rfl, q⟩
@[reducible] def heldX (K : PySem.W.Frag) (a : Addr) (cls : Value) (d : Option Addr) (x : W) (k : Addr → Prop) : Prop := match x with | .x a' C dd _ => (a' = a ∧ cls = .ref C ∧ dd = d) ∧ ExcC K C ∧ k C | _ => False
theorem heldX_of {F H : Hp} {a : Addr} {cls : Value} {d : Option Addr} {v : V} {x : W} {k : Addr → Prop} (e : Same F H) (r : RW K F v x) (h : heldX K a cls d x k) : ∃ C, cls = .ref C ∧ v = .ref a ∧ DxO H d ∧ ExcC K C ∧ k C := by
  cases x with
  | x a' C dd fs =>
    obtain ⟨⟨rfl, h1, rfl⟩, h2, h3⟩ := h
    cases r with
    | x fx => exact ⟨C, h1, rfl, fx_dx e fx, h2, h3⟩
  | d _ => exact h.elim
  | r _ => exact h.elim
  | o _ => exact h.elim
@[reducible] def fIsS (K : PySem.W.Frag) (a : Addr) (cls : Value) (d : Option Addr) : FL := fun xs M R => g2 xs fun x y => heldX K a cls d x fun C => gO (clsW y) fun c => gO (PySem.W.kitOne K (.ref C) c) fun b => R (.d (.bool b)) M
theorem sc_isS {a : Addr} {cls : Value} {d : Option Addr} : SC K (rIsS K a cls d) (fIsS K a cls d) := fun F H M vs xs R Q hr rx hf k => by
  obtain ⟨x, y, rfl, h1⟩ := g2_of hf
  obtain ⟨v, u, rfl, r, r'⟩ := rx.two
  obtain ⟨C, e1, rfl, e2, e3, h2⟩ := heldX_of hr.fh r h1
  obtain ⟨c, h3, h4⟩ := gO_of h2
  obtain ⟨b, h5, h6⟩ := gO_of h4
  exact ⟨C, u, c, b, e1, rfl, e2, e3, clsV_val (clsW_of r' h3), h5, k _ H F M _ hr .refl (.d (.bl _)) h6⟩
@[reducible] def isST (K : PySem.W.Frag) (a : Addr) (cls : Value) (d : Option Addr) (T : TDE) (U : TDA) : TDE := fun ρ M R => T ρ M fun x M1 => U ρ M1 fun ys M2 => heldX K a cls d x fun C => gCs ys fun cs => gO (PySem.W.kitAny K (.ref C) cs) fun b => R (.d (.bool b)) M2
theorem se_isST {a : Addr} {cls : Value} {d : Option Addr} {n : Nat} {tx : TE} {ta : TA} {T : TDE} {U : TDA} (h1 : SE K Wx RE tx T) (h2 : SAn K Wx RE n ta U) (hn : n ≤ 1000 := by decide) : SE K Wx RE (tCB (rIsST K a cls d) (tCons tx (tCons (tTup ta) tNil))) (isST K a cls d T U) := fun F H M σ ρ R Q hr hx hs ht k =>
  h1 F H M σ ρ _ _ hr hx hs ht fun v H1 F1 M1 x r1 g1 rx q1 => h2 F1 H1 M1 σ ρ _ _ r1 (hx.mono g1) (hs.mono g1.ff) q1 fun vs H2 F2 M2 ys r2 g2 rys hl q2 => by
    refine ⟨by rw [rys.len, hl]; exact sz1000 hn, fun p hp => ?_⟩
    obtain ⟨C, e1, rfl, e2, e3, q3⟩ := heldX_of r2.fh (rx.mono g2.ff) q2
    obtain ⟨cs, kc, q4⟩ := gCs_of rys q3
    obtain ⟨b, q5, q6⟩ := gO_of q4
    have sm := same_new (o := .tup vs) hp
    obtain ⟨r3, g3⟩ := r2.same sm
    refine ⟨C, p, vs, cs, b, e1, rfl, ?_, e3, upd_same, kc, q5, k _ _ F2 M2 _ r3 ((g1.trans g2).trans g3) (.d (.bl _)) q6⟩
    cases d with
    | none => trivial
    | some dd =>
      obtain ⟨fs, e4⟩ := e2
      exact ⟨fs, sm _ _ e4⟩
end
end Tl
set_option Elab.async false
set_option linter.all false
set_option maxRecDepth 100000
set_option maxHeartbeats 4000000
/-! Further rules: a list extended by a tuple. -/
set_option Elab.async false
set_option linter.all false
set_option maxRecDepth 100000
set_option maxHeartbeats 4000000
/-! t[::-1] of a tuple; rows by their places. -/
set_option Elab.async false
set_option linter.all false
set_option maxRecDepth 100000
set_option maxHeartbeats 4000000
/-! What the readings are unfolded by. -/
namespace Tl
open PySem L2
theorem tyIs_int {d : PyData} : tyIs d "int" = some (isInt d) := by simp [tyIs]
theorem tyIs_bool {d : PyData} : tyIs d "bool" = some (isBl d) := by simp [tyIs]
theorem tyIs_str {d : PyData} : tyIs d "str" = some (isStr d) := by simp [tyIs]
theorem tyIs_tuple {d : PyData} : tyIs d "tuple" = some (isTup d) := by simp [tyIs]
theorem tyIs_list {d : PyData} : tyIs d "list" = some (isList d) := by simp [tyIs]
theorem map_c {α β : Type} {f : α → β} {a : α} {l : List α} : (a :: l).map f = f a :: l.map f := rfl
theorem map_n {α β : Type} {f : α → β} : ([] : List α).map f = [] := rfl
theorem app_c {α : Type} {a : α} {l r : List α} : (a :: l) ++ r = a :: (l ++ r) := rfl
theorem app_n {α : Type} {r : List α} : ([] : List α) ++ r = r := rfl
theorem len_c {α : Type} {a : α} {l : List α} : (a :: l).length = l.length + 1 := rfl
theorem len_n {α : Type} : ([] : List α).length = 0 := rfl
theorem rep_0 {α : Type} {a : α} : List.replicate 0 a = [] := rfl
theorem rep_s {α : Type} {a : α} {n : Nat} : List.replicate (n + 1) a = a :: List.replicate n a := rfl
theorem isE_c {α : Type} {a : α} {l : List α} : (a :: l).isEmpty = false := rfl
theorem isE_n {α : Type} : ([] : List α).isEmpty = true := rfl
theorem IfB.nil {ds : List PyData} {A B : Prop} (h : IfB ds.isEmpty A B) : IfB (PyData.eqv (.list ds) (.list [])) A B := by
  cases ds <;> exact h
theorem IfB.nilT {ds : List PyData} {A B : Prop} (h : IfB ds.isEmpty A B) : IfB (PyData.eqv (.tuple ds) (.tuple [])) A B := by
  cases ds <;> exact h
theorem at_0 {α : Type} {x0 : α} {r : List α} : atI (x0 :: r) 0 = some x0 := atI_nat (j := 0) rfl
theorem at_m0 {α β : Type} {f : α → β} {x0 : α} {r : List α} : atI ((x0 :: r).map f) 0 = some (f x0) := atI_nat (j := 0) rfl
theorem at_1 {α : Type} {x0 x1 : α} {r : List α} : atI (x0 :: x1 :: r) 1 = some x1 := atI_nat (j := 1) rfl
theorem at_m1 {α β : Type} {f : α → β} {x0 x1 : α} {r : List α} : atI ((x0 :: x1 :: r).map f) 1 = some (f x1) := atI_nat (j := 1) rfl
theorem at_2 {α : Type} {x0 x1 x2 : α} {r : List α} : atI (x0 :: x1 :: x2 :: r) 2 = some x2 := atI_nat (j := 2) rfl
theorem at_m2 {α β : Type} {f : α → β} {x0 x1 x2 : α} {r : List α} : atI ((x0 :: x1 :: x2 :: r).map f) 2 = some (f x2) := atI_nat (j := 2) rfl
theorem at_3 {α : Type} {x0 x1 x2 x3 : α} {r : List α} : atI (x0 :: x1 :: x2 :: x3 :: r) 3 = some x3 := atI_nat (j := 3) rfl
theorem at_m3 {α β : Type} {f : α → β} {x0 x1 x2 x3 : α} {r : List α} : atI ((x0 :: x1 :: x2 :: x3 :: r).map f) 3 = some (f x3) := atI_nat (j := 3) rfl
theorem at_4 {α : Type} {x0 x1 x2 x3 x4 : α} {r : List α} : atI (x0 :: x1 :: x2 :: x3 :: x4 :: r) 4 = some x4 := atI_nat (j := 4) rfl
theorem at_m4 {α β : Type} {f : α → β} {x0 x1 x2 x3 x4 : α} {r : List α} : atI ((x0 :: x1 :: x2 :: x3 :: x4 :: r).map f) 4 = some (f x4) := atI_nat (j := 4) rfl
theorem at_5 {α : Type} {x0 x1 x2 x3 x4 x5 : α} {r : List α} : atI (x0 :: x1 :: x2 :: x3 :: x4 :: x5 :: r) 5 = some x5 := atI_nat (j := 5) rfl
theorem at_m5 {α β : Type} {f : α → β} {x0 x1 x2 x3 x4 x5 : α} {r : List α} : atI ((x0 :: x1 :: x2 :: x3 :: x4 :: x5 :: r).map f) 5 = some (f x5) := atI_nat (j := 5) rfl
theorem at_6 {α : Type} {x0 x1 x2 x3 x4 x5 x6 : α} {r : List α} : atI (x0 :: x1 :: x2 :: x3 :: x4 :: x5 :: x6 :: r) 6 = some x6 := atI_nat (j := 6) rfl
theorem at_m6 {α β : Type} {f : α → β} {x0 x1 x2 x3 x4 x5 x6 : α} {r : List α} : atI ((x0 :: x1 :: x2 :: x3 :: x4 :: x5 :: x6 :: r).map f) 6 = some (f x6) := atI_nat (j := 6) rfl
theorem at_7 {α : Type} {x0 x1 x2 x3 x4 x5 x6 x7 : α} {r : List α} : atI (x0 :: x1 :: x2 :: x3 :: x4 :: x5 :: x6 :: x7 :: r) 7 = some x7 := atI_nat (j := 7) rfl
theorem at_m7 {α β : Type} {f : α → β} {x0 x1 x2 x3 x4 x5 x6 x7 : α} {r : List α} : atI ((x0 :: x1 :: x2 :: x3 :: x4 :: x5 :: x6 :: x7 :: r).map f) 7 = some (f x7) := atI_nat (j := 7) rfl
theorem exW {o : Option MO} {ws : List W} {k : List W → Prop} (h : o = some (.lst ws)) (q : k ws) : ∃ ws, o = some (.lst ws) ∧ k ws := ⟨ws, h, q⟩
theorem gDs_i {ds : List PyData} {k : List PyData → Prop} (q : k ds) : gDs (ds.map W.d) k := by rw [gDs_map]; exact q
end Tl
set_option Elab.async false
set_option linter.all false
set_option maxRecDepth 100000
set_option maxHeartbeats 4000000
/-! Flat rows of trees: the row, where parts end, where kids begin, and back. -/
set_option Elab.async false
set_option linter.all false
set_option maxRecDepth 100000
set_option maxHeartbeats 4000000
namespace Tl
open PySem L2
theorem eqv_nil (ds : List PyData) : PyData.eqv (.list ds) (.list []) = ds.isEmpty := by
  cases ds with
  | nil => rfl
  | cons a r => rfl
end Tl
set_option Elab.async false
set_option linter.all false
set_option maxRecDepth 100000
set_option maxHeartbeats 4000000
/-! The empty dict; one of some; rows that are good to be shown, cut and put together. -/
namespace Tl
open PySem L2
theorem se_dnew {K : PySem.W.Frag} {Wx : WX} {RE : REx} : SE K Wx RE tDNewK (cT (.d (.dict []))) := fun F H M σ ρ R Q hr hx hs ht k p hp => by
  obtain ⟨h1, h2⟩ := hr.fresh (u := .dK []) hp
  exact k _ _ _ _ _ h1 h2 (.d (.dic upd_same)) ht
theorem at_mem {α : Type} {xs : List α} {r : Int} (h0 : 0 ≤ r) (h1 : r < (xs.length : Nat)) : ∃ x, atI xs r = some x ∧ x ∈ xs := by
  obtain ⟨n, rfl⟩ : ∃ n : Nat, r = (n : Int) := ⟨r.toNat, by omega⟩
  have hn : n < xs.length := by omega
  exact ⟨xs[n], atI_nat (List.getElem?_eq_getElem hn), List.getElem_mem hn⟩
/-- good to be shown, of a weight and a depth -/
def Gk (m k : Nat) (d : PyData) : Prop := gd d = true ∧ wt d ≤ m ∧ d.depth ≤ k
def Gks (m k : Nat) (ds : List PyData) : Prop := gdAll ds = true ∧ wtAll ds ≤ m ∧ PyData.depthAll ds ≤ k
def GdE (d : PyData) : Prop := Gk 1000000 40 d ∨ d = .dict []
theorem Gk.mono {m k m' k' : Nat} {d : PyData} (h : Gk m k d) (h1 : m ≤ m') (h2 : k ≤ k') : Gk m' k' d := ⟨h.1, Nat.le_trans h.2.1 h1, Nat.le_trans h.2.2 h2⟩
theorem Gks.nil {m k : Nat} : Gks m k [] := ⟨rfl, Nat.zero_le _, Nat.zero_le _⟩
theorem Gks.cons {m k m' m'' : Nat} {d : PyData} {ds : List PyData} (h : Gk m k d) (h' : Gks m' k ds) (e : m + 2 + m' ≤ m'') : Gks m'' k (d :: ds) := by
  refine ⟨by rw [gdAll, h.1, h'.1]; rfl, ?_, ?_⟩
  · rw [wtAll]
    have := h.2.1
    have := h'.2.1
    omega
  · rw [PyData.depthAll]
    have := h.2.2
    have := h'.2.2
    omega
theorem Gks.tup {m k m' : Nat} {ds : List PyData} (h : Gks m k ds) (e : 3 + m ≤ m') : Gk m' (k + 1) (.tuple ds) := ⟨by rw [gd]; exact h.1, by rw [wt]; have := h.2.1; omega, by rw [PyData.depth]; have := h.2.2; omega⟩
theorem Gks.lst {m k m' : Nat} {ds : List PyData} (h : Gks m k ds) (e : 3 + m ≤ m') : Gk m' (k + 1) (.list ds) := ⟨by rw [gd]; exact h.1, by rw [wt]; have := h.2.1; omega, by rw [PyData.depth]; have := h.2.2; omega⟩
theorem Gks.app {m k m' m'' : Nat} {a b : List PyData} (h : Gks m k a) (h' : Gks m' k b) (e : m + m' ≤ m'') : Gks m'' k (a ++ b) := by
  refine ⟨by rw [gdAll_app, h.1, h'.1]; rfl, ?_, ?_⟩
  · rw [wtAll_app]
    have := h.2.1
    have := h'.2.1
    omega
  · rw [depthAll_app]
    have := h.2.2
    have := h'.2.2
    omega
theorem Gks.of_app {m k : Nat} {a b : List PyData} (h : Gks m k (a ++ b)) : Gks m k a ∧ Gks m k b := by
  obtain ⟨h1, h2, h3⟩ := h
  rw [gdAll_app, Bool.and_eq_true] at h1
  rw [wtAll_app] at h2
  rw [depthAll_app] at h3
  exact ⟨⟨h1.1, by omega, by omega⟩, h1.2, by omega, by omega⟩
theorem Gks.take {m k : Nat} {ds : List PyData} (h : Gks m k ds) (n : Nat) : Gks m k (ds.take n) := by
  rw [← List.take_append_drop n ds] at h
  exact h.of_app.1
theorem Gks.drop {m k : Nat} {ds : List PyData} (h : Gks m k ds) (n : Nat) : Gks m k (ds.drop n) := by
  rw [← List.take_append_drop n ds] at h
  exact h.of_app.2
theorem cut_to {α : Type} {xs : List α} {k : Nat} : cut xs none (some (k : Int)) = xs.take k := by
  unfold cut
  rw [HT.sIx_none, HT.sIx_nat, List.drop_zero, Nat.sub_zero]
  by_cases h : k ≤ xs.length
  · rw [Nat.min_eq_left h]
  · rw [Nat.min_eq_right (by omega), List.take_length, List.take_of_length_le (by omega)]
theorem cut_from {α : Type} {xs : List α} {k : Nat} : cut xs (some (k : Int)) none = xs.drop k := by
  unfold cut
  rw [HT.sIx_none, HT.sIx_nat]
  by_cases h : k ≤ xs.length
  · rw [Nat.min_eq_left h, List.take_of_length_le (by rw [List.length_drop]; omega)]
  · rw [Nat.min_eq_right (by omega), List.drop_length, List.drop_of_length_le (by omega), List.take_nil]
theorem cut_from1 {α : Type} {xs : List α} {k : Nat} : cut xs (some ((k : Int) + 1)) none = xs.drop (k + 1) := cut_from (k := k + 1)
theorem gk_int {i : Int} {m k : Nat} (h : i.natAbs < 10 ^ 41) (hm : 1930 ≤ m) : Gk m k (.int i) := ⟨by rw [gd]; exact decide_eq_true h, by rw [wt]; exact hm, Nat.zero_le _⟩
theorem gk_none {m k : Nat} (hm : 4 ≤ m) : Gk m k .none := ⟨rfl, hm, Nat.zero_le _⟩
theorem gO_atD {ds : List PyData} {r : Int} {k : W → Prop} (Pq : PyData → Prop) (h0 : 0 ≤ r) (h1 : r < (ds.length : Nat)) (hp : ∀ d ∈ ds, Pq d) (q : ∀ d, Pq d → k (W.d d)) : gO (atI (ds.map W.d) r) k := by
  obtain ⟨d, e, hm⟩ := at_mem (xs := ds) h0 h1
  refine gO_i (a := W.d d) ?_ (q d (hp d hm))
  rw [atI_map, e]
  rfl
theorem all1 {α : Type} {P : α → Prop} {a : α} {l : List α} (h : P a) (t : ∀ x ∈ l, P x) : ∀ x ∈ a :: l, P x := fun x hx => (List.mem_cons.mp hx).elim (fun z => by rw [z]; exact h) (t x)
theorem all0 {α : Type} {P : α → Prop} : ∀ x ∈ ([] : List α), P x := fun x hx => absurd hx List.not_mem_nil
theorem GdE.txt {d : PyData} (h : GdE d) : txt d = true := by
  rcases h with h | rfl
  · exact gd_txt d h.1
  · rfl
end Tl
set_option Elab.async false
set_option linter.all false
set_option maxRecDepth 100000
set_option maxHeartbeats 4000000
/-! A def called at one place alone (what stands around it is known), and a law's end by it. -/
set_option Elab.async false
set_option linter.all false
set_option maxRecDepth 100000
set_option maxHeartbeats 4000000
/-! Defs that show things: they are run where no text is being made. -/
namespace Tl
open PySem PySem.Spec PyProof.Rows L2
/-- a promise of a def that is kept where nothing is being shown -/
structure FnG (P : Program) (w : World) (K : PySem.W.Frag) (mg : Str → Option Value) (base : Heap) (k : Nat) (f : Addr) (fd : FuncData) (ps : List Str) (sp : Sp) : Prop where
  len : ∀ vs H Q E, sp vs H Q E → vs.length = ps.length
  run : ∀ (A : Around) (st : List Env) (s : Shared) (H : Hp) (args : Args) (us : List Value) (vs : List V) (Q : VK) (E : XK), A.guards = some [] → Room k A → Env0 P w K mg base A st s H → BindsTo s fd args (ps.zip us) → Vals vs us → sp vs H Q E →
    codeAny (model P w) A (.call (.ref f) args) (CR CX0 st P w H s Q E) s
structure UseG (P : Program) (w : World) (K : PySem.W.Frag) (mg : Str → Option Value) (base : Heap) (x : Str) (ps : List Str) (k : Nat) (sp : Sp) where
  f : Addr
  fd : FuncData
  ok : FnG P w K mg base k f fd ps sp
  m : mg x = some (.ref f)
  kp : PySem.W.keepIn K (.ref f) = true
  b : Binds K fd ps []
end Tl
set_option Elab.async false
set_option linter.all false
set_option maxRecDepth 100000
set_option maxHeartbeats 4000000
/-! A law that makes its source of numbers by its first row. -/
set_option Elab.async false
set_option linter.all false
set_option maxRecDepth 100000
set_option maxHeartbeats 4000000
/-! What a top needs: facts of classes, promises lifted to one level. -/
namespace Tl
open PySem L2
theorem kit_sub0 {K : PySem.W.Frag} {D C : Addr} {b : Bool} (h1 : PySem.W.isClsIn K C = true) (h2 : PySem.W.typeIn K (.ref C) = some (.type "type")) (h : PySem.W.subIn K (.ref D) (.ref C) = some b) (hb : D = C → b = true) : PySem.W.kitOne K (.ref D) (.ref C) = some b := by
  unfold PySem.W.kitOne
  by_cases e : D = C
  · rw [hb e, e, if_pos (by simp)]
  · rw [if_neg (fun z => e (Value.ref.inj (eq_of_beq z)))]
    unfold PySem.W.kitCls
    have h1' : (PySem.W.clsIn K C).isSome = true := h1
    have e2 : ((PySem.W.clsIn K C).isSome && PySem.W.typeIn K (.ref C) == some (.type "type")) = true := by rw [h1', h2] <;> rfl
    show (if ((PySem.W.clsIn K C).isSome && PySem.W.typeIn K (.ref C) == some (.type "type")) = true then PySem.W.subIn K (.ref D) (.ref C) else none) = some b
    rw [if_pos e2]
    exact h
theorem kit_sub {K : PySem.W.Frag} {D C : Addr} (h1 : PySem.W.isClsIn K C = true) (h2 : PySem.W.typeIn K (.ref C) = some (.type "type")) (h : PySem.W.subIn K (.ref D) (.ref C) = some true) : PySem.W.kitOne K (.ref D) (.ref C) = some true := kit_sub0 h1 h2 h fun _ => rfl
theorem kit_no {K : PySem.W.Frag} {D C : Addr} (h1 : PySem.W.isClsIn K C = true) (h2 : PySem.W.typeIn K (.ref C) = some (.type "type")) (hs : PySem.W.subIn K (.ref D) (.ref D) = some true) (h : PySem.W.subIn K (.ref D) (.ref C) = some false) : PySem.W.kitOne K (.ref D) (.ref C) = some false :=
  kit_sub0 h1 h2 h fun e => by
    subst e
    rw [hs] at h
    cases h
theorem kit_ve {K : PySem.W.Frag} {D : Addr} (h : PySem.W.subIn K (.ref D) (.type "ValueError") = some true) : PySem.W.kitOne K (.ref D) (.type "ValueError") = some true := by
  unfold PySem.W.kitOne
  rw [if_neg (by simp)]
  show (if PySem.W.kitMeta "ValueError" = true then PySem.W.subIn K (.ref D) (.type "ValueError") else none) = some true
  rw [if_pos (by decide +kernel)]
  exact h
section
variable {P : Program} {w : World} {K : PySem.W.Frag} {mg : Str → Option Value} {base : Heap} {x : Str} {ps : List Str} {k k' : Nat} {sp : Sp}
def Use.up (u : Use P w K mg base x ps k sp) (h : k ≤ k') : Use P w K mg base x ps k' sp := ⟨u.f, u.fd, u.ok.mono h, u.m, u.kp, u.b⟩
def UseX.up (u : UseX P w K mg base x ps k sp) (h : k ≤ k') : UseX P w K mg base x ps k' sp := ⟨u.f, u.fd, u.ok.mono h, u.m, u.kp, u.b⟩
theorem FnG.mono {f : Addr} {fd : FuncData} (F : FnG P w K mg base k f fd ps sp) (h : k ≤ k') : FnG P w K mg base k' f fd ps sp := ⟨F.len, fun A st s H args us vs Q E g hr => F.run A st s H args us vs Q E g (hr.mono h)⟩
def UseG.up (u : UseG P w K mg base x ps k sp) (h : k ≤ k') : UseG P w K mg base x ps k' sp := ⟨u.f, u.fd, u.ok.mono h, u.m, u.kp, u.b⟩
/-- a def as the top has left it -/
structure At (K : PySem.W.Frag) (mg : Str → Option Value) (x : Str) (st : Stmt) where
  f : Addr
  fd : FuncData
  F : Fun K x x st f fd
  m : mg x = some (.ref f)
def use {st : Stmt} (d : At K mg x st) (b : Binds K d.fd ps []) (ok : FnOk P w K mg base CX0 k d.f d.fd ps sp) : Use P w K mg base x ps k sp := ⟨d.f, d.fd, ok, d.m, d.F.kp, b⟩
def useX {st : Stmt} (d : At K mg x st) (b : Binds K d.fd ps []) (ok : FnOk P w K mg base (L2.CX P w) k d.f d.fd ps sp) : UseX P w K mg base x ps k sp := ⟨d.f, d.fd, ok, d.m, d.F.kp, b⟩
/-- one def, from what the top has written -/
def at_mk {h : Heap} {x : Str} {st : Stmt} (X : K.In h) (G : h.Ns mainGlobals mg) {f : Addr} {od an : Option Addr} {sl : Array (Option Value)} {oc kV dc pm cd ct : Value} (a : PySem.W.nsIn K mainGlobals x = some (some (.ref f)))
    (l : K.lookup f = some ⟨oc, od, .func (PySem.W.fnOf x x (defArgs st) (defBody st) (defScope st) .none kV dc pm an cd ct), sl⟩) (c : PySem.W.codeIn K cd x = true) (k : PySem.W.keepIn K (.ref f) = true) : At K mg x st :=
  ⟨f, _, fun_mk (st := st) l c k, PySem.W.mg_of X G a⟩
end
end Tl
set_option Elab.async false
set_option linter.all false
set_option maxRecDepth 100000
set_option maxHeartbeats 4000000
/-! Places, levels and parts of a tree that is data. -/
namespace Tl
open PySem L2
def pathD (q : List Nat) : PyData := .tuple (q.map fun n : Nat => .int (n : Int))
mutual
def lev : PyData → Nat
  | .tuple [_, .tuple ks] => 1 + levAll ks
  | _ => 1
def levAll : List PyData → Nat
  | [] => 0
  | k :: ks => max (lev k) (levAll ks)
end
/-- the part at a path -/
def sub : PyData → List Nat → Option PyData
  | d, [] => some d
  | .tuple [_, .tuple ks], n :: q => (match ks[n]? with | some k => sub k q | none => none)
  | _, _ :: _ => none
/-- a new list, told as data -/
theorem FnOk.dat {P : Program} {w : World} {K : PySem.W.Frag} {mg : Str → Option Value} {base : Heap} {CX : CXT} {f : Addr} {fd : FuncData} {k n : Nat} {ps : List Str} {tf tf' : TF} (F : FnOk P w K mg base CX k f fd ps (spD K n tf))
    (h : ∀ ws M R RX, ws.length = n → tf' ws M R RX → tf ws M (fun x M' => ∃ p ds, x = .r p ∧ M p = none ∧ M' = mset M p (.lst (ds.map W.d)) ∧ R (.d (.list ds)) M) RX) : FnOk P w K mg base CX k f fd ps (spD K n tf') :=
  F.imp fun vs H Q E ⟨F0, M, ws, R, RX, r, rs, hl, hf, hk, hx⟩ => ⟨F0, M, ws, _, RX, r, rs, hl, h ws M R RX hl hf, fun v H' F' M' x r' g rx q => by
    obtain ⟨p, ds, rfl, hp, rfl, hR⟩ := q
    obtain ⟨F2, r2, g2, d2⟩ := r'.freeze (p := p) (ds := ds) mset_same
    rw [mdel_mset, mdel_none hp] at r2 g2
    rw [rx.ref]
    exact hk _ H' F2 M _ r2 (g.trans g2) (.d d2) hR, hx⟩
theorem mapW {α : Type} (g : α → PyData) (xs : List α) : (xs.map g).map W.d = xs.map fun a => W.d (g a) := by rw [List.map_map]; rfl
theorem lc1F {α : Type} {b : TDG} {keep : Mem → Prop} {te : TDE} {ρ : EnvD} {k : List PyData → Prop} {M : Mem} {i : Nat} {f : α → W} (g : α → PyData) (hk : keep M) {xs : List α} (hb : ∀ a ∈ xs, ∀ Rk : W → Mem → Prop, Rk (.d (g a)) M → te (put ρ i (some (f a))) M Rk) (hl : xs.length ≤ sizeLine) {fin : List PyData → Mem → Prop} (h : fin (xs.map g) M) : lcGo (bName i) keep yesT te ρ (fun acc M2 => gDs acc fun ds => fin ds M2) (rows1 (xs.map f)) [] M := by
  refine lc1 (fun a => .d (g a)) hk hb hl ?_
  rw [show (xs.map fun a => W.d (g a)) = (xs.map g).map W.d by rw [List.map_map]; rfl]
  exact gDs_i h
end Tl
set_option Elab.async false
set_option linter.all false
set_option maxRecDepth 100000
set_option maxHeartbeats 4000000
/-! The very value told; count papers. -/
namespace Tl
open PySem L2
/-- a row of a count paper -/
def rowD (q : List Nat) (m h : Nat) : PyData := .tuple [pathD q, .int (m : Int), .int (h : Int)]
end Tl
set_option Elab.async false
set_option linter.all false
set_option maxRecDepth 100000
set_option maxHeartbeats 4000000
/-! More names at once; what is good to be shown, decided. -/
namespace Tl
open PySem L2
theorem wipe_set : ∀ {vs : List Nat} {σ : L2.St} {i : Nat} {a : Option V}, i ∈ vs → wipe (σ.set i a) vs = wipe σ vs
  | [], _, _, _, h => by cases h
  | v :: vs, σ, i, a, h => by
    show (wipe (σ.set i a) vs).set v none = (wipe σ vs).set v none
    by_cases c : i ∈ vs
    · rw [wipe_set c]
    · have e : i = v := by
        rcases List.mem_cons.mp h with h | h
        · exact h
        · exact absurd h c
      subst e
      have go : ∀ (us : List Nat) (τ : L2.St), (wipe (τ.set i a) us).set i none = (wipe τ us).set i none := by
        intro us
        induction us with
        | nil =>
          intro τ
          show (τ.set i a).set i none = τ.set i none
          rw [List.set_set]
        | cons u us ih =>
          intro τ
          show ((wipe (τ.set i a) us).set u none).set i none = ((wipe τ us).set u none).set i none
          by_cases e : u = i
          · subst e
            rw [List.set_set, List.set_set]
            exact ih τ
          · rw [List.set_comm _ _ e, ih τ, List.set_comm _ _ (fun z => e z.symm)]
      exact go vs σ
section
variable {K : PySem.W.Frag} {Wx : WX} {RE : REx}
@[reducible] def bTup3 (i j k : Nat) : TDG := fun row ρ M R => match row with | [w] => gT w fun ds => (match ds with | [a, b, c] => R (put (put (put ρ i (some (.d a))) j (some (.d b))) k (some (.d c))) M | _ => False) | _ => False
theorem sg_tup3 {i j k : Nat} : SG K (gTup K 3 (gCons (gName i) (gCons (gName j) (gCons (gName k) gNil)))) false [i, j, k] (bTup3 i j k) := fun F H M x H' row σ ρ R Q hr hy hs hb kk => by
  obtain ⟨w, rfl, rfl, rx⟩ := hy
  obtain ⟨ds, rfl, h1⟩ := gT_of hb
  obtain ⟨a, xs, rfl, h2, h3⟩ := rx.tup
  split at h1
  · rename_i c d e
    cases h3 with
    | cons q1 h3 =>
    cases h3 with
    | cons q2 h3 =>
    cases h3 with
    | cons q3 h3 =>
    cases h3
    refine ⟨a, _, rfl, same_t hr.fh h2, rfl, _, _, rfl, _, _, rfl, _, [], rfl, rfl, ?_⟩
    refine kk _ _ F M _ hr .refl (((hs.set (.d q1) i).set (.d q2) j).set (.d q3) k) ?_ h1
    rw [wipe_set (by simp), wipe_set (by simp), wipe_set (by simp)]
  · exact h1.elim
end
instance {m k : Nat} {d : PyData} : Decidable (Gk m k d) := inferInstanceAs (Decidable (_ ∧ _ ∧ _))
instance {m k : Nat} {d : List PyData} : Decidable (Gks m k d) := inferInstanceAs (Decidable (_ ∧ _ ∧ _))
theorem Gks.of {m k : Nat} : ∀ {ds : List PyData}, (∀ d ∈ ds, Gk m k d) → Gks ((m + 2) * ds.length) k ds
  | [], _ => ⟨rfl, Nat.zero_le _, Nat.zero_le _⟩
  | d :: ds, h => Gks.cons (h d (.head _)) (Gks.of fun x hx => h x (.tail _ hx)) (by rw [List.length_cons, Nat.mul_succ]; omega)
theorem Gks.mono {m k m' k' : Nat} {ds : List PyData} (h : Gks m k ds) (h1 : m ≤ m') (h2 : k ≤ k') : Gks m' k' ds := ⟨h.1, Nat.le_trans h.2.1 h1, Nat.le_trans h.2.2 h2⟩
theorem Gks.ofL {m k n m' : Nat} {ds : List PyData} (h : ∀ d ∈ ds, Gk m k d) (hl : ds.length ≤ n) (hm : (m + 2) * n ≤ m') : Gks m' k ds := (Gks.of h).mono (Nat.le_trans (Nat.mul_le_mul (Nat.le_refl _) hl) hm) (Nat.le_refl _)
theorem GdE.of {m k : Nat} {d : PyData} (h : Gk m k d) (h1 : m ≤ 1000000) (h2 : k ≤ 40) : GdE d := .inl (h.mono h1 h2)
theorem GdE.dep {d : PyData} (h : GdE d) : d.depth < 50 := by
  rcases h with h | rfl
  · have := h.2.2
    omega
  · decide
theorem small41 {i : Int} (h : -100000 ≤ i) (h2 : i ≤ 100000) : i.natAbs < 10 ^ 41 := Nat.lt_of_le_of_lt (show i.natAbs ≤ 100000 by omega) (by decide)
theorem gk_i {i : Int} {k : Nat} (h : -100000 ≤ i) (h2 : i ≤ 100000) : Gk 1930 k (.int i) := gk_int (small41 h h2) (Nat.le_refl _)
/-- good to be shown, up to a greater weight -/
def GdB (d : PyData) : Prop := Gk 8000000 40 d ∨ d = .dict []
theorem GdB.of {m k : Nat} {d : PyData} (h : Gk m k d) (h1 : m ≤ 8000000) (h2 : k ≤ 40) : GdB d := .inl (h.mono h1 h2)
theorem GdB.txt {d : PyData} (h : GdB d) : txt d = true := by
  rcases h with h | rfl
  · exact gd_txt d h.1
  · rfl
theorem GdB.dep {d : PyData} (h : GdB d) : d.depth < 50 := by
  rcases h with h | rfl
  · have := h.2.2
    omega
  · decide
/-! ### papers -/
structure ROk (d : PyData) : Prop where
  e : ∃ (q : List Nat) (m h : Nat), d = rowD q m h ∧ q.length ≤ 12 ∧ (∀ i ∈ q, i ≤ 60) ∧ m ≤ 60 ∧ h ≤ 12
theorem ROk.g {d : PyData} (r : ROk d) : Gk 30000 2 d := by
  obtain ⟨q, m, h, rfl, h1, h2, h3, h4⟩ := r.e
  unfold rowD
  have hp : Gk 25000 1 (pathD q) := by
    unfold pathD
    refine (Gks.ofL (m := 1930) (k := 0) (n := 12) (m' := 24000) (fun d hd => ?_) (by rw [List.length_map]; exact h1) (by decide)).tup (by decide)
    obtain ⟨i, hi, rfl⟩ := List.mem_map.mp hd
    have := h2 i hi
    exact gk_i (by omega) (by omega)
  exact (Gks.cons (m' := 3864) (m'' := 28866) hp (.cons (m' := 1932) (gk_i (by omega) (by omega)) (.cons (m' := 0) (gk_i (by omega) (by omega)) .nil (by decide)) (by decide)) (by decide)).tup (by decide)
structure POk (ds : List PyData) : Prop where
  n0 : 1 ≤ ds.length
  n1 : ds.length ≤ 60
  e : ∀ d ∈ ds, ROk d
theorem POk.g {ds : List PyData} (h : POk ds) : Gks 1900000 2 ds := Gks.ofL (m := 30000) (n := 60) (fun d hd => (h.e d hd).g) h.n1 (by decide)
end Tl
set_option Elab.async false
set_option linter.all false
set_option maxRecDepth 100000
set_option maxHeartbeats 4000000
/-! A law whose source of numbers is a list with the script itself. -/
set_option Elab.async false
set_option linter.all false
set_option maxRecDepth 100000
set_option maxHeartbeats 4000000
/-! Places in the walk behind, and the least number within each part. -/
namespace Tl
open PySem L2
/-- the law's rows: a place, its tag, the number at which its part begins -/
abbrev Wk := List Nat × PyData × Nat
mutual
def wk : PyData → List Nat → Nat → List Wk
  | .tuple [s, .tuple ks], q, n => wkAll ks q 0 n ++ [(q, s, n)]
  | d, q, n => [(q, d, n)]
def wkAll : List PyData → List Nat → Nat → Nat → List Wk
  | [], _, _, _ => []
  | k :: ks, q, i, n => wk k (q ++ [i]) n ++ wkAll ks q (i + 1) (n + nn k)
end
end Tl
set_option Elab.async false
set_option linter.all false
set_option maxRecDepth 100000
set_option maxHeartbeats 4000000
/-! Defs that are handed on by a name: a walk over some of them, a call of one of them. -/
set_option Elab.async false
set_option linter.all false
set_option maxRecDepth 100000
set_option maxHeartbeats 4000000
/-! list.pop() and min of a list. -/
set_option Elab.async false
set_option linter.all false
set_option maxRecDepth 100000
set_option maxHeartbeats 4000000
/-! A list beside the empty list. -/
set_option Elab.async false
set_option linter.all false
set_option maxRecDepth 100000
set_option maxHeartbeats 4000000
/-! Objects of own classes: fields, methods, making one. -/
namespace Tl
open PySem PySem.Spec PyProof.Rows L2
/-! ### fields -/
section
variable {K : PySem.W.Frag} {F H : Hp} {M : Mem}
theorem PrR.len {F : Hp} {fv : List (Str × V)} {fw : List (Str × W)} (h : PrR K F fv fw) : fv.length = fw.length := by
  have := congrArg List.length h.1
  simpa using this
theorem Rl.ins (h : Rl K F H M) {a C dx : Addr} {fw : List (Str × W)} (e : M a = some (.ins C dx fw)) : ∃ fv, H a = some (.ins C dx fv) ∧ PrR K F fv fw := by
  obtain ⟨u, h1, fv, rfl, h2⟩ := h.at_ a _ e
  exact ⟨fv, h1, h2⟩
end
section
variable {K : PySem.W.Frag} {Wx : WX} {RE : REx}
/-! ### methods -/
/-- a, b = x, y -/
@[reducible] def parT (i j : Nat) (T : TDA) : TDS := fun D ρ M => T ρ M fun xs M1 => g2 xs fun x y => D.nx (put (put ρ i (some x)) j (some y)) M1
theorem ss_par {i j n : Nat} {t : TA} {T : TDA} (h : SAn K Wx RE n t T) : SSt K Wx RE (tPar i j t) (parT i j T) := fun F H M σ ρ D E hr hx hs ht k =>
  h F H M σ ρ _ _ hr hx hs ht fun vs H1 F1 M1 xs r1 g1 rxs hl q1 => by
    obtain ⟨x, y, rfl, q2⟩ := g2_of q1
    obtain ⟨v, u, rfl, rv, ru⟩ := rxs.two
    exact ⟨v, u, rfl, k.nx _ H1 F1 M1 _ r1 g1 (((hs.mono g1.ff).set rv i).set ru j) q2⟩
/-! ### making one -/
end
end Tl
set_option Elab.async false
set_option linter.all false
set_option maxRecDepth 100000
set_option maxHeartbeats 4000000
/-! Errors with a field, raised. -/
namespace Tl
open PySem PySem.Spec PyProof.Rows L2
def inClsN (s : Stmt) (i : Nat) : Stmt := match s with
  | .ClassDef _ _ _ b _ _ _ _ _ _ _ => b.getD i (.Pass ⟨0, 0, 0, 0⟩)
  | _ => .Pass ⟨0, 0, 0, 0⟩
def spInitF (K : PySem.W.Frag) (C : Addr) (fld : Str) : Sp := fun vs H Q _ => ∃ (a : Addr) (v : V), vs = [.ref a, v] ∧ H a = some (exo a C none) ∧ ∀ dx, H dx = none → dx ≠ a → Q .non (upd (upd H dx (exd dx [(fld, v)])) a (exo a C (some dx)))
/-- an own error with one field, as the top has left it -/
structure ErF (K : PySem.W.Frag) (mg : Str → Option Value) (nm qual fld : Str) (st : Stmt) (C : Addr) : Prop where
  o : OexC K C
  g : mg nm = some (.ref C)
  n : PySem.W.findIn K (.ref C) fld = some none
  i : ∃ fI fdI, PySem.W.findIn K (.ref C) "__init__" = some (some (.ref fI)) ∧ PySem.W.typeIn K (.ref fI) = some (.type "function") ∧ Fun K "__init__" qual st fI fdI
section
variable {K : PySem.W.Frag} {Wx : WX} {RE : REx}
@[reducible] def raiseF (RE : REx) (C : Addr) (fld : Str) (T : TDA) : TDS := fun _ ρ M => T ρ M fun xs M1 => g1 xs fun x => gD x fun d => RE ⟨.ref C, [(fld, d)]⟩ ρ M1
theorem ss_raiseF {C : Addr} {fld : Str} {n : Nat} {t : TA} {T : TDA} (h : SAn K Wx RE n t T) : SSt K Wx RE (fun _ σ H => tMkO C (spInitF K C fld) [] t σ H fun cls d H' => Wx cls d σ H') (raiseF RE C fld T) := fun F H M σ ρ D E hr hx hs ht k =>
  h F H M σ ρ _ _ hr hx hs ht fun vs H1 F1 M1 xs r1 g1 rxs hl q1 => by
    obtain ⟨x, rfl, q2⟩ := g1_of q1
    obtain ⟨d, rfl, q3⟩ := gD_of q2
    obtain ⟨v, rfl, rv⟩ := rxs.one
    refine ⟨by show 1 ≤ 1000; decide, fun a ha => ⟨a, v, rfl, upd_same, fun dx hd1 hd2 => ⟨rfl, dx, [(fld, v)], upd_same, ?_, ?_, ?_⟩⟩⟩
    · rw [upd_ne hd2]
      exact upd_same
    · rw [upd_ne hd2] at hd1
      exact hd1
    · rw [upd_ne hd2] at hd1
      have e : upd (L2.del (upd (upd (upd H1 a (exo a C none)) dx (exd dx [(fld, v)])) a (exo a C (some dx))) a) dx (.xd [(fld, v)]) = upd H1 dx (.xd [(fld, v)]) := by
        funext b
        by_cases c : b = dx
        · rw [c, upd_same, upd_same]
        · rw [upd_ne c, upd_ne c]
          by_cases c2 : b = a
          · subst c2
            show (if b = b then none else _) = _
            rw [if_pos rfl, ha]
          · rw [L2.del_ne c2, upd_ne c2, upd_ne c, upd_ne c2]
      rw [e]
      obtain ⟨r2, g2⟩ := r1.fresh (u := .xd [(fld, v)]) hd1
      have g := g1.trans g2
      refine hx (upd F1 dx (.xd [(fld, v)])) _ M1 σ ρ (.ref C) (some dx) ⟨.ref C, [(fld, d)]⟩ g r2 (hs.mono g.ff) ⟨rfl, [(fld, v)], upd_same, rfl, .cons (Dx.mono g2.ff _ _ rv.dx) .nil⟩ q3
/-! ### isinstance of data, one of some built-in classes -/
def tyAny (d : PyData) : List String → Option Bool
  | [] => some false
  | n :: r => (tyIs d n).bind fun b => if b = true then some true else tyAny d r
theorem tyAny_kit {d : PyData} : ∀ {ns : List String} {b : Bool}, tyAny d ns = some b → PySem.W.kitAny K (.type (tyName d)) (ns.map Value.type) = some b
  | [], b, h => by
    rw [tyAny] at h
    cases h
    exact kitAny_nil
  | n :: r, b, h => by
    rw [tyAny] at h
    cases c : tyIs d n with
    | none => rw [c] at h; cases h
    | some e =>
      rw [c, Option.bind_some] at h
      cases e with
      | true =>
        rw [if_pos rfl] at h
        cases h
        exact kitAny_cons (kit_ty (tyIs_kit c)) (fun z => by cases z) fun _ => rfl
      | false =>
        rw [if_neg Bool.false_ne_true] at h
        exact kitAny_cons (kit_ty (tyIs_kit c)) (fun _ => tyAny_kit h) (fun z => by cases z)
inductive gNs (ys : List W) (k : List String → Prop) : Prop where
  | mk (ns : List String) (h : ys = ns.map fun n => W.o (.ty n)) (q : k ns)
theorem gNs_n {k : List String → Prop} (q : k []) : gNs [] k := .mk [] rfl q
theorem gNs_c {n : String} {r : List W} {k : List String → Prop} (h : gNs r fun ns => k (n :: ns)) : gNs (.o (.ty n) :: r) k := by
  obtain ⟨ns, rfl, q⟩ := h
  exact .mk (n :: ns) rfl q
theorem gNs_cls {F : Hp} : ∀ {ns : List String} {vs : List V}, RWs K F vs (ns.map fun n => W.o (.ty n)) → Paired ClsV vs (ns.map Value.type)
  | [], _, h => by cases h; exact .nil
  | n :: ns, _, h => by
    cases h with
    | cons a b => cases a; exact .cons (.ty n) (gNs_cls b)
@[reducible] def isDT (T : TDE) (U : TDA) : TDE := fun ρ M R => T ρ M fun x M1 => U ρ M1 fun ys M2 => gNs ys fun ns => gD x fun d => gO (tyAny d ns) fun b => R (.d (.bool b)) M2
theorem se_isDT {n : Nat} {tx : TE} {ta : TA} {T : TDE} {U : TDA} (h1 : SE K Wx RE tx T) (h2 : SAn K Wx RE n ta U) (hn : n ≤ 1000 := by decide) : SE K Wx RE (tCB (rIsiT K) (tCons tx (tCons (tTup ta) tNil))) (isDT T U) := fun F H M σ ρ R Q hr hx hs ht k =>
  h1 F H M σ ρ _ _ hr hx hs ht fun v H1 F1 M1 x r1 g1 rx q1 => h2 F1 H1 M1 σ ρ _ _ r1 (hx.mono g1) (hs.mono g1.ff) q1 fun vs H2 F2 M2 ys r2 g2 rys hl q2 => by
    refine ⟨by rw [rys.len, hl]; exact sz1000 hn, fun p hp => ?_⟩
    obtain ⟨ns, rfl, q3⟩ := q2
    obtain ⟨d, rfl, q4⟩ := gD_of q3
    obtain ⟨b, q5, q6⟩ := gO_of q4
    have sm := same_new (o := .tup vs) hp
    obtain ⟨r3, g3⟩ := r2.same sm
    exact ⟨v, p, vs, _, _, b, rfl, upd_same, gNs_cls rys, ty_dx (Dx.mono (g2.ff.trans r3.fh) _ _ rx.dx), tyAny_kit q5, k _ _ F2 M2 _ r3 ((g1.trans g2).trans g3) (.d (.bl _)) q6⟩
theorem tyAny_lt {d : PyData} : tyAny d ["list", "tuple"] = some (isList d || isTup d) := by
  rw [tyAny, tyAny, tyAny, tyIs_list, tyIs_tuple]
  cases isList d <;> cases isTup d <;> rfl
end
end Tl
set_option Elab.async false
set_option linter.all false
set_option maxRecDepth 100000
set_option maxHeartbeats 4000000
/-! list and tuple of a range; a list taken apart; equal data. -/
namespace Tl
open PySem L2
section
variable {K : PySem.W.Frag} {Wx : WX} {RE : REx}
def rgD (a b : Int) : List PyData := (List.range (b - a).toNat).map fun i => PyData.int (a + (i : Nat))
theorem rgD_dx {F : Hp} (a b : Int) : DxL K F (rgV a b) (rgD a b) := by
  unfold rgV rgD
  generalize List.range (b - a).toNat = l
  induction l with
  | nil => exact .nil
  | cons x r ih => exact .cons (.int _) ih
theorem rgD_len (a b : Int) : (rgD a b).length = (b - a).toNat := by unfold rgD; rw [List.length_map, List.length_range]
@[reducible] def lstRg1 (T : TDE) : TDE := fun ρ M R => T ρ M fun x M1 => gI x fun n => (-1000000 ≤ n ∧ n ≤ 1000000) ∧ R (.d (.list (rgD 0 n))) M1
theorem se_lstRg1 {t : TE} {T : TDE} (h : SE K Wx RE t T) : SE K Wx RE (tLstRg (tRg1 t)) (lstRg1 T) := fun F H M σ ρ R Q hr hx hs ht k =>
  h F H M σ ρ _ _ hr hx hs ht fun v H1 F1 M1 x r1 g1 rx q1 => by
    obtain ⟨n, rfl, ⟨c1, c2⟩, q2⟩ := gI_of q1
    refine ⟨n, rx.int, ⟨by omega, by omega, by omega, by omega, by omega⟩, fun q hq => ?_⟩
    obtain ⟨r2, g2, rz⟩ := r1.list hq (rgD_dx (K := K) (F := F1) 0 n)
    exact k _ _ _ _ _ r2 (g1.trans g2) rz q2
end
mutual
theorem eqv_self : ∀ d : PyData, d.hasDict = false → PyData.eqv d d = true
  | .none, _ => rfl
  | .bool b, _ => by rw [PyData.eqv]; exact beq_self_eq_true b
  | .int i, _ => by rw [PyData.eqv]; exact beq_self_eq_true i
  | .str x, _ => by rw [PyData.eqv]; exact beq_self_eq_true x
  | .list ds, h => by rw [PyData.hasDict] at h; rw [PyData.eqv]; exact eqvAll_self ds h
  | .tuple ds, h => by rw [PyData.hasDict] at h; rw [PyData.eqv]; exact eqvAll_self ds h
  | .dict _, h => by rw [PyData.hasDict] at h; cases h
theorem eqvAll_self : ∀ ds : List PyData, PyData.hasDictAll ds = false → PyData.eqvAll ds ds = true
  | [], _ => rfl
  | d :: r, h => by
    rw [PyData.hasDictAll, Bool.or_eq_false_iff] at h
    rw [PyData.eqvAll, eqv_self d h.1, eqvAll_self r h.2]
    rfl
end
end Tl
set_option Elab.async false
set_option linter.all false
set_option maxRecDepth 100000
set_option maxHeartbeats 4000000
namespace Tl
open PySem L2 RZ
local macro_rules
  | `(tactic| decreasing_trivial) => `(tactic| ((with_reducible (conv => whnf)); (repeat ((first | (with_reducible refine gDs_c ?_) | (with_reducible refine gDs_n ?_) | (with_reducible refine gNs_c ?_) | (with_reducible refine gNs_n ?_) | (with_reducible refine gO_i tyAny_lt ?_) | (with_reducible refine gIs_c ?_) | (with_reducible refine gIs_n ?_) | (with_reducible refine gBs_c ?_) | (with_reducible refine gBs_n ?_) | (with_reducible refine gSs_c ?_) | (with_reducible refine gSs_n ?_) | (with_reducible refine gO_i tyIs_int ?_) | (with_reducible refine gO_i tyIs_bool ?_) | (with_reducible refine gO_i tyIs_str ?_) | (with_reducible refine gO_i tyIs_tuple ?_) | (with_reducible refine gO_i tyIs_list ?_) | (with_reducible refine gDs_i ?_) | (with_reducible refine gO_i (Eq.refl _) ?_) | (with_reducible refine gO_i (by assumption) ?_) | (with_reducible refine gO_i at_0 ?_) | (with_reducible refine gO_i at_m0 ?_) | (with_reducible refine gO_i at_1 ?_) | (with_reducible refine gO_i at_m1 ?_) | (with_reducible refine gO_i at_2 ?_) | (with_reducible refine gO_i at_m2 ?_) | (with_reducible refine gO_i at_3 ?_) | (with_reducible refine gO_i at_m3 ?_) | (with_reducible refine gO_i at_4 ?_) | (with_reducible refine gO_i at_m4 ?_) | (with_reducible refine gO_i at_5 ?_) | (with_reducible refine gO_i at_m5 ?_) | (with_reducible refine gO_i at_6 ?_) | (with_reducible refine gO_i at_m6 ?_) | (with_reducible refine gO_i at_7 ?_) | (with_reducible refine gO_i at_m7 ?_) | (with_reducible refine IfB.ngf ?_) | (with_reducible refine IfB.ngt ?_) | (with_reducible refine IfB.not ?_) | (with_reducible refine IfB.nil ?_) | (with_reducible refine IfB.nilT ?_) | (with_reducible refine IfB.f isE_c ?_) | (with_reducible refine IfB.t isE_n ?_) | (with_reducible refine IfB.t ?gha ?_; (case gha => rfl)) | (with_reducible refine IfB.f ?gha ?_; (case gha => rfl)) | (with_reducible refine IfB.t ?gha ?_; (case gha => assumption)) | (with_reducible refine IfB.f ?gha ?_; (case gha => assumption)) | (with_reducible refine IfB.yes (Eq.refl _) ?_) | (with_reducible refine IfB.yes ?gha ?_; (case gha => (first | omega | (simp only [len_c, len_n, List.length_map]; omega)))) | (with_reducible refine IfB.no ?gha ?_; (case gha => (first | omega | (simp only [len_c, len_n, List.length_map]; omega)))) | (with_reducible refine IfB.t ?gha ?_; (case gha => decide +kernel)) | (with_reducible refine IfB.f ?gha ?_; (case gha => decide +kernel))); (with_reducible (conv => whnf))))))
local macro_rules
  | `(tactic| decreasing_trivial_pre_omega) => `(tactic| (decreasing_trivial; (repeat ((first | ((with_reducible refine And.intro ?gha ?_); (case gha => (first | assumption | omega | exact rfl | (exact mset_same) | (exact ⟨_, mset_same⟩) | (exact Exists.intro _ (by first | exact mset_same | assumption | (rw [mset_ne (by assumption)]; first | exact mset_same | assumption))) | (exact sm_of (by omega) (by omega)) | (exact sz1000 (by first | omega | (simp; done) | (simp; omega))) | (exact Or.inl ⟨by decide, by decide⟩) | decide | (simp; done) | (refine ⟨?_, ?_⟩ <;> (first | assumption | omega | exact rfl | (exact mset_same) | (exact ⟨_, mset_same⟩) | (exact Exists.intro _ (by first | exact mset_same | assumption | (rw [mset_ne (by assumption)]; first | exact mset_same | assumption))) | (exact sm_of (by omega) (by omega)) | (exact sz1000 (by first | omega | (simp; done) | (simp; omega))) | (exact Or.inl ⟨by decide, by decide⟩) | decide | (simp; done))) | (refine ⟨?_, ?_, ?_⟩ <;> (first | assumption | omega | exact rfl | (exact mset_same) | (exact ⟨_, mset_same⟩) | (exact Exists.intro _ (by first | exact mset_same | assumption | (rw [mset_ne (by assumption)]; first | exact mset_same | assumption))) | (exact sm_of (by omega) (by omega)) | (exact sz1000 (by first | omega | (simp; done) | (simp; omega))) | (exact Or.inl ⟨by decide, by decide⟩) | decide | (simp; done))) | (refine ⟨?_, ?_, ?_, ?_⟩ <;> (first | assumption | omega | exact rfl | (exact mset_same) | (exact ⟨_, mset_same⟩) | (exact Exists.intro _ (by first | exact mset_same | assumption | (rw [mset_ne (by assumption)]; first | exact mset_same | assumption))) | (exact sm_of (by omega) (by omega)) | (exact sz1000 (by first | omega | (simp; done) | (simp; omega))) | (exact Or.inl ⟨by decide, by decide⟩) | decide | (simp; done)))))) | (with_reducible refine exW (by first | exact mset_same | assumption | (rw [mset_ne (by assumption)]; first | exact mset_same | assumption)) ?_)); decreasing_trivial))))
def top (i : Nat) : Stmt := PySem.Challenge.pw_treelore_k67_ties_refused.main.body.getD i (.Pass ⟨0, 0, 0, 0⟩)
section
variable {P : Program} {w : World} {K : PySem.W.Frag} {mg : Str → Option Value} {base : Heap}
abbrev sIsCount : Stmt := top 22
theorem scCount : FnScope ["thing"] ["thing"] (defScope sIsCount) := ⟨rfl, rfl, rfl, by decide +kernel, rfl, by decide +kernel, by decide +kernel⟩
theorem ok_count {f : Addr} {fd : FuncData} {k : Nat} (F : Fun K "is_count" "is_count" sIsCount f fd) (T : Bl mg) : FnOk P w K mg base CX0 (k + 1) f fd ["thing"] (spD K 1 (tfB isCount)) := by
  refine okD F scCount rfl fun cdv A outer s H E hr => ?_
  refine ⟨_, _, (pss_one (ps_ret (pe_and (pe_callB (r := rIsi K) call_isi (by rfl) T.isi PyProof.Rows.boot_isinstance (pa_cons (pv 0) (pa_cons (b_int T) pa_nil))) (pe_and (pe_not (pe_callB (r := rIsi K) call_isi (by rfl) T.isi PyProof.Rows.boot_isinstance (pa_cons (pv 0) (pa_cons (b_bool T) pa_nil)))) (pe_one (pe_cmpR op_ge (pv 0) pe_int (nomark _))))))),
    (ss_ret (se_and (se_cb sc_isi (sa_cons se_nm (sa_cons se_o sa_nil))) (se_and (se_not (se_cb sc_isi (sa_cons se_nm (sa_cons se_o sa_nil)))) (se_op so_ge se_nm se_int)))), fun ws M R RX hl h => ?_⟩
  obtain ⟨x, rfl, h1⟩ := g1_of h
  obtain ⟨d, rfl, ht, h2⟩ := gD_of h1
  cases d <;> (simp only [start0, len_c, len_n, map_c, map_n, app_c, app_n, rep_0, rep_s, Nat.reduceAdd, Nat.reduceSub]; decreasing_trivial; exact h2)
abbrev sIsNumber : Stmt := top 23
theorem scNumber : FnScope ["thing", "most"] ["thing", "most"] (defScope sIsNumber) := ⟨rfl, rfl, rfl, by decide +kernel, rfl, by decide +kernel, by decide +kernel⟩
theorem ok_number {f : Addr} {fd : FuncData} {k j : Nat} (F : Fun K "is_number" "is_number" sIsNumber f fd) (Uis_count : Use P w K mg base "is_count" ["thing"] j (spD K 1 (tfB isCount))) (hj : j ≤ k) (T : Bl mg) : FnOk P w K mg base CX0 (k + 1) f fd ["thing", "most"] (spD K 2 (tfB2 isNum)) := by
  refine okD F scNumber rfl fun cdv A outer s H E hr => ?_
  refine ⟨_, _, (pss_one (ps_ret (pe_and (pe_call Uis_count.ok (hr.mono (by omega)) rfl Uis_count.m Uis_count.kp Uis_count.b .nil pass0 (pa_cons (pv 0) pa_nil)) (pe_one (pe_cmpR op_le (pv 0) (pv 1) (nomark _)))))),
    (ss_ret (se_and (se_call (sa_cons se_nm sa_nil)) (se_op so_le se_nm se_nm))), fun ws M R RX hl h => ?_⟩
  obtain ⟨x, y, rfl, h1⟩ := g2_of h
  obtain ⟨d, rfl, h2⟩ := gD_of h1
  obtain ⟨m, rfl, ht, h3⟩ := gI_of h2
  simp only [start0, len_c, len_n, map_c, map_n, app_c, app_n, rep_0, rep_s, Nat.reduceAdd, Nat.reduceSub]
  decreasing_trivial_pre_omega
  cases d with
  | int i =>
    rw [isCount]
    rw [isNum] at h3
    refine IfB.d (fun c => ?_) (fun c => ?_)
    · decreasing_trivial_pre_omega
      rw [decide_eq_true c, Bool.true_and] at h3
      exact h3
    · decreasing_trivial_pre_omega
      rw [decide_eq_false c, Bool.false_and] at h3
      exact h3
  | _ => refine IfB.f rfl ?_; decreasing_trivial_pre_omega; exact h3
end
end Tl
set_option Elab.async false
set_option linter.all false
set_option maxRecDepth 100000
set_option maxHeartbeats 8000000
namespace Tl
open PySem L2 RZ
/-- a number below m from the source at st -/
@[reducible] def tfNext (b : Bool) : TF := fun ws M R _ => g2 ws fun x y => gR x fun st => gI y fun m => (M st = some (.src b) ∧ 1 ≤ m ∧ m ≤ 100000) ∧ ∀ r : Int, 0 ≤ r → r < m → R (.d (.int r)) M
theorem fm_pos (x : Int) {m : Int} (h : 0 < m) : 0 ≤ x.fmod m ∧ x.fmod m < m := ⟨Int.fmod_nonneg_of_pos x h, Int.fmod_lt_of_pos x h⟩
theorem fd_pos {x m : Int} (hx : 0 ≤ x) (h : 0 < m) : 0 ≤ x.fdiv m := by
  rw [Int.fdiv_eq_ediv_of_nonneg _ (Int.le_of_lt h)]
  exact Int.ediv_nonneg hx (Int.le_of_lt h)
theorem at4 {c : Addr} {i p z : Int} : atI [V.ref c, .int i, .int p, .int z] 0 = some (.ref c) ∧ atI [V.ref c, .int i, .int p, .int z] 1 = some (.int i) ∧ atI [V.ref c, .int i, .int p, .int z] 2 = some (.int p) ∧ atI [V.ref c, .int i, .int p, .int z] 3 = some (.int z) :=
  ⟨atI_nat (j := 0) rfl, atI_nat (j := 1) rfl, atI_nat (j := 2) rfl, atI_nat (j := 3) rfl⟩
theorem nz51 : (2305843009213693951 : Int) ≠ 0 := by decide
theorem nz29 : (2147483629 : Int) ≠ 0 := by decide
section
variable {P : Program} {w : World} {K : PySem.W.Frag} {mg : Str → Option Value} {base : Heap}
/-- the source as it stands, and how it goes on -/
theorem src_at {b : Bool} {F H : Hp} {M : Mem} {st : Addr} {R : W → Mem → Prop} {Q : VK} {m : Int} (hr : Rl K F H M) (hM : M st = some (.src b)) (hk : Kt K F H M R Q) (q : ∀ r : Int, 0 ≤ r → r < m → R (.d (.int r)) M) :
    ∃ (c : Addr) (cs : List Int) (i p z : Int), H st = some (.lst [.ref c, .int i, .int p, .int z]) ∧ SqL K H c (cs.map V.int) ∧ (∀ H0 o, Same H H0 → SqL K (upd H0 st o) c (cs.map V.int)) ∧ cs.length ≤ 63 ∧ (b = true → 0 < cs.length) ∧ 0 ≤ i ∧ 0 ≤ p ∧ 0 ≤ z ∧ z < (if b = true then 2147483647 else 2305843009213693951) ∧
      ∀ (H0 : Hp), Same H H0 → ∀ r i' p' z' : Int, 0 ≤ r → r < m → 0 ≤ i' → 0 ≤ p' → 0 ≤ z' → z' < (if b = true then 2147483647 else 2305843009213693951) → Q (.int r) (upd H0 st (.lst [.ref c, .int i', .int p', .int z'])) := by
  obtain ⟨_, h1, _, rfl, c, cs, i, p, z, rfl, hc, hl, hl0, hi, hp, hz0, hz1⟩ := hr.at_ st _ hM
  refine ⟨c, cs, i, p, z, h1, same_l hr.fh hc, fun H0 o e0 => same_l (same_mut (hr.same e0).1.fh ((hr.same e0).1.mf _ _ hM)) hc, hl, hl0, hi, hp, hz0, hz1, fun H0 e0 r i' p' z' g1 g2 g3 g4 g5 g6 => ?_⟩
  obtain ⟨r1, gg⟩ := hr.same e0
  obtain ⟨r2, g⟩ := r1.put (u := .lst [.ref c, .int i', .int p', .int z']) (o := .src b) hM ⟨_, rfl, c, cs, i', p', z', rfl, hc, hl, hl0, g3, g4, g5, g6⟩
  rw [mset_id hM] at r2 g
  exact hk _ _ _ _ _ r2 (gg.trans g) (.d (.int _)) (q r g1 g2)
theorem dp_ints {H : Hp} : ∀ cs : List Int, DpAll K H (cs.map V.int) (cs.map PyData.int)
  | [] => .nil
  | c :: r => .cons (.int c) (dp_ints r)
theorem ints_shaped (cs : List Int) : SeqAt.shaped (.list (cs.map PyData.int)) = true := flat_shaped (by
  rw [List.all_map, List.all_eq_true]
  intro x _
  rfl)
theorem iteN' {c : Bool} {A B : Prop} (h1 : c = false → A) (h2 : c = true → B) : if (!c) = true then A else B := by
  cases c
  · exact h1 rfl
  · exact h2 rfl
abbrev sTake : Stmt := top 44
theorem scTake : FnScope ["_law_state", "_law_below", "_law_cell", "_law_found"] ["_law_state", "_law_below"] (defScope sTake) := ⟨rfl, rfl, rfl, by decide +kernel, rfl, by decide +kernel, by decide +kernel⟩
theorem ok_take {f : Addr} {fd : FuncData} {k : Nat} (F : Fun K "_law_take" "_law_take" sTake f fd) (T : Bl mg) : FnOk P w K mg base CX0 (k + 1) f fd ["_law_state", "_law_below"] (spD K 2 (tfNext false)) := by
  refine F.ok scTake (fun vs H Q E h => ?_) (fun cdv A outer s H vs Q E hr h => ?_)
  · obtain ⟨F0, M, ws, R, RX, r, rs, hl, _⟩ := h
    rw [rs.len, hl]
    rfl
  obtain ⟨F0, M, ws, R, RX, hr0, rs, _, hf, hk, _⟩ := h
  obtain ⟨x0, y0, rfl, hf1⟩ := g2_of hf
  obtain ⟨st, rfl, hf2⟩ := gR_of hf1
  obtain ⟨m, rfl, ⟨hM, hm0, hm1⟩, q0⟩ := gI_of hf2
  obtain ⟨v1, v2, rfl, e1, e2⟩ := rs.two
  obtain rfl := e1.ref
  obtain rfl := e2.int
  obtain ⟨c, cs, i, p, z, h1, h2, h3, hl, hl0, hi, hp, hz0, hz1, q⟩ := src_at hr0 hM hk q0
  rw [if_neg (by decide)] at hz1
  simp only [Bool.false_eq_true, if_false] at q
  refine ⟨_, (pss_cons (ps_if (pt_cmpR op_gt (pe_ix ix_list (pv 0) pe_int (fun _ _ => rfl)) pe_int (nomark _)) (pss_cons (ps_set (i := 3) scTake.nd rfl (.inl rfl) (pe_op op_modN (pe_ix ix_list (pv 0) pe_int (fun _ _ => rfl)) (pv 1)))
      (pss_cons (ps_asg (pe_op op_fdivN (pe_ix ix_list (pv 0) pe_int (fun _ _ => rfl)) (pv 1)) (pg_sub (pv 0) pe_int set_list))
      (pss_one (ps_ret (pv 3))))) pss_nil)
    (pss_cons (ps_set (i := 2) scTake.nd rfl (.inl rfl) (pe_ix ix_list (pv 0) pe_int (fun _ _ => rfl)))
    (pss_cons (ps_if (pt_cmpR (op_neD hr.units) (pe_ix ix_list (pv 0) pe_int (fun _ _ => rfl)) (pe_lst pa_nil) (nomark _)) (pss_one (ps_set (i := 2) scTake.nd rfl (.inl rfl) (pe_ix ix_list (pe_ix ix_list (pv 0) pe_int (fun _ _ => rfl)) (pe_op op_modN (pe_ix ix_list (pv 0) pe_int (fun _ _ => rfl)) (pe_callB call_len_seq (by rfl) T.len PySem.boot_len (pa_cons (pe_ix ix_list (pv 0) pe_int (fun _ _ => rfl)) pa_nil))) (fun _ _ => rfl)))) pss_nil)
    (pss_cons (ps_asg (pe_op op_add (pe_ix ix_list (pv 0) pe_int (fun _ _ => rfl)) pe_int) (pg_sub (pv 0) pe_int set_list))
    (pss_cons (ps_if (PW.pt (pw_and (pt_cmpR op_ge (pv 2) (pe_op op_pow pe_int pe_int) (nomark _)) (pw_and1 (pt_cmpR op_le (pe_ix ix_list (pv 0) pe_int (fun _ _ => rfl)) (pe_callB call_len_seq (by rfl) T.len PySem.boot_len (pa_cons (pe_ix ix_list (pv 0) pe_int (fun _ _ => rfl)) pa_nil)) (nomark _))))) (pss_cons (ps_asg (pe_op op_fdivN (pv 2) (pv 1)) (pg_sub (pv 0) pe_int set_list))
      (pss_one (ps_ret (pe_op op_modN (pv 2) (pv 1))))) pss_nil)
    (pss_cons (ps_set (i := 2) scTake.nd rfl (.inl rfl) (pe_op op_modN (pv 2) pe_int))
    (pss_cons (ps_asg (pe_op op_modN (pe_op op_add (pe_op op_add (pe_op op_mul (pe_ix ix_list (pv 0) pe_int (fun _ _ => rfl)) pe_int) (pe_op op_mul (pv 2) pe_int)) (pe_ix ix_list (pv 0) pe_int (fun _ _ => rfl))) pe_int) (pg_sub (pv 0) pe_int set_list))
    (pss_one (ps_ret (pe_op op_modN (pe_op op_fdivN (pe_op op_modN (pe_op op_mul (pe_ix ix_list (pv 0) pe_int (fun _ _ => rfl)) (pe_ix ix_list (pv 0) pe_int (fun _ _ => rfl))) pe_int) pe_int) (pv 1))))))))))), ?_⟩
  have hm30 : m ≠ 0 ∧ m.natAbs < 1073741824 := ⟨by omega, by omega⟩
  refine ⟨_, rfl, st, _, 2, _, rfl, rfl, SqL.of h1, at4.2.2.1, p, 0, rfl, rfl, _, rfl, ?_⟩
  refine iteD (fun cc => ?_) (fun cc => ?_)
  · refine ⟨_, rfl, st, _, 2, _, rfl, rfl, SqL.of h1, at4.2.2.1, _, rfl, p, m, rfl, rfl, hm30.1, ?_⟩
    refine ⟨_, rfl, st, _, 2, _, rfl, rfl, SqL.of h1, at4.2.2.1, _, rfl, p, m, rfl, rfl, hm30, ?_⟩
    refine ⟨_, rfl, st, _, 2, 2, rfl, rfl, h1, rfl, ?_⟩
    refine ⟨_, rfl, ?_⟩
    exact q H (Same.refl _) _ _ _ _ (fm_pos p (by omega)).1 (fm_pos p (by omega)).2 hi (fd_pos hp (by omega)) hz0 hz1
  · refine ⟨_, rfl, st, _, 1, _, rfl, rfl, SqL.of h1, at4.2.1, ?_⟩
    refine ⟨_, rfl, st, _, 0, _, rfl, rfl, SqL.of h1, at4.1, by show 0 ≤ sizeLine; decide, fun p0 hp0 => ?_⟩
    have e01 : Same H (upd H p0 (.lst [])) := same_new hp0
    have nst : st ≠ p0 := ne_of_none h1 hp0
    have g1 : (upd H p0 (.lst [])) st = some (.lst [V.ref c, .int i, .int p, .int z]) := by rw [upd_ne nst]; exact h1
    have g2 : SqL K (upd H p0 (.lst [])) c (cs.map V.int) := same_l e01 h2
    have g0 : Dp K (upd H p0 (.lst [])) (.ref p0) (.list []) := .lst (SqL.of upd_same) .nil
    generalize upd H p0 (.lst []) = H1 at e01 g1 g2 g0 ⊢
    have gd1 : Dp K H1 (.ref c) (.list (cs.map PyData.int)) := .lst g2 (dp_ints cs)
    refine ⟨_, _, gd1, g0, ints_shaped cs, by decide +kernel, _, rfl, ?_⟩
    rw [eqv_nil]
    refine iteN' (fun cc2 => ?_) (fun cc2 => ?_)
    · have hne : 0 < cs.length := by
        rcases Nat.eq_zero_or_pos cs.length with e | e
        · rw [List.eq_nil_of_length_eq_zero e] at cc2
          cases cc2
        · exact e
      have hlen : (cs.map V.int).length = cs.length := List.length_map _
      have hf := fm_pos i (m := ((cs.map V.int).length : Nat)) (by rw [hlen]; omega)
      obtain ⟨j, ej⟩ : ∃ j : Nat, i.fmod ((cs.map V.int).length : Nat) = (j : Int) := ⟨(i.fmod ((cs.map V.int).length : Nat)).toNat, by omega⟩
      have hj : j < cs.length := by rw [hlen] at hf; rw [hlen] at ej; omega
      have hat : atI (cs.map V.int) (i.fmod ((cs.map V.int).length : Nat)) = some (.int cs[j]) := by
        rw [ej]
        exact atI_nat (by rw [List.getElem?_map, List.getElem?_eq_getElem hj]; rfl)
      generalize cs[j] = x at hat
      refine ⟨_, rfl, st, _, 0, _, rfl, rfl, SqL.of g1, at4.1, _, rfl, st, _, 1, _, rfl, rfl, SqL.of g1, at4.2.1, _, rfl, st, _, 0, _, rfl, rfl, SqL.of g1, at4.1, c, _, rfl, .inl g2, i, _, rfl, rfl, by rw [hlen]; omega, c, _, _, _, rfl, rfl, g2, hat, ?_⟩
      refine ⟨_, rfl, st, _, 1, _, rfl, rfl, SqL.of g1, at4.2.1, i, 1, rfl, rfl, _, rfl, st, _, 1, 1, rfl, rfl, g1, rfl, ?_⟩
      have g1' : (upd H1 st (.lst [V.ref c, .int (i + 1), .int p, .int z])) st = some (.lst [V.ref c, .int (i + 1), .int p, .int z]) := upd_same
      have g2' := h3 H1 (.lst [V.ref c, .int (i + 1), .int p, .int z]) e01
      have fin2 : ∀ (r p' z' : Int), 0 ≤ r → r < m → 0 ≤ p' → 0 ≤ z' → z' < 2305843009213693951 → Q (.int r) (upd (upd H1 st (.lst [V.ref c, .int (i + 1), .int p, .int z])) st (.lst [V.ref c, .int (i + 1), .int p', .int z'])) := fun r p' z' g1 g2 g3 g4 g5 => by
        rw [upd_upd]
        exact q H1 e01 _ _ _ _ g1 g2 (by omega) g3 g4 g5
      refine ⟨_, rfl, 10, 18, rfl, rfl, ⟨by decide, by decide, by decide⟩, x, _, rfl, rfl, _, rfl, ?_⟩
      refine iteD (fun c1 => ?_) (fun c1 => ?_)
      · refine ⟨_, rfl, st, _, 1, _, rfl, rfl, SqL.of g1', at4.2.1, _, rfl, st, _, 0, _, rfl, rfl, SqL.of g1', at4.1, c, _, rfl, .inl g2', _, _, rfl, rfl, _, rfl, ?_⟩
        refine iteD (fun c2 => ?_) (fun c2 => ?_)
        · refine ⟨_, rfl, _, rfl, x, m, rfl, rfl, hm30, _, rfl, st, _, 2, 2, rfl, rfl, g1', rfl, ?_⟩
          refine ⟨_, rfl, _, rfl, x, m, rfl, rfl, hm30.1, ?_⟩
          exact fin2 _ _ _ (fm_pos x (by omega)).1 (fm_pos x (by omega)).2 (fd_pos (Int.le_trans (by decide) c1) (by omega)) hz0 hz1
        · skip
          refine ⟨_, rfl, _, 2305843009213693951, rfl, rfl, nz51, ?_⟩
          have hx1 := fm_pos x (m := 2305843009213693951) (by decide)
          refine ⟨_, rfl, st, _, 3, _, rfl, rfl, SqL.of g1', at4.2.2.2, z, 48271, rfl, rfl, .inl ⟨by omega, by omega⟩, _, rfl, x.fmod 2305843009213693951, 69621, rfl, rfl, .inl ⟨by omega, by omega⟩, _, _, rfl, rfl, _, rfl, st, _, 1, _, rfl, rfl, SqL.of g1', at4.2.1, _, _, rfl, rfl, _, 2305843009213693951, rfl, rfl, nz51, _, rfl, st, _, 3, 3, rfl, rfl, g1', rfl, ?_⟩
          have hb := fm_pos (z * 48271 + x.fmod 2305843009213693951 * 69621 + (i + 1)) (m := 2305843009213693951) (by decide)
          refine ⟨_, rfl, st, _, 3, _, rfl, rfl, SqL.of upd_same, at4.2.2.2, _, rfl, st, _, 3, _, rfl, rfl, SqL.of upd_same, at4.2.2.2, _, _, rfl, rfl, .inl ⟨by omega, by omega⟩, _, 2147483629, rfl, rfl, nz29, _, 8, rfl, rfl, ⟨by decide, by decide⟩, _, rfl, _, m, rfl, rfl, hm30.1, ?_⟩
          exact fin2 _ _ _ (fm_pos _ (by omega)).1 (fm_pos _ (by omega)).2 hp hb.1 hb.2
      · skip
        refine ⟨_, rfl, _, 2305843009213693951, rfl, rfl, nz51, ?_⟩
        have hx1 := fm_pos x (m := 2305843009213693951) (by decide)
        refine ⟨_, rfl, st, _, 3, _, rfl, rfl, SqL.of g1', at4.2.2.2, z, 48271, rfl, rfl, .inl ⟨by omega, by omega⟩, _, rfl, x.fmod 2305843009213693951, 69621, rfl, rfl, .inl ⟨by omega, by omega⟩, _, _, rfl, rfl, _, rfl, st, _, 1, _, rfl, rfl, SqL.of g1', at4.2.1, _, _, rfl, rfl, _, 2305843009213693951, rfl, rfl, nz51, _, rfl, st, _, 3, 3, rfl, rfl, g1', rfl, ?_⟩
        have hb := fm_pos (z * 48271 + x.fmod 2305843009213693951 * 69621 + (i + 1)) (m := 2305843009213693951) (by decide)
        refine ⟨_, rfl, st, _, 3, _, rfl, rfl, SqL.of upd_same, at4.2.2.2, _, rfl, st, _, 3, _, rfl, rfl, SqL.of upd_same, at4.2.2.2, _, _, rfl, rfl, .inl ⟨by omega, by omega⟩, _, 2147483629, rfl, rfl, nz29, _, 8, rfl, rfl, ⟨by decide, by decide⟩, _, rfl, _, m, rfl, rfl, hm30.1, ?_⟩
        exact fin2 _ _ _ (fm_pos _ (by omega)).1 (fm_pos _ (by omega)).2 hp hb.1 hb.2
    · obtain ⟨x, hx⟩ : ∃ x : Int, x = i := ⟨i, rfl⟩
      rw [← hx]
      clear hx
      refine ⟨_, rfl, st, _, 1, _, rfl, rfl, SqL.of g1, at4.2.1, i, 1, rfl, rfl, _, rfl, st, _, 1, 1, rfl, rfl, g1, rfl, ?_⟩
      have g1' : (upd H1 st (.lst [V.ref c, .int (i + 1), .int p, .int z])) st = some (.lst [V.ref c, .int (i + 1), .int p, .int z]) := upd_same
      have g2' := h3 H1 (.lst [V.ref c, .int (i + 1), .int p, .int z]) e01
      have fin2 : ∀ (r p' z' : Int), 0 ≤ r → r < m → 0 ≤ p' → 0 ≤ z' → z' < 2305843009213693951 → Q (.int r) (upd (upd H1 st (.lst [V.ref c, .int (i + 1), .int p, .int z])) st (.lst [V.ref c, .int (i + 1), .int p', .int z'])) := fun r p' z' g1 g2 g3 g4 g5 => by
        rw [upd_upd]
        exact q H1 e01 _ _ _ _ g1 g2 (by omega) g3 g4 g5
      refine ⟨_, rfl, 10, 18, rfl, rfl, ⟨by decide, by decide, by decide⟩, x, _, rfl, rfl, _, rfl, ?_⟩
      refine iteD (fun c1 => ?_) (fun c1 => ?_)
      · refine ⟨_, rfl, st, _, 1, _, rfl, rfl, SqL.of g1', at4.2.1, _, rfl, st, _, 0, _, rfl, rfl, SqL.of g1', at4.1, c, _, rfl, .inl g2', _, _, rfl, rfl, _, rfl, ?_⟩
        refine iteD (fun c2 => ?_) (fun c2 => ?_)
        · refine ⟨_, rfl, _, rfl, x, m, rfl, rfl, hm30, _, rfl, st, _, 2, 2, rfl, rfl, g1', rfl, ?_⟩
          refine ⟨_, rfl, _, rfl, x, m, rfl, rfl, hm30.1, ?_⟩
          exact fin2 _ _ _ (fm_pos x (by omega)).1 (fm_pos x (by omega)).2 (fd_pos (Int.le_trans (by decide) c1) (by omega)) hz0 hz1
        · skip
          refine ⟨_, rfl, _, 2305843009213693951, rfl, rfl, nz51, ?_⟩
          have hx1 := fm_pos x (m := 2305843009213693951) (by decide)
          refine ⟨_, rfl, st, _, 3, _, rfl, rfl, SqL.of g1', at4.2.2.2, z, 48271, rfl, rfl, .inl ⟨by omega, by omega⟩, _, rfl, x.fmod 2305843009213693951, 69621, rfl, rfl, .inl ⟨by omega, by omega⟩, _, _, rfl, rfl, _, rfl, st, _, 1, _, rfl, rfl, SqL.of g1', at4.2.1, _, _, rfl, rfl, _, 2305843009213693951, rfl, rfl, nz51, _, rfl, st, _, 3, 3, rfl, rfl, g1', rfl, ?_⟩
          have hb := fm_pos (z * 48271 + x.fmod 2305843009213693951 * 69621 + (i + 1)) (m := 2305843009213693951) (by decide)
          refine ⟨_, rfl, st, _, 3, _, rfl, rfl, SqL.of upd_same, at4.2.2.2, _, rfl, st, _, 3, _, rfl, rfl, SqL.of upd_same, at4.2.2.2, _, _, rfl, rfl, .inl ⟨by omega, by omega⟩, _, 2147483629, rfl, rfl, nz29, _, 8, rfl, rfl, ⟨by decide, by decide⟩, _, rfl, _, m, rfl, rfl, hm30.1, ?_⟩
          exact fin2 _ _ _ (fm_pos _ (by omega)).1 (fm_pos _ (by omega)).2 hp hb.1 hb.2
      · skip
        refine ⟨_, rfl, _, 2305843009213693951, rfl, rfl, nz51, ?_⟩
        have hx1 := fm_pos x (m := 2305843009213693951) (by decide)
        refine ⟨_, rfl, st, _, 3, _, rfl, rfl, SqL.of g1', at4.2.2.2, z, 48271, rfl, rfl, .inl ⟨by omega, by omega⟩, _, rfl, x.fmod 2305843009213693951, 69621, rfl, rfl, .inl ⟨by omega, by omega⟩, _, _, rfl, rfl, _, rfl, st, _, 1, _, rfl, rfl, SqL.of g1', at4.2.1, _, _, rfl, rfl, _, 2305843009213693951, rfl, rfl, nz51, _, rfl, st, _, 3, 3, rfl, rfl, g1', rfl, ?_⟩
        have hb := fm_pos (z * 48271 + x.fmod 2305843009213693951 * 69621 + (i + 1)) (m := 2305843009213693951) (by decide)
        refine ⟨_, rfl, st, _, 3, _, rfl, rfl, SqL.of upd_same, at4.2.2.2, _, rfl, st, _, 3, _, rfl, rfl, SqL.of upd_same, at4.2.2.2, _, _, rfl, rfl, .inl ⟨by omega, by omega⟩, _, 2147483629, rfl, rfl, nz29, _, 8, rfl, rfl, ⟨by decide, by decide⟩, _, rfl, _, m, rfl, rfl, hm30.1, ?_⟩
        exact fin2 _ _ _ (fm_pos _ (by omega)).1 (fm_pos _ (by omega)).2 hp hb.1 hb.2
end
end Tl
set_option Elab.async false
set_option linter.all false
set_option maxRecDepth 100000
set_option maxHeartbeats 4000000
/-! Ties. -/
namespace Tl
open PySem L2
def isVal : PyData → Bool
  | .str _ => true
  | .int _ => true
  | _ => false
def isItem : PyData → Bool
  | .tuple ds => decide (ds.length ≤ 8) && ds.all isVal
  | d => isVal d
def tieForm : PyData → Bool
  | .tuple [_, it, _, c] => isItem it && isCount c
  | _ => false
def balance (a b : Int) : Bool := decide (a + 1 ≤ 3 * (b + 1)) && decide (b + 1 ≤ 3 * (a + 1))
/-- the room behind a tie -/
def roomT : Nat → PyData → Nat → Option Nat
  | _, .none, r => some r
  | n + 1, .tuple [l, it, rt, c], r + 1 => if (isItem it && isCount c) = true then
      (roomT n l r).bind fun m => (roomT n rt m).bind fun b => if (PyData.eqv c (.int ((r + 1 : Nat) - (b : Nat))) && balance ((r : Nat) - (m : Nat)) ((m : Nat) - (b : Nat))) = true then some b else none
    else none
  | _, _, _ => none
theorem roomT_le : ∀ {n : Nat} {d : PyData} {r m : Nat}, roomT n d r = some m → m ≤ r
  | n, .none, r, m, h => by simp [roomT] at h; omega
  | 0, .tuple _, r, m, h => by simp [roomT] at h
  | n + 1, .tuple [l, it, rt, c], 0, m, h => by simp [roomT] at h
  | n + 1, .tuple [l, it, rt, c], r + 1, m, h => by
    rw [roomT] at h
    split at h
    · cases h1 : roomT n l r with
      | none => rw [h1] at h; cases h
      | some m1 =>
        rw [h1] at h
        have h' : ((roomT n rt m1).bind fun b => if (PyData.eqv c (.int ((r + 1 : Nat) - (b : Nat))) && balance ((r : Nat) - (m1 : Nat)) ((m1 : Nat) - (b : Nat))) = true then some b else none) = some m := h
        cases h2 : roomT n rt m1 with
        | none => rw [h2] at h'; cases h'
        | some b =>
          rw [h2] at h'
          have h'' : (if (PyData.eqv c (.int ((r + 1 : Nat) - (b : Nat))) && balance ((r : Nat) - (m1 : Nat)) ((m1 : Nat) - (b : Nat))) = true then some b else none) = some m := h'
          split at h''
          · cases h''
            have := roomT_le h1
            have := roomT_le h2
            omega
          · cases h''
    · cases h
  | n + 1, .tuple [], r, m, h => by simp [roomT] at h
  | n + 1, .tuple [_], r, m, h => by simp [roomT] at h
  | n + 1, .tuple [_, _], r, m, h => by simp [roomT] at h
  | n + 1, .tuple [_, _, _], r, m, h => by simp [roomT] at h
  | n + 1, .tuple (_ :: _ :: _ :: _ :: _ :: _), r, m, h => by simp [roomT] at h
  | n, .bool _, r, m, h => by simp [roomT] at h
  | n, .int _, r, m, h => by simp [roomT] at h
  | n, .str _, r, m, h => by simp [roomT] at h
  | n, .list _, r, m, h => by simp [roomT] at h
  | n, .dict _, r, m, h => by simp [roomT] at h
theorem roomT_no : ∀ {n : Nat} {d : PyData} {r : Nat}, d ≠ .none → (r = 0 ∨ tieForm d = false) → roomT n d r = none
  | n, .none, r, h, _ => absurd rfl h
  | 0, .tuple _, r, _, _ => by simp [roomT]
  | n + 1, .tuple [l, it, rt, c], 0, _, _ => by simp [roomT]
  | n + 1, .tuple [l, it, rt, c], r + 1, _, h => by
    rcases h with h | h
    · cases h
    · rw [tieForm] at h
      rw [roomT, h, if_neg Bool.false_ne_true]
  | n + 1, .tuple [], r, _, _ => by simp [roomT]
  | n + 1, .tuple [_], r, _, _ => by simp [roomT]
  | n + 1, .tuple [_, _], r, _, _ => by simp [roomT]
  | n + 1, .tuple [_, _, _], r, _, _ => by simp [roomT]
  | n + 1, .tuple (_ :: _ :: _ :: _ :: _ :: _), r, _, _ => by simp [roomT]
  | n, .bool _, r, _, _ => by simp [roomT]
  | n, .int _, r, _, _ => by simp [roomT]
  | n, .str _, r, _, _ => by simp [roomT]
  | n, .list _, r, _, _ => by simp [roomT]
  | n, .dict _, r, _, _ => by simp [roomT]
theorem tieForm_of {d : PyData} (h : tieForm d = true) : ∃ l it rt cc, d = .tuple [l, it, rt, .int cc] ∧ 0 ≤ cc ∧ isItem it = true := by
  unfold tieForm at h
  split at h
  · rename_i l it rt c
    rw [Bool.and_eq_true] at h
    cases c with
    | int cc => exact ⟨l, it, rt, cc, rfl, of_decide_eq_true (by have := h.2; rw [isCount] at this; exact this), h.1⟩
    | _ => simp [isCount] at h
  · cases h
end Tl
set_option Elab.async false
set_option linter.all false
set_option maxRecDepth 100000
set_option maxHeartbeats 8000000
namespace Tl
open PySem L2 RZ
local macro_rules
  | `(tactic| decreasing_trivial) => `(tactic| ((with_reducible (conv => whnf)); (repeat ((first | (with_reducible refine gDs_c ?_) | (with_reducible refine gDs_n ?_) | (with_reducible refine gNs_c ?_) | (with_reducible refine gNs_n ?_) | (with_reducible refine gO_i tyAny_lt ?_) | (with_reducible refine gIs_c ?_) | (with_reducible refine gIs_n ?_) | (with_reducible refine gBs_c ?_) | (with_reducible refine gBs_n ?_) | (with_reducible refine gSs_c ?_) | (with_reducible refine gSs_n ?_) | (with_reducible refine gO_i tyIs_int ?_) | (with_reducible refine gO_i tyIs_bool ?_) | (with_reducible refine gO_i tyIs_str ?_) | (with_reducible refine gO_i tyIs_tuple ?_) | (with_reducible refine gO_i tyIs_list ?_) | (with_reducible refine gDs_i ?_) | (with_reducible refine gO_i (Eq.refl _) ?_) | (with_reducible refine gO_i (by assumption) ?_) | (with_reducible refine gO_i at_0 ?_) | (with_reducible refine gO_i at_m0 ?_) | (with_reducible refine gO_i at_1 ?_) | (with_reducible refine gO_i at_m1 ?_) | (with_reducible refine gO_i at_2 ?_) | (with_reducible refine gO_i at_m2 ?_) | (with_reducible refine gO_i at_3 ?_) | (with_reducible refine gO_i at_m3 ?_) | (with_reducible refine gO_i at_4 ?_) | (with_reducible refine gO_i at_m4 ?_) | (with_reducible refine gO_i at_5 ?_) | (with_reducible refine gO_i at_m5 ?_) | (with_reducible refine gO_i at_6 ?_) | (with_reducible refine gO_i at_m6 ?_) | (with_reducible refine gO_i at_7 ?_) | (with_reducible refine gO_i at_m7 ?_) | (with_reducible refine IfB.ngf ?_) | (with_reducible refine IfB.ngt ?_) | (with_reducible refine IfB.not ?_) | (with_reducible refine IfB.nil ?_) | (with_reducible refine IfB.nilT ?_) | (with_reducible refine IfB.f isE_c ?_) | (with_reducible refine IfB.t isE_n ?_) | (with_reducible refine IfB.t ?gha ?_; (case gha => rfl)) | (with_reducible refine IfB.f ?gha ?_; (case gha => rfl)) | (with_reducible refine IfB.t ?gha ?_; (case gha => assumption)) | (with_reducible refine IfB.f ?gha ?_; (case gha => assumption)) | (with_reducible refine IfB.yes (Eq.refl _) ?_) | (with_reducible refine IfB.yes ?gha ?_; (case gha => (first | omega | (simp only [len_c, len_n, List.length_map]; omega)))) | (with_reducible refine IfB.no ?gha ?_; (case gha => (first | omega | (simp only [len_c, len_n, List.length_map]; omega)))) | (with_reducible refine IfB.t ?gha ?_; (case gha => decide +kernel)) | (with_reducible refine IfB.f ?gha ?_; (case gha => decide +kernel))); (with_reducible (conv => whnf))))))
local macro_rules
  | `(tactic| decreasing_trivial_pre_omega) => `(tactic| (decreasing_trivial; (repeat ((first | ((with_reducible refine And.intro ?gha ?_); (case gha => (first | assumption | omega | exact rfl | (exact mset_same) | (exact ⟨_, mset_same⟩) | (exact Exists.intro _ (by first | exact mset_same | assumption | (rw [mset_ne (by assumption)]; first | exact mset_same | assumption))) | (exact sm_of (by omega) (by omega)) | (exact sz1000 (by first | omega | (simp; done) | (simp; omega))) | (exact Or.inl ⟨by decide, by decide⟩) | decide | (simp; done) | (refine ⟨?_, ?_⟩ <;> (first | assumption | omega | exact rfl | (exact mset_same) | (exact ⟨_, mset_same⟩) | (exact Exists.intro _ (by first | exact mset_same | assumption | (rw [mset_ne (by assumption)]; first | exact mset_same | assumption))) | (exact sm_of (by omega) (by omega)) | (exact sz1000 (by first | omega | (simp; done) | (simp; omega))) | (exact Or.inl ⟨by decide, by decide⟩) | decide | (simp; done))) | (refine ⟨?_, ?_, ?_⟩ <;> (first | assumption | omega | exact rfl | (exact mset_same) | (exact ⟨_, mset_same⟩) | (exact Exists.intro _ (by first | exact mset_same | assumption | (rw [mset_ne (by assumption)]; first | exact mset_same | assumption))) | (exact sm_of (by omega) (by omega)) | (exact sz1000 (by first | omega | (simp; done) | (simp; omega))) | (exact Or.inl ⟨by decide, by decide⟩) | decide | (simp; done))) | (refine ⟨?_, ?_, ?_, ?_⟩ <;> (first | assumption | omega | exact rfl | (exact mset_same) | (exact ⟨_, mset_same⟩) | (exact Exists.intro _ (by first | exact mset_same | assumption | (rw [mset_ne (by assumption)]; first | exact mset_same | assumption))) | (exact sm_of (by omega) (by omega)) | (exact sz1000 (by first | omega | (simp; done) | (simp; omega))) | (exact Or.inl ⟨by decide, by decide⟩) | decide | (simp; done)))))) | (with_reducible refine exW (by first | exact mset_same | assumption | (rw [mset_ne (by assumption)]; first | exact mset_same | assumption)) ?_)); decreasing_trivial))))
theorem c_int {X : Cx} {x : Str} {i : Int} (C : ∃ t, X.mg x = some (.int i t)) {p : Pos} (hg : Gl X x := by rfl) (hd : (x == ("__debug__" : Str)) = false := by decide) : PE X (.Name x p) (tC (.int i)) := by
  obtain ⟨t, e⟩ := C
  exact pe_glob hg e ⟨t, rfl⟩ hd
section
variable {P : Program} {w : World} {K : PySem.W.Frag} {mg : Str → Option Value} {base : Heap}
abbrev sIsVal : Stmt := top 27
theorem scIsVal : FnScope ["thing"] ["thing"] (defScope sIsVal) := ⟨rfl, rfl, rfl, by decide +kernel, rfl, by decide +kernel, by decide +kernel⟩
theorem ok_isVal {f : Addr} {fd : FuncData} {k : Nat} (F : Fun K "is_value" "is_value" sIsVal f fd) (T : Bl mg) : FnOk P w K mg base CX0 (k + 1) f fd ["thing"] (spD K 1 (tfB isVal)) := by
  refine okD F scIsVal rfl fun cdv A outer s H E hr => ?_
  refine ⟨_, _, (pss_one (ps_ret (pe_or (pe_callB (r := rIsi K) call_isi (by rfl) T.isi PyProof.Rows.boot_isinstance (pa_cons (pv 0) (pa_cons (b_str T) pa_nil))) (pe_one (pe_and (pe_callB (r := rIsi K) call_isi (by rfl) T.isi PyProof.Rows.boot_isinstance (pa_cons (pv 0) (pa_cons (b_int T) pa_nil))) (pe_one (pe_not (pe_callB (r := rIsi K) call_isi (by rfl) T.isi PyProof.Rows.boot_isinstance (pa_cons (pv 0) (pa_cons (b_bool T) pa_nil)))))))))),
    (ss_ret (se_or (se_cb sc_isi (sa_cons se_nm (sa_cons se_o sa_nil))) (se_and (se_cb sc_isi (sa_cons se_nm (sa_cons se_o sa_nil))) (se_not (se_cb sc_isi (sa_cons se_nm (sa_cons se_o sa_nil))))))), fun ws M R RX hl h => ?_⟩
  obtain ⟨x, rfl, h1⟩ := g1_of h
  obtain ⟨d, rfl, ht, h2⟩ := gD_of h1
  cases d <;> (simp only [start0, len_c, len_n, map_c, map_n, app_c, app_n, rep_0, rep_s, Nat.reduceAdd, Nat.reduceSub]; decreasing_trivial; exact h2)
abbrev sIsItem : Stmt := top 28
theorem scIsItem : FnScope ["thing", "field"] ["thing"] (defScope sIsItem) := ⟨rfl, rfl, rfl, by decide +kernel, rfl, by decide +kernel, by decide +kernel⟩
theorem ok_isItem {f : Addr} {fd : FuncData} {k j : Nat} (F : Fun K "is_item" "is_item" sIsItem f fd) (Uis_value : Use P w K mg base "is_value" ["thing"] j (spD K 1 (tfB isVal))) (hj : j ≤ k) (T : Bl mg) (CF : ∃ t, mg "FIELDS" = some (.int 8 t)) : FnOk P w K mg base CX0 (k + 1) f fd ["thing"] (spD K 1 (tfB isItem)) := by
  refine okD F scIsItem rfl fun cdv A outer s H E hr => ?_
  refine ⟨_, _, (pss_cons (ps_if (pt_val (pe_callB (r := rIsi K) call_isi (by rfl) T.isi PyProof.Rows.boot_isinstance (pa_cons (pv 0) (pa_cons (b_tuple T) pa_nil)))) (pss_one (ps_ret (pe_and (pe_cmpR op_le (pe_callB call_len_seq (by rfl) T.len PySem.boot_len (pa_cons (pv 0) pa_nil)) (c_int CF) (nomark _)) (pe_one (pe_callB (cr_all rfl) (by rfl) T.all PyProof.Rows.boot_all (pa_cons (pe_lc (own := [("field", 1)]) (g := gName 1) (tt := tYes) (by rfl) scIsItem.nd (pi_tup (pv 0)) (blkOk_by (N := ["thing", "field"]) (sc := defScope sIsItem) (own := [("field", 1)]) (by decide +kernel)) (fun _ _ _ _ _ => pg_name (i := 1) scIsItem.nd rfl (Or.inl rfl)) (fun _ _ _ _ _ => pts_nil) (fun _ _ _ _ _ => (pe_call Uis_value.ok (hr.mono (by omega)) rfl Uis_value.m Uis_value.kp Uis_value.b .nil pass0 (pa_cons (pv 1) pa_nil)))) pa_nil)))))) pss_nil)
    (pss_one (ps_ret (pe_call Uis_value.ok (hr.mono (by omega)) rfl Uis_value.m Uis_value.kp Uis_value.b .nil pass0 (pa_cons (pv 0) pa_nil))))),
    (ss_cons (ss_if (st_val (se_cb sc_isi (sa_cons se_nm (sa_cons se_o sa_nil)))) (ss_ret (se_and (se_op so_le (se_cb sc_len (sa_cons se_nm sa_nil)) se_int) (se_cb sc_all (sa_cons (se_lcF (si_tup se_nm) sg_name st_yes (se_call (sa_cons se_nm sa_nil))) sa_nil)))) ss_nil)
    (ss_ret (se_call (sa_cons se_nm sa_nil)))), fun ws M R RX hl h => ?_⟩
  obtain ⟨x, rfl, h1⟩ := g1_of h
  obtain ⟨d, rfl, ht, h2⟩ := gD_of h1
  cases d with
  | tuple ds =>
    rw [txt] at ht
    rw [isItem] at h2
    simp only [start0, len_c, len_n, map_c, map_n, app_c, app_n, rep_0, rep_s, Nat.reduceAdd, Nat.reduceSub]
    decreasing_trivial
    refine IfB.d (fun c => ?_) (fun c => ?_)
    · rw [decide_eq_true (p := ds.length ≤ 8) (by omega), Bool.true_and] at h2
      decreasing_trivial
      refine lc1F (k := fun _ => True) (b := bName 1) (fun d => .bool (isVal d)) trivial (fun d hm Rk q => ?_) (sz1000 (by omega)) ?_
      · obtain ⟨jj, hjj⟩ := List.getElem?_of_mem hm
        decreasing_trivial
        exact ⟨txtAll_get ht hjj, q⟩
      · dsimp only
        show gBs ((ds.map fun d => PyData.bool (isVal d)).map W.d) _
        rw [mapW, gBs_map, List.all_map]
        exact h2
    · rw [decide_eq_false (p := ds.length ≤ 8) (by omega), Bool.false_and] at h2
      decreasing_trivial
      exact h2
  | _ => simp only [start0, len_c, len_n, map_c, map_n, app_c, app_n, rep_0, rep_s, Nat.reduceAdd, Nat.reduceSub]; decreasing_trivial; exact ⟨ht, h2⟩
abbrev sTieForm : Stmt := top 31
theorem scTieForm : FnScope ["thing"] ["thing"] (defScope sTieForm) := ⟨rfl, rfl, rfl, by decide +kernel, rfl, by decide +kernel, by decide +kernel⟩
theorem ok_tieForm {f : Addr} {fd : FuncData} {k j j2 : Nat} (F : Fun K "has_tie_form" "has_tie_form" sTieForm f fd) (Uis_item : Use P w K mg base "is_item" ["thing"] j (spD K 1 (tfB isItem))) (Uis_count : Use P w K mg base "is_count" ["thing"] j2 (spD K 1 (tfB isCount))) (hj : j ≤ k) (hj2 : j2 ≤ k) (T : Bl mg) : FnOk P w K mg base CX0 (k + 1) f fd ["thing"] (spD K 1 (tfB tieForm)) := by
  refine okD F scTieForm rfl fun cdv A outer s H E hr => ?_
  refine ⟨_, _, (pss_one (ps_ret (pe_and (pe_callB (r := rIsi K) call_isi (by rfl) T.isi PyProof.Rows.boot_isinstance (pa_cons (pv 0) (pa_cons (b_tuple T) pa_nil))) (pe_and (pe_cmpR op_eq (pe_callB call_len_seq (by rfl) T.len PySem.boot_len (pa_cons (pv 0) pa_nil)) pe_int (nomark _)) (pe_and (pe_call Uis_item.ok (hr.mono (by omega)) rfl Uis_item.m Uis_item.kp Uis_item.b .nil pass0 (pa_cons (pe_ix ix_tup (pv 0) pe_int (fun _ _ => rfl)) pa_nil)) (pe_one (pe_call Uis_count.ok (hr.mono (by omega)) rfl Uis_count.m Uis_count.kp Uis_count.b .nil pass0 (pa_cons (pe_ix ix_tup (pv 0) pe_int (fun _ _ => rfl)) pa_nil)))))))),
    (ss_ret (se_and (se_cb sc_isi (sa_cons se_nm (sa_cons se_o sa_nil))) (se_and (se_op so_eqS (se_cb sc_len (sa_cons se_nm sa_nil)) se_int) (se_and (se_call (sa_cons (se_op so_ixT se_nm se_int) sa_nil)) (se_call (sa_cons (se_op so_ixT se_nm se_int) sa_nil)))))), fun ws M R RX hl h => ?_⟩
  obtain ⟨x, rfl, h1⟩ := g1_of h
  obtain ⟨d, rfl, ht, h2⟩ := gD_of h1
  cases d with
  | tuple ds =>
    rw [txt] at ht
    simp only [start0, len_c, len_n, map_c, map_n, app_c, app_n, rep_0, rep_s, Nat.reduceAdd, Nat.reduceSub]
    decreasing_trivial
    match ds, ht, h2 with
    | [], _, h2 => decreasing_trivial; exact h2
    | [_], _, h2 => decreasing_trivial; exact h2
    | [_, _], _, h2 => decreasing_trivial; exact h2
    | [_, _, _], _, h2 => decreasing_trivial; exact h2
    | a1 :: a2 :: a3 :: a4 :: a5 :: r, _, h2 =>
      decreasing_trivial
      exact h2
    | [l, it, rt, c], ht, h2 =>
      rw [tieForm] at h2
      decreasing_trivial
      refine ⟨txtAll_get (i := 1) ht rfl, ?_⟩
      cases c1 : isItem it with
      | false =>
        rw [c1] at h2
        decreasing_trivial
        exact h2
      | true =>
        rw [c1, Bool.true_and] at h2
        decreasing_trivial
        exact ⟨txtAll_get (i := 3) ht rfl, h2⟩
  | _ => simp only [start0, len_c, len_n, map_c, map_n, app_c, app_n, rep_0, rep_s, Nat.reduceAdd, Nat.reduceSub]; decreasing_trivial; exact h2
abbrev sBal : Stmt := top 11
theorem scBal : FnScope ["one", "other"] ["one", "other"] (defScope sBal) := ⟨rfl, rfl, rfl, by decide +kernel, rfl, by decide +kernel, by decide +kernel⟩
@[reducible] def tfBal : TF := fun ws M R _ => g2 ws fun x y => gI x fun a => gI y fun b => (-2000 ≤ a ∧ a ≤ 2000 ∧ -2000 ≤ b ∧ b ≤ 2000) ∧ R (.d (.bool (balance a b))) M
theorem ok_bal {f : Addr} {fd : FuncData} {k : Nat} (F : Fun K "is_balance" "is_balance" sBal f fd) (T : Bl mg) : FnOk P w K mg base CX0 (k + 1) f fd ["one", "other"] (spD K 2 tfBal) := by
  refine okD F scBal rfl fun cdv A outer s H E hr => ?_
  refine ⟨_, _, (pss_one (ps_ret (pe_and (pe_cmpR op_le (pe_op op_add (pv 0) pe_int) (pe_op op_mul pe_int (pe_op op_add (pv 1) pe_int)) (nomark _)) (pe_one (pe_cmpR op_le (pe_op op_add (pv 1) pe_int) (pe_op op_mul pe_int (pe_op op_add (pv 0) pe_int)) (nomark _)))))),
    (ss_ret (se_and (se_op so_le (se_op so_add se_nm se_int) (se_op so_mul se_int (se_op so_add se_nm se_int))) (se_op so_le (se_op so_add se_nm se_int) (se_op so_mul se_int (se_op so_add se_nm se_int))))), fun ws M R RX hl h => ?_⟩
  obtain ⟨x, y, rfl, h1⟩ := g2_of h
  obtain ⟨a, rfl, h2⟩ := gI_of h1
  obtain ⟨b, rfl, ⟨a1, a2, b1, b2⟩, h3⟩ := gI_of h2
  simp only [start0, len_c, len_n, map_c, map_n, app_c, app_n, rep_0, rep_s, Nat.reduceAdd, Nat.reduceSub]
  decreasing_trivial
  refine ⟨.inl ⟨by decide, by decide⟩, ?_⟩
  decreasing_trivial
  unfold balance at h3
  refine IfB.d (fun c => ?_) (fun c => ?_)
  · decreasing_trivial
    refine ⟨.inl ⟨by decide, by decide⟩, ?_⟩
    decreasing_trivial
    rw [decide_eq_true c, Bool.true_and] at h3
    exact h3
  · decreasing_trivial
    rw [decide_eq_false c, Bool.false_and] at h3
    exact h3
/-- the room behind a tie, whose depth is below n -/
@[reducible] def tfRoomT (n : Nat) : TF := fun ws M R _ => ∃ (d : PyData) (r : Nat), ws = [.d d, .d (.int (r : Int))] ∧ (txt d = true ∧ d.depth < n ∧ r ≤ 1000) ∧ R (.d (optD (roomT n d r))) M
abbrev sRoomT : Stmt := top 30
theorem scRoomT : FnScope ["thing", "room", "middle", "behind"] ["thing", "room"] (defScope sRoomT) := ⟨rfl, rfl, rfl, by decide +kernel, rfl, by decide +kernel, by decide +kernel⟩
theorem ok_roomT1 {f : Addr} {fd : FuncData} {n j : Nat} (F : Fun K "room_behind_tie" "room_behind_tie" sRoomT f fd) (Uroom_behind_tie : Use P w K mg base "room_behind_tie" ["thing", "room"] (j + n) (spD K 2 (tfRoomT n))) (Uhas_tie_form : Use P w K mg base "has_tie_form" ["thing"] j (spD K 1 (tfB tieForm))) (Uis_balance : Use P w K mg base "is_balance" ["one", "other"] j (spD K 2 tfBal)) (T : Bl mg) :
    FnOk P w K mg base CX0 (j + n + 1) f fd ["thing", "room"] (spD K 2 (tfRoomT (n + 1))) := by
  refine okD F scRoomT rfl fun cdv A outer s H E hr => ?_
  refine ⟨_, _, (pss_cons (ps_if (pt_cmpR op_isN (pv 0) pe_non (nomark _)) (pss_one (ps_ret (pv 1))) pss_nil)
    (pss_cons (ps_if (PW.pt (pw_or (pt_cmpR op_eq (pv 1) pe_int (nomark _)) (pw_or1 (pt_not (pt_val (pe_call Uhas_tie_form.ok (hr.mono (by omega)) rfl Uhas_tie_form.m Uhas_tie_form.kp Uhas_tie_form.b .nil pass0 (pa_cons (pv 0) pa_nil))))))) (pss_one (ps_ret pe_non)) pss_nil)
    (pss_cons (ps_set (i := 2) scRoomT.nd rfl (.inl rfl) (pe_call Uroom_behind_tie.ok (hr.mono (by omega)) rfl Uroom_behind_tie.m Uroom_behind_tie.kp Uroom_behind_tie.b .nil pass0 (pa_cons (pe_ix ix_tup (pv 0) pe_int (fun _ _ => rfl)) (pa_cons (pe_op op_sub (pv 1) pe_int) pa_nil))))
    (pss_cons (ps_if (pt_cmpR op_isN (pv 2) pe_non (nomark _)) (pss_one (ps_ret pe_non)) pss_nil)
    (pss_cons (ps_set (i := 3) scRoomT.nd rfl (.inl rfl) (pe_call Uroom_behind_tie.ok (hr.mono (by omega)) rfl Uroom_behind_tie.m Uroom_behind_tie.kp Uroom_behind_tie.b .nil pass0 (pa_cons (pe_ix ix_tup (pv 0) pe_int (fun _ _ => rfl)) (pa_cons (pv 2) pa_nil))))
    (pss_cons (ps_if (PW.pt (pw_or (pt_cmpR op_isN (pv 3) pe_non (nomark _)) (pw_or (pt_cmpR op_ne (pe_ix ix_tup (pv 0) pe_int (fun _ _ => rfl)) (pe_op op_sub (pv 1) (pv 3)) (nomark _)) (pw_or1 (pt_not (pt_val (pe_call Uis_balance.ok (hr.mono (by omega)) rfl Uis_balance.m Uis_balance.kp Uis_balance.b .nil pass0 (pa_cons (pe_op op_sub (pe_op op_sub (pv 1) pe_int) (pv 2)) (pa_cons (pe_op op_sub (pv 2) (pv 3)) pa_nil))))))))) (pss_one (ps_ret pe_non)) pss_nil)
    (pss_one (ps_ret (pv 3))))))))),
    (ss_cons (ss_if (st_test (se_op so_isN se_nm se_non)) (ss_ret se_nm) ss_nil)
    (ss_cons (ss_if (st_or (st_test (se_op so_eqS se_nm se_int)) (st_not (st_val (se_call (sa_cons se_nm sa_nil))))) (ss_ret se_non) ss_nil)
    (ss_cons (ss_set (se_call (sa_cons (se_op so_ixT se_nm se_int) (sa_cons (se_op so_sub se_nm se_int) sa_nil))))
    (ss_cons (ss_if (st_test (se_op so_isN se_nm se_non)) (ss_ret se_non) ss_nil)
    (ss_cons (ss_set (se_call (sa_cons (se_op so_ixT se_nm se_int) (sa_cons se_nm sa_nil))))
    (ss_cons (ss_if (st_or (st_test (se_op so_isN se_nm se_non)) (st_or (st_test (se_op so_neS (se_op so_ixT se_nm se_int) (se_op so_sub se_nm se_nm))) (st_not (st_val (se_call (sa_cons (se_op so_sub (se_op so_sub se_nm se_int) se_nm) (sa_cons (se_op so_sub se_nm se_nm) sa_nil))))))) (ss_ret se_non) ss_nil)
    (ss_ret se_nm))))))), fun ws M R RX hl h => ?_⟩
  obtain ⟨d, r, rfl, ⟨ht, hd, hr1⟩, h3⟩ := h
  by_cases hne : d = .none
  · subst hne
    simp only [start0, len_c, len_n, map_c, map_n, app_c, app_n, rep_0, rep_s, Nat.reduceAdd, Nat.reduceSub]
    decreasing_trivial
    refine ⟨rfl, ?_⟩
    decreasing_trivial
    simp only [roomT, optD] at h3
    exact h3
  · have hin : isN (W.d d) = some false := by cases d <;> first | rfl | exact absurd rfl hne
    simp only [start0, len_c, len_n, map_c, map_n, app_c, app_n, rep_0, rep_s, Nat.reduceAdd, Nat.reduceSub]
    decreasing_trivial
    refine ⟨rfl, ?_⟩
    rw [hin]
    decreasing_trivial
    refine IfB.d (fun c => ?_) (fun c => ?_)
    · decreasing_trivial
      rw [roomT_no hne (.inl (by omega)), optD] at h3
      exact h3
    · decreasing_trivial
      refine ⟨ht, ?_⟩
      cases hf : tieForm d with
      | false =>
        decreasing_trivial
        rw [roomT_no hne (.inr hf), optD] at h3
        exact h3
      | true =>
        obtain ⟨l, it, rt, cc, rfl, hc0, hit⟩ := tieForm_of hf
        obtain ⟨r, rfl⟩ : ∃ r', r = r' + 1 := ⟨r - 1, by omega⟩
        rw [txt] at ht
        have tl := txtAll_get (i := 0) ht rfl
        have tr := txtAll_get (i := 2) ht rfl
        simp only [PyData.depth, PyData.depthAll] at hd
        rw [roomT, hit, show isCount (.int cc) = true by rw [isCount]; exact decide_eq_true hc0] at h3
        simp only [Bool.and_self, if_true] at h3
        decreasing_trivial
        refine ⟨l, r, by show [W.d l, W.d (.int (((r + 1 : Nat) : Int) - 1))] = _; rw [show (((r + 1 : Nat) : Int) - 1) = (r : Int) by omega], ⟨tl, by omega, by omega⟩, ?_⟩
        cases h1 : roomT n l r with
        | none =>
          rw [h1] at h3
          decreasing_trivial
          refine ⟨rfl, ?_⟩
          decreasing_trivial
          exact h3
        | some m =>
          rw [h1] at h3
          simp only [Option.bind_some] at h3
          have m1 := roomT_le h1
          decreasing_trivial
          refine ⟨rfl, ?_⟩
          decreasing_trivial
          refine ⟨rt, m, rfl, ⟨tr, by omega, by omega⟩, ?_⟩
          cases h2 : roomT n rt m with
          | none =>
            rw [h2] at h3
            decreasing_trivial
            refine ⟨rfl, ?_⟩
            decreasing_trivial
            exact h3
          | some b =>
            rw [h2] at h3
            simp only [Option.bind_some] at h3
            have b1 := roomT_le h2
            rw [show PyData.eqv (.int cc) (.int (((r + 1 : Nat) : Int) - (b : Nat))) = decide (cc = ((r + 1 : Nat) : Int) - (b : Nat)) by rw [PyData.eqv]; rfl] at h3
            decreasing_trivial
            refine ⟨rfl, ?_⟩
            decreasing_trivial
            refine IfB.n (fun c2 => ?_) (fun c2 => ?_)
            · decreasing_trivial
              rw [decide_eq_false c2, Bool.false_and, if_neg Bool.false_ne_true] at h3
              exact h3
            · rw [decide_eq_true c2, Bool.true_and] at h3
              decreasing_trivial
              refine ⟨⟨by show -2000 ≤ ((r + 1 : Nat) : Int) - 1 - m; omega, by show ((r + 1 : Nat) : Int) - 1 - m ≤ 2000; omega, by show -2000 ≤ (m : Int) - b; omega, by show (m : Int) - b ≤ 2000; omega⟩, ?_⟩
              rw [show (((r + 1 : Nat) : Int) - 1 - (m : Nat)) = ((r : Nat) : Int) - (m : Nat) by omega]
              cases hb : balance ((r : Nat) - (m : Nat)) ((m : Nat) - (b : Nat)) with
              | false =>
                rw [hb] at h3
                decreasing_trivial
                exact h3
              | true =>
                rw [hb] at h3
                decreasing_trivial
                exact h3
theorem ok_roomT {f : Addr} {fd : FuncData} {j : Nat} (F : Fun K "room_behind_tie" "room_behind_tie" sRoomT f fd) (mF : mg "room_behind_tie" = some (.ref f)) (Uhas_tie_form : Use P w K mg base "has_tie_form" ["thing"] j (spD K 1 (tfB tieForm))) (Uis_balance : Use P w K mg base "is_balance" ["one", "other"] j (spD K 2 tfBal)) (T : Bl mg) : ∀ n, FnOk P w K mg base CX0 (j + n) f fd ["thing", "room"] (spD K 2 (tfRoomT n))
  | 0 => no0 fun ws M R RX ⟨_, _, _, ⟨_, h, _⟩, _⟩ => by omega
  | n + 1 => ok_roomT1 F ⟨f, fd, ok_roomT F mF Uhas_tie_form Uis_balance T n, mF, F.kp, F.binds (ps := ["thing", "room"]) fun _ _ _ _ _ _ us hl => match us, hl with | [_, _], _ => rfl⟩ Uhas_tie_form Uis_balance T
abbrev sIsEven : Stmt := top 29
theorem scIsEven : FnScope ["thing"] ["thing"] (defScope sIsEven) := ⟨rfl, rfl, rfl, by decide +kernel, rfl, by decide +kernel, by decide +kernel⟩
theorem ok_isEven {f : Addr} {fd : FuncData} {k j : Nat} (F : Fun K "is_even" "is_even" sIsEven f fd) (Uroom_behind_tie : Use P w K mg base "room_behind_tie" ["thing", "room"] j (spD K 2 (tfRoomT 70))) (hj : j ≤ k) (T : Bl mg) (CT : ∃ t, mg "TIED" = some (.int 1000 t)) : FnOk P w K mg base CX0 (k + 1) f fd ["thing"] (spD K 1 (fun ws M R _ => g1 ws fun x => gD x fun d => (txt d = true ∧ d.depth < 70) ∧ R (.d (.bool (roomT 70 d 1000).isSome)) M)) := by
  refine okD F scIsEven rfl fun cdv A outer s H E hr => ?_
  refine ⟨_, _, (pss_one (ps_ret (pe_cmpR op_notN (pe_call Uroom_behind_tie.ok (hr.mono (by omega)) rfl Uroom_behind_tie.m Uroom_behind_tie.kp Uroom_behind_tie.b .nil pass0 (pa_cons (pv 0) (pa_cons (c_int CT) pa_nil))) pe_non (nomark _)))),
    (ss_ret (se_op so_notN (se_call (sa_cons se_nm (sa_cons se_int sa_nil))) se_non)), fun ws M R RX hl h => ?_⟩
  obtain ⟨x, rfl, h1⟩ := g1_of h
  obtain ⟨d, rfl, ⟨ht, hd⟩, h2⟩ := gD_of h1
  simp only [start0, len_c, len_n, map_c, map_n, app_c, app_n, rep_0, rep_s, Nat.reduceAdd, Nat.reduceSub]
  decreasing_trivial
  refine ⟨d, 1000, rfl, ⟨ht, hd, by decide⟩, ?_⟩
  cases c : roomT 70 d 1000 <;> rw [c] at h2 <;> (decreasing_trivial_pre_omega; exact h2)
end
end Tl
set_option Elab.async false
set_option linter.all false
set_option maxRecDepth 100000
set_option maxHeartbeats 4000000
/-! Ties that are doubled. -/
set_option Elab.async false
set_option linter.all false
set_option maxRecDepth 100000
set_option maxHeartbeats 4000000
/-! Ties that are made of items. -/
namespace Tl
open PySem L2
/-- an item that is drawn -/
def ItOk1 (d : PyData) : Prop := isItem d = true ∧ Gk 4000 1 d
/-- the count that a tie tells -/
def cntW : PyData → PyData
  | .tuple [_, _, _, c] => c
  | _ => .int 0
def ivI : PyData → Int
  | .int i => i
  | _ => 0
def itg : Nat → PyData → Prop
  | n + 1, .tuple [l, it, rt, c] => (isItem it = true → Gk 20000 1 it) ∧ ivI c ≤ 20 ∧ itg n l ∧ itg n rt
  | _, _ => True
def ITG (d : PyData) : Prop := ∀ n, itg n d
theorem ITG.of {l it rt c : PyData} (h : ITG (.tuple [l, it, rt, c])) : (isItem it = true → Gk 20000 1 it) ∧ ivI c ≤ 20 ∧ ITG l ∧ ITG rt := ⟨(h 1).1, (h 1).2.1, fun n => (h (n + 1)).2.2.1, fun n => (h (n + 1)).2.2.2⟩
theorem ITG.no {d : PyData} (h : ∀ l it rt c, d ≠ .tuple [l, it, rt, c]) : ITG d := fun n => by
  unfold itg
  split
  · rename_i l it rt c
    exact absurd rfl (h l it rt c)
  · trivial
theorem ITG.none : ITG .none := .no fun _ _ _ _ h => by cases h
end Tl
set_option Elab.async false
set_option linter.all false
set_option maxRecDepth 100000
set_option maxHeartbeats 8000000
namespace Tl
open PySem L2 RZ
local macro_rules
  | `(tactic| decreasing_trivial) => `(tactic| ((with_reducible (conv => whnf)); (repeat ((first | (with_reducible refine gDs_c ?_) | (with_reducible refine gDs_n ?_) | (with_reducible refine gNs_c ?_) | (with_reducible refine gNs_n ?_) | (with_reducible refine gO_i tyAny_lt ?_) | (with_reducible refine gIs_c ?_) | (with_reducible refine gIs_n ?_) | (with_reducible refine gBs_c ?_) | (with_reducible refine gBs_n ?_) | (with_reducible refine gSs_c ?_) | (with_reducible refine gSs_n ?_) | (with_reducible refine gO_i tyIs_int ?_) | (with_reducible refine gO_i tyIs_bool ?_) | (with_reducible refine gO_i tyIs_str ?_) | (with_reducible refine gO_i tyIs_tuple ?_) | (with_reducible refine gO_i tyIs_list ?_) | (with_reducible refine gDs_i ?_) | (with_reducible refine gO_i (Eq.refl _) ?_) | (with_reducible refine gO_i (by assumption) ?_) | (with_reducible refine gO_i at_0 ?_) | (with_reducible refine gO_i at_m0 ?_) | (with_reducible refine gO_i at_1 ?_) | (with_reducible refine gO_i at_m1 ?_) | (with_reducible refine gO_i at_2 ?_) | (with_reducible refine gO_i at_m2 ?_) | (with_reducible refine gO_i at_3 ?_) | (with_reducible refine gO_i at_m3 ?_) | (with_reducible refine gO_i at_4 ?_) | (with_reducible refine gO_i at_m4 ?_) | (with_reducible refine gO_i at_5 ?_) | (with_reducible refine gO_i at_m5 ?_) | (with_reducible refine gO_i at_6 ?_) | (with_reducible refine gO_i at_m6 ?_) | (with_reducible refine gO_i at_7 ?_) | (with_reducible refine gO_i at_m7 ?_) | (with_reducible refine IfB.ngf ?_) | (with_reducible refine IfB.ngt ?_) | (with_reducible refine IfB.not ?_) | (with_reducible refine IfB.nil ?_) | (with_reducible refine IfB.nilT ?_) | (with_reducible refine IfB.f isE_c ?_) | (with_reducible refine IfB.t isE_n ?_) | (with_reducible refine IfB.t ?gha ?_; (case gha => rfl)) | (with_reducible refine IfB.f ?gha ?_; (case gha => rfl)) | (with_reducible refine IfB.t ?gha ?_; (case gha => assumption)) | (with_reducible refine IfB.f ?gha ?_; (case gha => assumption)) | (with_reducible refine IfB.yes (Eq.refl _) ?_) | (with_reducible refine IfB.yes ?gha ?_; (case gha => (first | omega | (simp only [len_c, len_n, List.length_map]; omega)))) | (with_reducible refine IfB.no ?gha ?_; (case gha => (first | omega | (simp only [len_c, len_n, List.length_map]; omega)))) | (with_reducible refine IfB.t ?gha ?_; (case gha => decide +kernel)) | (with_reducible refine IfB.f ?gha ?_; (case gha => decide +kernel))); (with_reducible (conv => whnf))))))
local macro_rules
  | `(tactic| decreasing_trivial_pre_omega) => `(tactic| (decreasing_trivial; (repeat ((first | ((with_reducible refine And.intro ?gha ?_); (case gha => (first | assumption | omega | exact rfl | (exact mset_same) | (exact ⟨_, mset_same⟩) | (exact Exists.intro _ (by first | exact mset_same | assumption | (rw [mset_ne (by assumption)]; first | exact mset_same | assumption))) | (exact sm_of (by omega) (by omega)) | (exact sz1000 (by first | omega | (simp; done) | (simp; omega))) | (exact Or.inl ⟨by decide, by decide⟩) | decide | (simp; done) | (refine ⟨?_, ?_⟩ <;> (first | assumption | omega | exact rfl | (exact mset_same) | (exact ⟨_, mset_same⟩) | (exact Exists.intro _ (by first | exact mset_same | assumption | (rw [mset_ne (by assumption)]; first | exact mset_same | assumption))) | (exact sm_of (by omega) (by omega)) | (exact sz1000 (by first | omega | (simp; done) | (simp; omega))) | (exact Or.inl ⟨by decide, by decide⟩) | decide | (simp; done))) | (refine ⟨?_, ?_, ?_⟩ <;> (first | assumption | omega | exact rfl | (exact mset_same) | (exact ⟨_, mset_same⟩) | (exact Exists.intro _ (by first | exact mset_same | assumption | (rw [mset_ne (by assumption)]; first | exact mset_same | assumption))) | (exact sm_of (by omega) (by omega)) | (exact sz1000 (by first | omega | (simp; done) | (simp; omega))) | (exact Or.inl ⟨by decide, by decide⟩) | decide | (simp; done))) | (refine ⟨?_, ?_, ?_, ?_⟩ <;> (first | assumption | omega | exact rfl | (exact mset_same) | (exact ⟨_, mset_same⟩) | (exact Exists.intro _ (by first | exact mset_same | assumption | (rw [mset_ne (by assumption)]; first | exact mset_same | assumption))) | (exact sm_of (by omega) (by omega)) | (exact sz1000 (by first | omega | (simp; done) | (simp; omega))) | (exact Or.inl ⟨by decide, by decide⟩) | decide | (simp; done)))))) | (with_reducible refine exW (by first | exact mset_same | assumption | (rw [mset_ne (by assumption)]; first | exact mset_same | assumption)) ?_)); decreasing_trivial))))
def evenT (d : PyData) : Bool := (roomT 70 d 1000).isSome
@[reducible] def tfEven : TF := fun ws M R _ => g1 ws fun x => gD x fun d => (txt d = true ∧ d.depth < 70) ∧ R (.d (.bool (evenT d))) M
@[reducible] def tfChkE (C : Addr) : TF := fun ws M R RX => g1 ws fun x => gD x fun d => (txt d = true ∧ d.depth < 70) ∧ (evenT d = true → R (.d .none) M) ∧ (evenT d = false → RX ⟨.ref C, []⟩ M)
section
variable {P : Program} {w : World} {K : PySem.W.Frag} {mg : Str → Option Value} {base : Heap}
abbrev sChkTie : Stmt := top 32
theorem scChkTie : FnScope ["thing"] ["thing"] (defScope sChkTie) := ⟨rfl, rfl, rfl, by decide +kernel, rfl, by decide +kernel, by decide +kernel⟩
theorem ok_chkTie {f C : Addr} {fd : FuncData} {k j : Nat} (F : Fun K "check_tie" "check_tie" sChkTie f fd) (XNoTie : Er K mg "NoTie" C) (Uis_even : Use P w K mg base "is_even" ["thing"] j (spD K 1 tfEven)) (hj : j ≤ k) :
    FnOk P w K mg base (L2.CX P w) (k + 1) f fd ["thing"] (spD K 1 (tfChkE C)) := by
  refine okDX F scChkTie rfl fun cdv A outer s H E hr => ?_
  refine ⟨_, fun RE => _, (pss_one (ps_if (pt_not (pt_val (PE.nox (pe_call Uis_even.ok (hr.mono (by omega)) rfl Uis_even.m Uis_even.kp Uis_even.b .nil pass0 (pa_cons (pv 0) pa_nil))))) (pss_one (ps_raise rfl (takes_of (E := E) rfl rfl rfl rfl) (pmk_own0 PySem.F.excBase_ValueError XNoTie.x XNoTie.g XNoTie.k (raises_own XNoTie.b XNoTie.t) (by exact rfl)))) pss_nil)), fun RE => (ss_if (st_not (st_val (se_call (sa_cons se_nm sa_nil)))) ss_raise0 ss_nil), fun ws M R RX hl h => ?_⟩
  obtain ⟨x, rfl, h1⟩ := g1_of h
  obtain ⟨d, rfl, ht, h2, h3⟩ := gD_of h1
  simp only [start0, len_c, len_n, map_c, map_n, app_c, app_n, rep_0, rep_s, Nat.reduceAdd, Nat.reduceSub]
  decreasing_trivial
  refine ⟨ht, ?_⟩
  cases c : evenT d
  · decreasing_trivial
    exact h3 c
  · decreasing_trivial
    exact h2 c
end
end Tl
set_option Elab.async false
set_option linter.all false
set_option maxRecDepth 100000
set_option maxHeartbeats 4000000
/-! Even ties, place by place. -/
namespace Tl
open PySem L2
def nbI (d : PyData) : Bool := isInt d && !isBl d
def tieOk : PyData → Bool
  | .none => true
  | .tuple [_, _, _, _] => true
  | _ => false
def locT (l it rt c : PyData) : Bool :=
  isItem it && (tieOk l && tieOk rt) && (nbI (cntW l) && nbI (cntW rt) && nbI c) && decide (0 ≤ min (ivI (cntW l)) (ivI (cntW rt))) && decide (ivI c = ivI (cntW l) + ivI (cntW rt) + 1) && decide (max (ivI (cntW l)) (ivI (cntW rt)) + 1 ≤ 3 * (min (ivI (cntW l)) (ivI (cntW rt)) + 1))
def evn : Nat → PyData → Bool
  | _, .none => true
  | n + 1, .tuple [l, it, rt, c] => locT l it rt c && (evn n l && evn n rt)
  | _, _ => false
theorem nb_int {d : PyData} (h : nbI d = true) : ∃ i, d = .int i := by
  cases d <;> simp [nbI, isInt, isBl] at h
  exact ⟨_, rfl⟩
theorem tie4 {d : PyData} (h1 : ∀ l it rt c, d ≠ .tuple [l, it, rt, c]) (h2 : d ≠ .none) : (∀ n r, roomT n d r = none) ∧ (∀ n, evn n d = false) ∧ tieOk d = false := by
  cases d with
  | none => exact absurd rfl h2
  | tuple ds =>
    match ds, h1 with
    | [], _ => exact ⟨fun n r => by simp [roomT], fun n => by simp [evn], rfl⟩
    | [_], _ => exact ⟨fun n r => by simp [roomT], fun n => by simp [evn], rfl⟩
    | [_, _], _ => exact ⟨fun n r => by simp [roomT], fun n => by simp [evn], rfl⟩
    | [_, _, _], _ => exact ⟨fun n r => by simp [roomT], fun n => by simp [evn], rfl⟩
    | [l, it, rt, c], h1 => exact absurd rfl (h1 l it rt c)
    | _ :: _ :: _ :: _ :: _ :: _, _ => exact ⟨fun n r => by simp [roomT], fun n => by simp [evn], rfl⟩
  | _ => exact ⟨fun n r => by simp [roomT], fun n => by simp [evn], rfl⟩
theorem tie_cases (d : PyData) : d = .none ∨ (∃ l it rt c, d = .tuple [l, it, rt, c]) ∨ ((∀ l it rt c, d ≠ .tuple [l, it, rt, c]) ∧ d ≠ .none) := by
  by_cases h1 : d = .none
  · exact .inl h1
  · by_cases h2 : ∃ l it rt c, d = .tuple [l, it, rt, c]
    · exact .inr (.inl h2)
    · exact .inr (.inr ⟨fun l it rt c e => h2 ⟨l, it, rt, c, e⟩, h1⟩)
theorem loc_of {l it rt c : PyData} (h : locT l it rt c = true) : ∃ (a b : Nat), isItem it = true ∧ cntW l = .int a ∧ cntW rt = .int b ∧ c = .int ((a : Int) + b + 1) ∧ a + 1 ≤ 3 * (b + 1) ∧ b + 1 ≤ 3 * (a + 1) := by
  unfold locT at h
  simp only [Bool.and_eq_true, decide_eq_true_eq] at h
  obtain ⟨⟨⟨⟨⟨h1, _⟩, ⟨h2, h3⟩, h4⟩, h5⟩, h6⟩, h7⟩ := h
  obtain ⟨a, ea⟩ := nb_int h2
  obtain ⟨b, eb⟩ := nb_int h3
  obtain ⟨i, rfl⟩ := nb_int h4
  rw [ea, eb] at h5 h6 h7
  simp only [ivI] at h5 h6 h7
  refine ⟨a.toNat, b.toNat, h1, ?_, ?_, ?_, by omega, by omega⟩
  · rw [ea]; congr 1; omega
  · rw [eb]; congr 1; omega
  · congr 1; omega
theorem loc_to {l it rt : PyData} {a b : Nat} (h1 : isItem it = true) (ha : cntW l = .int a) (hb : cntW rt = .int b) (tl : tieOk l = true) (tr : tieOk rt = true) (h2 : a + 1 ≤ 3 * (b + 1)) (h3 : b + 1 ≤ 3 * (a + 1)) : locT l it rt (.int ((a : Int) + b + 1)) = true := by
  unfold locT
  rw [h1, ha, hb, tl, tr]
  have e1 : 0 ≤ min (a : Int) (b : Int) := by omega
  have e3 : max (a : Int) (b : Int) + 1 ≤ 3 * (min (a : Int) (b : Int) + 1) := by omega
  show (true && (true && true) && (true && true && true) && decide (0 ≤ min (a : Int) (b : Int)) && decide ((a : Int) + b + 1 = a + b + 1) && decide (max (a : Int) (b : Int) + 1 ≤ 3 * (min (a : Int) (b : Int) + 1))) = true
  rw [decide_eq_true e1, decide_eq_true rfl, decide_eq_true e3]
  rfl
theorem evn_ok {n : Nat} {d : PyData} (h : evn n d = true) : tieOk d = true ∧ ∃ a : Nat, cntW d = .int a := by
  rcases tie_cases d with rfl | ⟨l, it, rt, c, rfl⟩ | ⟨h1, h2⟩
  · exact ⟨rfl, 0, rfl⟩
  · cases n with
    | zero => simp [evn] at h
    | succ n =>
      rw [evn, Bool.and_eq_true] at h
      obtain ⟨a, b, _, _, _, rfl, _⟩ := loc_of h.1
      exact ⟨rfl, a + b + 1, by show PyData.int _ = _; congr 1⟩
  · rw [(tie4 h1 h2).2.1] at h
    cases h
theorem room_evn : ∀ (n : Nat) (d : PyData) (r : Nat), roomT n d r = if evn n d = true ∧ ivI (cntW d) ≤ r then some (r - (ivI (cntW d)).toNat) else none
  | n, d, r => by
    rcases tie_cases d with rfl | ⟨l, it, rt, c, rfl⟩ | ⟨h1, h2⟩
    · rw [if_pos ⟨by cases n <;> rfl, by show (0 : Int) ≤ r; omega⟩]
      cases n <;> rfl
    · cases n with
      | zero => simp [roomT, evn]
      | succ n =>
        by_cases he : evn (n + 1) (.tuple [l, it, rt, c]) = true
        · have he' := he
          rw [evn, Bool.and_eq_true, Bool.and_eq_true] at he'
          obtain ⟨a, b, hi, ha, hb, rfl, k1, k2⟩ := loc_of he'.1
          have il := room_evn n l
          have ir := room_evn n rt
          rw [ha] at il
          rw [hb] at ir
          simp only [he'.2.1, he'.2.2, true_and, ivI] at il ir
          have e0 : ivI (cntW (.tuple [l, it, rt, .int ((a : Int) + b + 1)])) = (a : Int) + b + 1 := rfl
          rw [e0]
          cases r with
          | zero => rw [if_neg (fun z => by have := z.2; omega)]; simp [roomT]
          | succ r =>
            have hc : isCount (.int ((a : Int) + b + 1)) = true := by rw [isCount]; exact decide_eq_true (by omega)
            rw [roomT, hi, hc, if_pos (by rfl), il]
            by_cases c1 : (a : Int) ≤ (r : Nat)
            · rw [if_pos c1, Option.bind_some, ir]
              by_cases c2 : (b : Int) ≤ ((r - (a : Int).toNat : Nat) : Int)
              · rw [if_pos c2, Option.bind_some, if_pos, if_pos ⟨he, by omega⟩]
                · congr 1; omega
                · rw [Bool.and_eq_true]
                  constructor
                  · rw [PyData.eqv]
                    exact beq_iff_eq.mpr (by omega)
                  · unfold balance
                    rw [decide_eq_true (by omega), decide_eq_true (by omega)]
                    rfl
              · rw [if_neg c2, Option.bind_none, if_neg (fun z => c2 (by have := z.2; omega))]
            · rw [if_neg c1, Option.bind_none, if_neg (fun z => c1 (by have := z.2; omega))]
        · rw [if_neg (fun z => he z.1)]
          cases hr : roomT (n + 1) (.tuple [l, it, rt, c]) r with
          | none => rfl
          | some m =>
            exfalso
            cases r with
            | zero => simp [roomT] at hr
            | succ r =>
              rw [roomT] at hr
              split at hr
              · rename_i hic
                rw [Bool.and_eq_true] at hic
                rw [room_evn n l r] at hr
                split at hr
                · rename_i hl
                  rw [Option.bind_some, room_evn n rt _] at hr
                  split at hr
                  · rename_i hrr
                    rw [Option.bind_some] at hr
                    split at hr
                    · rename_i hb
                      rw [Bool.and_eq_true] at hb
                      obtain ⟨t1, a, ea⟩ := evn_ok hl.1
                      obtain ⟨t2, b, eb⟩ := evn_ok hrr.1
                      have q1 := hl.2
                      have q2 := hrr.2
                      rw [ea] at q1 hb q2
                      rw [eb] at q2 hb
                      simp only [ivI] at q1 q2 hb
                      unfold balance at hb
                      simp only [Bool.and_eq_true, decide_eq_true_eq] at hb
                      cases c with
                      | int i =>
                        have h0 := hb.1
                        rw [PyData.eqv] at h0
                        have h0' := beq_iff_eq.mp h0
                        have e : i = (a : Int) + b + 1 := by omega
                        subst e
                        apply he
                        rw [evn, loc_to hic.1 ea eb t1 t2 (by omega) (by omega), hl.1, hrr.1]
                        rfl
                      | _ => simp [isCount] at hic
                    · cases hr
                  · cases hr
                · cases hr
              · cases hr
    · rw [(tie4 h1 h2).1, (tie4 h1 h2).2.1, if_neg (fun z => Bool.false_ne_true z.1)]
  termination_by n => n
theorem even_evn {d : PyData} : (roomT 70 d 1000).isSome = (evn 70 d && decide (ivI (cntW d) ≤ 1000)) := by
  rw [room_evn]
  by_cases h : evn 70 d = true
  · by_cases h2 : ivI (cntW d) ≤ 1000
    · rw [if_pos ⟨h, h2⟩, h, decide_eq_true h2]; rfl
    · rw [if_neg (fun z => h2 z.2), h, decide_eq_false h2]; rfl
  · rw [if_neg (fun z => h z.1), Bool.eq_false_iff.mpr h]; rfl
end Tl
set_option Elab.async false
set_option linter.all false
set_option maxRecDepth 100000
set_option maxHeartbeats 4000000
/-! Bent ties. -/
set_option Elab.async false
set_option linter.all false
set_option maxRecDepth 100000
set_option maxHeartbeats 4000000
/-! Ties as trees of their own: linked, cut, without an item. -/
namespace Tl
open PySem L2
inductive Tie where
  | nil
  | node (l : Tie) (it : PyData) (r : Tie)
namespace Tie
def sz : Tie → Nat
  | nil => 0
  | node l _ r => sz l + 1 + sz r
def toD : Tie → PyData
  | nil => .none
  | node l it r => .tuple [toD l, it, toD r, .int ((sz l : Int) + 1 + (sz r : Nat))]
def its : Tie → List PyData
  | nil => []
  | node l it r => its l ++ it :: its r
def hg : Tie → Nat
  | nil => 0
  | node l _ r => max (hg l) (hg r) + 1
def Bal (a b : Nat) : Prop := a + 1 ≤ 3 * (b + 1) ∧ b + 1 ≤ 3 * (a + 1)
def balb (a b : Nat) : Bool := decide (a + 1 ≤ 3 * (b + 1)) && decide (b + 1 ≤ 3 * (a + 1))
theorem balb_iff {a b : Nat} : balb a b = true ↔ Bal a b := by
  unfold balb Bal
  rw [Bool.and_eq_true, decide_eq_true_eq, decide_eq_true_eq]
theorem balb_bal {a b : Nat} : balance (a : Int) (b : Int) = balb a b := by
  unfold balance balb
  congr 1
  · by_cases h : a + 1 ≤ 3 * (b + 1)
    · rw [decide_eq_true h, decide_eq_true (by omega)]
    · rw [decide_eq_false h, decide_eq_false (by omega)]
  · by_cases h : b + 1 ≤ 3 * (a + 1)
    · rw [decide_eq_true h, decide_eq_true (by omega)]
    · rw [decide_eq_false h, decide_eq_false (by omega)]
def Ev : Tie → Prop
  | nil => True
  | node l _ r => Bal (sz l) (sz r) ∧ Ev l ∧ Ev r
theorem its_len : ∀ t : Tie, (its t).length = sz t
  | nil => rfl
  | node l it r => by rw [its, List.length_append, List.length_cons, its_len l, its_len r, sz]; omega
theorem hg_sz : ∀ {t : Tie}, Ev t → 4 ^ hg t ≤ 3 ^ hg t * (sz t + 1)
  | nil, _ => by simp [hg, sz]
  | node l it r, h => by
    obtain ⟨⟨b1, b2⟩, h1, h2⟩ := h
    have i1 := hg_sz h1
    have i2 := hg_sz h2
    rw [hg, sz, Nat.pow_succ, Nat.pow_succ]
    rcases Nat.le_total (hg l) (hg r) with c | c
    · rw [Nat.max_eq_right c]
      have : 4 * (sz r + 1) ≤ 3 * (sz l + 1 + sz r + 1) := by omega
      calc 4 ^ hg r * 4 ≤ 3 ^ hg r * (sz r + 1) * 4 := Nat.mul_le_mul_right 4 i2
        _ = 3 ^ hg r * (4 * (sz r + 1)) := by rw [Nat.mul_assoc, Nat.mul_comm (sz r + 1) 4]
        _ ≤ 3 ^ hg r * (3 * (sz l + 1 + sz r + 1)) := Nat.mul_le_mul_left _ this
        _ = 3 ^ hg r * 3 * (sz l + 1 + sz r + 1) := by rw [Nat.mul_assoc]
    · rw [Nat.max_eq_left c]
      have : 4 * (sz l + 1) ≤ 3 * (sz l + 1 + sz r + 1) := by omega
      calc 4 ^ hg l * 4 ≤ 3 ^ hg l * (sz l + 1) * 4 := Nat.mul_le_mul_right 4 i1
        _ = 3 ^ hg l * (4 * (sz l + 1)) := by rw [Nat.mul_assoc, Nat.mul_comm (sz l + 1) 4]
        _ ≤ 3 ^ hg l * (3 * (sz l + 1 + sz r + 1)) := Nat.mul_le_mul_left _ this
        _ = 3 ^ hg l * 3 * (sz l + 1 + sz r + 1) := by rw [Nat.mul_assoc]
theorem pow43 : ∀ n : Nat, 1001 * 3 ^ (n + 25) < 4 ^ (n + 25)
  | 0 => by decide
  | n + 1 => by
    have h := pow43 n
    have e3 : 3 ^ (n + 1 + 25) = 3 ^ (n + 25) * 3 := by rw [show n + 1 + 25 = (n + 25) + 1 by omega, Nat.pow_succ]
    have e4 : 4 ^ (n + 1 + 25) = 4 ^ (n + 25) * 4 := by rw [show n + 1 + 25 = (n + 25) + 1 by omega, Nat.pow_succ]
    rw [e3, e4]
    generalize 3 ^ (n + 25) = a at *
    generalize 4 ^ (n + 25) = b at *
    omega
theorem hg_le {t : Tie} (h : Ev t) (hs : sz t ≤ 1000) : hg t ≤ 24 := by
  have h1 := hg_sz h
  refine Nat.le_of_not_lt fun c => ?_
  obtain ⟨n, e⟩ : ∃ n, hg t = n + 25 := ⟨hg t - 25, by omega⟩
  have h2 := pow43 n
  rw [e] at h1
  have h3 : 3 ^ (n + 25) * (sz t + 1) ≤ 3 ^ (n + 25) * 1001 := Nat.mul_le_mul_left _ (by omega)
  rw [Nat.mul_comm _ 1001] at h3
  omega
/-- one too heavy at the right of a top's left -/
def turnR (L : Tie) (y : PyData) (H : Tie) : Tie := if balb (sz L) (sz H) = true then node L y H else match H with
  | node i m o => if (balb (sz L) (sz i) && balb (sz L + 1 + sz i) (sz o)) = true then node (node L y i) m o else match i with
    | node i1 m1 i2 => node (node L y i1) m1 (node i2 m o)
    | nil => nil
  | nil => nil
def turnL (H : Tie) (y : PyData) (R : Tie) : Tie := if balb (sz H) (sz R) = true then node H y R else match H with
  | node o m i => if (balb (sz i) (sz R) && balb (sz o) (sz i + 1 + sz R)) = true then node o m (node i y R) else match i with
    | node i1 m1 i2 => node (node o m i1) m1 (node i2 y R)
    | nil => nil
  | nil => nil
theorem turnR_ok {L H : Tie} {y : PyData} {R S : Nat} (hL : Ev L) (hH : Ev H) (hb : Bal (sz L) R) (hs : 3 * (S + 1) < sz L + 1 + R + 1) (hz : sz H = R + 1 + S) :
    sz (turnR L y H) = sz L + 1 + sz H ∧ its (turnR L y H) = its L ++ y :: its H ∧ Ev (turnR L y H) ∧ ∃ a b c, turnR L y H = node a b c := by
  obtain ⟨b1, b2⟩ := hb
  unfold turnR
  by_cases c1 : balb (sz L) (sz H) = true
  · rw [if_pos c1]
    exact ⟨rfl, rfl, ⟨balb_iff.mp c1, hL, hH⟩, _, _, _, rfl⟩
  · rw [if_neg c1]
    have n1 : ¬ (sz L + 1 ≤ 3 * (sz H + 1) ∧ sz H + 1 ≤ 3 * (sz L + 1)) := fun z => c1 (balb_iff.mpr z)
    have n2 : 3 * (sz L + 1) < sz H + 1 := by omega
    cases H with
    | nil => rw [sz] at hz; omega
    | node i m o =>
      obtain ⟨⟨e1, e2⟩, hi, ho⟩ := hH
      rw [sz] at hz n2
      by_cases c2 : (balb (sz L) (sz i) && balb (sz L + 1 + sz i) (sz o)) = true
      · simp only [c2, if_true]
        rw [Bool.and_eq_true] at c2
        refine ⟨by simp only [sz]; omega, by simp [its], ⟨by rw [sz]; exact balb_iff.mp c2.2, ⟨balb_iff.mp c2.1, hL, hi⟩, ho⟩, _, _, _, rfl⟩
      · simp only [c2, if_false, Bool.false_eq_true]
        have n3 : ¬ (Bal (sz L) (sz i) ∧ Bal (sz L + 1 + sz i) (sz o)) := fun z => c2 (by rw [Bool.and_eq_true]; exact ⟨balb_iff.mpr z.1, balb_iff.mpr z.2⟩)
        unfold Bal at n3
        have n4 : 3 * (sz L + 1) < sz i + 1 ∨ 3 * (sz o + 1) < sz L + 1 + sz i + 1 := by omega
        cases i with
        | nil => simp only [sz] at n4 e1 e2 hz n2; omega
        | node i1 m1 i2 =>
          obtain ⟨⟨f1, f2⟩, h1, h2⟩ := hi
          simp only [sz] at n4 e1 e2 hz n2
          refine ⟨by simp only [sz]; omega, by simp [its], ⟨?_, ⟨?_, hL, h1⟩, ⟨?_, h2, ho⟩⟩, _, _, _, rfl⟩
          · simp only [sz]
            exact ⟨by omega, by omega⟩
          · exact ⟨by omega, by omega⟩
          · exact ⟨by omega, by omega⟩
theorem turnL_ok {H R : Tie} {y : PyData} {L S : Nat} (hR : Ev R) (hH : Ev H) (hb : Bal L (sz R)) (hs : 3 * (S + 1) < L + 1 + sz R + 1) (hz : sz H = S + 1 + L) :
    sz (turnL H y R) = sz H + 1 + sz R ∧ its (turnL H y R) = its H ++ y :: its R ∧ Ev (turnL H y R) ∧ ∃ a b c, turnL H y R = node a b c := by
  obtain ⟨b1, b2⟩ := hb
  unfold turnL
  by_cases c1 : balb (sz H) (sz R) = true
  · rw [if_pos c1]
    exact ⟨rfl, rfl, ⟨balb_iff.mp c1, hH, hR⟩, _, _, _, rfl⟩
  · rw [if_neg c1]
    have n1 : ¬ (sz H + 1 ≤ 3 * (sz R + 1) ∧ sz R + 1 ≤ 3 * (sz H + 1)) := fun z => c1 (balb_iff.mpr z)
    have n2 : 3 * (sz R + 1) < sz H + 1 := by omega
    cases H with
    | nil => rw [sz] at hz; omega
    | node o m i =>
      obtain ⟨⟨e1, e2⟩, ho, hi⟩ := hH
      rw [sz] at hz n2
      by_cases c2 : (balb (sz i) (sz R) && balb (sz o) (sz i + 1 + sz R)) = true
      · simp only [c2, if_true]
        rw [Bool.and_eq_true] at c2
        refine ⟨by simp only [sz]; omega, by simp [its], ⟨by rw [sz]; exact balb_iff.mp c2.2, ho, ⟨balb_iff.mp c2.1, hi, hR⟩⟩, _, _, _, rfl⟩
      · simp only [c2, if_false, Bool.false_eq_true]
        have n3 : ¬ (Bal (sz i) (sz R) ∧ Bal (sz o) (sz i + 1 + sz R)) := fun z => c2 (by rw [Bool.and_eq_true]; exact ⟨balb_iff.mpr z.1, balb_iff.mpr z.2⟩)
        unfold Bal at n3
        have n4 : 3 * (sz R + 1) < sz i + 1 ∨ 3 * (sz o + 1) < sz i + 1 + sz R + 1 := by omega
        cases i with
        | nil => simp only [sz] at n4 e1 e2 hz n2; omega
        | node i1 m1 i2 =>
          obtain ⟨⟨f1, f2⟩, h1, h2⟩ := hi
          simp only [sz] at n4 e1 e2 hz n2
          refine ⟨by simp only [sz]; omega, by simp [its], ⟨?_, ⟨?_, ho, h1⟩, ⟨?_, h2, hR⟩⟩, _, _, _, rfl⟩
          · simp only [sz]
            exact ⟨by omega, by omega⟩
          · exact ⟨by omega, by omega⟩
          · exact ⟨by omega, by omega⟩
/-- n: how deep it may go -/
def link : Nat → Tie → PyData → Tie → Tie
  | 0, _, _, _ => nil
  | n + 1, l, x, r => if sz l + 1 > 3 * (sz r + 1) then (match l with
      | node a y b => turnR a y (link n b x r)
      | nil => nil) else if sz r + 1 > 3 * (sz l + 1) then (match r with
      | node a y b => turnL (link n l x a) y b
      | nil => nil) else node l x r
theorem link_ok : ∀ {n : Nat} {l r : Tie} {x : PyData}, hg l + hg r < n → Ev l → Ev r → sz (link n l x r) = sz l + 1 + sz r ∧ its (link n l x r) = its l ++ x :: its r ∧ Ev (link n l x r) ∧ ∃ a b c, link n l x r = node a b c
  | 0, _, _, _, h, _, _ => by omega
  | n + 1, l, r, x, h, hl, hr => by
    unfold link
    by_cases c1 : sz l + 1 > 3 * (sz r + 1)
    · rw [if_pos c1]
      cases l with
      | nil => rw [sz] at c1; omega
      | node a y b =>
        obtain ⟨hb, ha, hb2⟩ := hl
        obtain ⟨i1, i2, i3, _⟩ := link_ok (n := n) (l := b) (r := r) (x := x) (by rw [hg] at h; omega) hb2 hr
        obtain ⟨j1, j2, j3, j4⟩ := turnR_ok (y := y) ha i3 hb (S := sz r) (by rw [sz] at c1; omega) i1
        refine ⟨by rw [j1, i1, sz]; omega, by rw [j2, i2, its]; simp, j3, j4⟩
    · rw [if_neg c1]
      by_cases c2 : sz r + 1 > 3 * (sz l + 1)
      · rw [if_pos c2]
        cases r with
        | nil => rw [sz] at c2; omega
        | node a y b =>
          obtain ⟨hb, ha, hb2⟩ := hr
          obtain ⟨i1, i2, i3, _⟩ := link_ok (n := n) (l := l) (r := a) (x := x) (by rw [hg] at h; omega) hl ha
          obtain ⟨j1, j2, j3, j4⟩ := turnL_ok (y := y) hb2 i3 hb (S := sz l) (by rw [sz] at c2; omega) i1
          refine ⟨by rw [j1, i1, sz]; omega, by rw [j2, i2, its]; simp, j3, j4⟩
      · rw [if_neg c2]
        exact ⟨rfl, rfl, ⟨⟨by omega, by omega⟩, hl, hr⟩, _, _, _, rfl⟩
end Tie
end Tl
set_option Elab.async false
set_option linter.all false
set_option maxRecDepth 100000
set_option maxHeartbeats 4000000
/-! What is done with ties. -/
namespace Tl
open PySem L2
namespace Tie
/-- what is known of a tie that is told -/
structure Is (t : Tie) (xs : List PyData) : Prop where
  ev : Ev t
  its : its t = xs
theorem Is.sz {t : Tie} {xs : List PyData} (h : Is t xs) : sz t = xs.length := by rw [← its_len, h.its]
theorem Is.nil : Is nil [] := ⟨trivial, rfl⟩
theorem Is.kids {l r : Tie} {x : PyData} {xs : List PyData} (h : Is (node l x r) xs) : ∃ a b, xs = a ++ x :: b ∧ Is l a ∧ Is r b ∧ Bal a.length b.length := by
  obtain ⟨⟨hb, hl, hr⟩, h2⟩ := h
  refine ⟨Tie.its l, Tie.its r, h2.symm, ⟨hl, rfl⟩, ⟨hr, rfl⟩, ?_⟩
  rw [its_len, its_len]
  exact hb
theorem Is.node {l r : Tie} {x : PyData} {a b : List PyData} (hl : Is l a) (hr : Is r b) (hb : Bal a.length b.length) : Is (node l x r) (a ++ x :: b) := ⟨⟨by rw [hl.sz, hr.sz]; exact hb, hl.ev, hr.ev⟩, by rw [Tie.its, hl.its, hr.its]⟩
theorem take_left {a b : List PyData} {k : Nat} (h : k ≤ a.length) : (a ++ b).take k = a.take k := by rw [List.take_append_of_le_length h]
theorem drop_left {a b : List PyData} {k : Nat} (h : k ≤ a.length) : (a ++ b).drop k = a.drop k ++ b := by rw [List.drop_append_of_le_length h]
theorem take_right {a b : List PyData} {x : PyData} {k : Nat} (h : a.length < k) : (a ++ x :: b).take k = a ++ x :: b.take (k - a.length - 1) := by
  rw [List.take_append, List.take_of_length_le (by omega), show k - a.length = (k - a.length - 1) + 1 by omega, List.take_succ_cons]
  rfl
theorem drop_right {a b : List PyData} {x : PyData} {k : Nat} (h : a.length < k) : (a ++ x :: b).drop k = b.drop (k - a.length - 1) := by
  rw [List.drop_append, List.drop_of_length_le (by omega), List.nil_append, show k - a.length = (k - a.length - 1) + 1 by omega, List.drop_succ_cons]
  rfl
/-- ties of at most 1000 items, and a few more, are flat -/
theorem Is.flat {t : Tie} {xs : List PyData} (h : Is t xs) (hl : xs.length ≤ 1000) : hg t ≤ 24 := hg_le h.ev (by rw [h.sz]; exact hl)
end Tie
end Tl
set_option Elab.async false
set_option linter.all false
set_option maxRecDepth 100000
set_option maxHeartbeats 4000000
/-! Ties that are told as data. -/
namespace Tl
open PySem L2
namespace Tie
def gTie (x : W) (k : Tie → Prop) : Prop := ∃ t, x = .d (toD t) ∧ k t
theorem gTie_i {t : Tie} {k : Tie → Prop} (q : k t) : gTie (.d (toD t)) k := ⟨t, rfl, q⟩
theorem gTie_n {k : Tie → Prop} (q : k nil) : gTie (.d .none) k := ⟨nil, rfl, q⟩
theorem gTie_4 {l r : Tie} {it : PyData} {k : Tie → Prop} (q : k (node l it r)) : gTie (.d (.tuple [toD l, it, toD r, .int ((sz l : Int) + 1 + (sz r : Nat))])) k := ⟨node l it r, rfl, q⟩
theorem cnt_toD (t : Tie) : cntW (toD t) = .int (sz t : Nat) := by
  cases t with
  | nil => rfl
  | node l it r => show PyData.int _ = _; congr 1
theorem toD_evn : ∀ {n : Nat} {t : Tie}, hg t ≤ n → Ev t → (∀ x ∈ its t, isItem x = true) → evn n (toD t) = true
  | n, nil, _, _, _ => by cases n <;> rfl
  | 0, node l it r, h, _, _ => by rw [hg] at h; omega
  | n + 1, node l it r, h, he, hi => by
    obtain ⟨⟨b1, b2⟩, hl, hr⟩ := he
    rw [hg] at h
    rw [its] at hi
    have i1 := toD_evn (n := n) (t := l) (by omega) hl fun x hx => hi x (List.mem_append_left _ hx)
    have i2 := toD_evn (n := n) (t := r) (by omega) hr fun x hx => hi x (List.mem_append_right _ (.tail _ hx))
    rw [toD, evn, i1, i2, show ((sz l : Nat) : Int) + 1 + ((sz r : Nat) : Int) = ((sz l : Nat) : Int) + ((sz r : Nat) : Int) + 1 by omega, loc_to (hi it (List.mem_append_right _ (.head _))) (cnt_toD l) (cnt_toD r) (evn_ok i1).1 (evn_ok i2).1 b1 b2]
    rfl
theorem toD_gk : ∀ {t : Tie}, sz t ≤ 90000 → (∀ x ∈ its t, Gk 4000 1 x) → Gk (6000 * sz t + 4) (hg t + 1) (toD t)
  | nil, _, _ => gk_none (by omega)
  | node l it r, hz, hi => by
    rw [sz] at hz
    rw [its] at hi
    have g1 := (toD_gk (t := l) (by omega) fun x hx => hi x (List.mem_append_left _ hx)).mono (k' := max (hg l) (hg r) + 1) (Nat.le_refl _) (by omega)
    have g2 := (toD_gk (t := r) (by omega) fun x hx => hi x (List.mem_append_right _ (.tail _ hx))).mono (k' := max (hg l) (hg r) + 1) (Nat.le_refl _) (by omega)
    have g3 := (hi it (List.mem_append_right _ (.head _))).mono (k' := max (hg l) (hg r) + 1) (Nat.le_refl _) (by omega)
    have g4 : Gk 1930 (max (hg l) (hg r) + 1) (.int ((sz l : Int) + 1 + (sz r : Nat))) := gk_i (by omega) (by omega)
    rw [toD, sz, hg]
    exact ((Gks.cons (m'' := 6000 * sz l + 6000 * sz r + 5950) g1 (.cons (m'' := 6000 * sz r + 5940) g3 (.cons (m'' := 6000 * sz r + 1938) g2 (.cons (m' := 0) (m'' := 1932) g4 .nil (by decide)) (by omega)) (by omega)) (by omega)).tup (m' := 6000 * sz l + 6000 * sz r + 5953) (by omega)).mono (by omega) (by omega)
/-- a tie of drawn items, not too many -/
structure IsO (t : Tie) (xs : List PyData) : Prop extends Is t xs where
  ok : ∀ x ∈ xs, ItOk1 x
  le : xs.length ≤ 1000
theorem IsO.hg {t : Tie} {xs : List PyData} (h : IsO t xs) : Tie.hg t ≤ 24 := h.toIs.flat h.le
theorem IsO.gk {t : Tie} {xs : List PyData} (h : IsO t xs) : Gk 6000004 25 (toD t) := by
  have h1 := h.toIs.sz
  have h2 := h.le
  have h3 := h.hg
  exact (toD_gk (by omega) fun x hx => (h.ok x (by rw [← h.its]; exact hx)).2).mono (by omega) (by omega)
theorem IsO.even {t : Tie} {xs : List PyData} (h : IsO t xs) : (roomT 70 (toD t) 1000).isSome = true := by
  have h3 := h.hg
  rw [even_evn, toD_evn (by omega) h.ev fun x hx => (h.ok x (by rw [← h.its]; exact hx)).1, cnt_toD, decide_eq_true]
  · rfl
  · show ((sz t : Nat) : Int) ≤ 1000
    have := h.toIs.sz
    have := h.le
    omega
theorem IsO.txt {t : Tie} {xs : List PyData} (h : IsO t xs) : Tl.txt (toD t) = true := gd_txt _ h.gk.1
theorem IsO.dep {t : Tie} {xs : List PyData} (h : IsO t xs) : (toD t).depth < 70 := by
  have := h.gk.2.2
  omega
end Tie
end Tl
set_option Elab.async false
set_option linter.all false
set_option maxRecDepth 100000
set_option maxHeartbeats 4000000
/-! An item put in, taken out. -/
namespace Tl
open PySem L2
namespace Tie
def insAt (xs : List PyData) (k : Nat) (x : PyData) : List PyData := xs.take k ++ x :: xs.drop k
def outAt (xs : List PyData) (k : Nat) : List PyData := xs.take k ++ xs.drop (k + 1)
theorem insAt_len {xs : List PyData} {k : Nat} {x : PyData} (h : k ≤ xs.length) : (insAt xs k x).length = xs.length + 1 := by
  unfold insAt
  rw [List.length_append, List.length_cons, List.length_take, List.length_drop]
  omega
theorem outAt_len {xs : List PyData} {k : Nat} (h : k < xs.length) : (outAt xs k).length + 1 = xs.length := by
  unfold outAt
  rw [List.length_append, List.length_take, List.length_drop]
  omega
theorem insAt_left {a b : List PyData} {y x : PyData} {k : Nat} (h : k ≤ a.length) : insAt (a ++ y :: b) k x = insAt a k x ++ y :: b := by
  unfold insAt
  rw [take_left h, drop_left h]
  simp
theorem insAt_right {a b : List PyData} {y x : PyData} {k : Nat} (h : a.length < k) : insAt (a ++ y :: b) k x = a ++ y :: insAt b (k - a.length - 1) x := by
  unfold insAt
  rw [take_right h, drop_right h]
  simp
theorem outAt_left {a b : List PyData} {y : PyData} {k : Nat} (h : k < a.length) : outAt (a ++ y :: b) k = outAt a k ++ y :: b := by
  unfold outAt
  rw [take_left (by omega), drop_left (by omega)]
  simp
theorem outAt_mid {a b : List PyData} {y : PyData} : outAt (a ++ y :: b) a.length = a ++ b := by
  unfold outAt
  rw [List.take_left', ← List.drop_drop, List.drop_left']
  · rfl
  · rfl
  · rfl
theorem outAt_right {a b : List PyData} {y : PyData} {k : Nat} (h : a.length < k) : outAt (a ++ y :: b) k = a ++ y :: outAt b (k - a.length - 1) := by
  unfold outAt
  rw [take_right h, drop_right (by omega), show k + 1 - a.length - 1 = (k - a.length - 1) + 1 by omega]
  simp
theorem out_0 {x : PyData} {xs : List PyData} : outAt (x :: xs) 0 = xs := rfl
end Tie
end Tl
set_option Elab.async false
set_option linter.all false
set_option maxRecDepth 100000
set_option maxHeartbeats 4000000
namespace Tl
open PySem L2
namespace Tie
structure Good (t : Tie) : Prop where
  ev : Ev t
  le : sz t ≤ 1000
  ok : ∀ x ∈ its t, isItem x = true
theorem evn_tie : ∀ {n : Nat} {d : PyData}, evn n d = true → ∃ t, d = toD t ∧ Ev t ∧ ∀ x ∈ its t, isItem x = true
  | 0, d, h => by
    rcases tie_cases d with rfl | ⟨l, it, rt, c, rfl⟩ | ⟨h1, h2⟩
    · exact ⟨nil, rfl, trivial, fun x hx => by cases hx⟩
    · simp [evn] at h
    · rw [(tie4 h1 h2).2.1] at h; cases h
  | n + 1, d, h => by
    rcases tie_cases d with rfl | ⟨l, it, rt, c, rfl⟩ | ⟨h1, h2⟩
    · exact ⟨nil, rfl, trivial, fun x hx => by cases hx⟩
    · rw [evn, Bool.and_eq_true, Bool.and_eq_true] at h
      obtain ⟨a, b, hi, ha, hb, rfl, k1, k2⟩ := loc_of h.1
      obtain ⟨tl, rfl, el, ol⟩ := evn_tie h.2.1
      obtain ⟨tr, rfl, er, or'⟩ := evn_tie h.2.2
      rw [cnt_toD] at ha hb
      have ea : a = sz tl := by injection ha with z; omega
      have eb : b = sz tr := by injection hb with z; omega
      subst ea
      subst eb
      refine ⟨node tl it tr, ?_, ⟨⟨k1, k2⟩, el, er⟩, fun x hx => ?_⟩
      · rw [toD, show ((sz tl : Nat) : Int) + ((sz tr : Nat) : Int) + 1 = ((sz tl : Nat) : Int) + 1 + ((sz tr : Nat) : Int) by omega]
      · rw [its] at hx
        rcases List.mem_append.mp hx with hx | hx
        · exact ol x hx
        · rcases List.mem_cons.mp hx with rfl | hx
          · exact hi
          · exact or' x hx
    · rw [(tie4 h1 h2).2.1] at h; cases h
theorem even_tie {d : PyData} (h : (roomT 70 d 1000).isSome = true) : ∃ t, d = toD t ∧ Good t := by
  rw [even_evn, Bool.and_eq_true] at h
  obtain ⟨t, rfl, he, ho⟩ := evn_tie h.1
  have := of_decide_eq_true h.2
  rw [cnt_toD] at this
  exact ⟨t, rfl, he, by have : ((sz t : Nat) : Int) ≤ 1000 := this; omega, ho⟩
theorem Good.even {t : Tie} (h : Good t) : (roomT 70 (toD t) 1000).isSome = true := by
  have h3 := hg_le h.ev h.le
  have h4 := h.le
  rw [even_evn, toD_evn (by omega) h.ev h.ok, cnt_toD, decide_eq_true]
  · rfl
  · show ((sz t : Nat) : Int) ≤ 1000
    omega
theorem toD_inj : ∀ {a b : Tie}, toD a = toD b → a = b
  | nil, nil, _ => rfl
  | nil, node _ _ _, h => by rw [toD, toD] at h; cases h
  | node _ _ _, nil, h => by rw [toD, toD] at h; cases h
  | node l x r, node l' x' r', h => by
    rw [toD, toD] at h
    injection h with h
    simp only [List.cons.injEq] at h
    rw [toD_inj h.1, h.2.1, toD_inj h.2.2.1]
theorem half (n : Nat) : (n : Int) / 2 = ((n / 2 : Nat) : Int) := by omega
end Tie
end Tl
set_option Elab.async false
set_option linter.all false
set_option maxRecDepth 100000
set_option maxHeartbeats 4000000
/-! Ties: how much of a tie is new. -/
namespace Tl
open PySem L2
namespace Tie
/-! ### steps -/
/-- the steps down from a weight -/
def stpF : Nat → Nat → Nat
  | 0, _ => 1
  | f + 1, w => if w < 2 then 1 else stpF f (w * 3 / 4) + 1
theorem stpF_up : ∀ (f g w : Nat), w ≤ f → f ≤ g → stpF g w = stpF f w
  | 0, 0, w, _, _ => rfl
  | 0, g + 1, w, h, _ => by
    show stpF (g + 1) w = 1
    rw [stpF, if_pos (by omega)]
  | f + 1, 0, w, _, h => by omega
  | f + 1, g + 1, w, h, h2 => by
    rw [stpF, stpF]
    by_cases c : w < 2
    · rw [if_pos c, if_pos c]
    · rw [if_neg c, if_neg c, stpF_up f g (w * 3 / 4) (by omega) (by omega)]
def stp (w : Nat) : Nat := stpF w w
theorem stp_lo {w : Nat} (h : w < 2) : stp w = 1 := by
  unfold stp
  cases w with
  | zero => rfl
  | succ w => rw [stpF, if_pos h]
theorem stp_up {w : Nat} (h : 2 ≤ w) : stp w = stp (w * 3 / 4) + 1 := by
  unfold stp
  obtain ⟨v, rfl⟩ : ∃ v, w = v + 1 := ⟨w - 1, by omega⟩
  rw [stpF, if_neg (by omega), stpF_up ((v + 1) * 3 / 4) v ((v + 1) * 3 / 4) (Nat.le_refl _) (by omega)]
theorem stp_pos (w : Nat) : 1 ≤ stp w := by
  by_cases c : w < 2
  · rw [stp_lo c]; omega
  · rw [stp_up (by omega)]; omega
theorem stpF_mono : ∀ (f a b : Nat), a ≤ b → stpF f a ≤ stpF f b
  | 0, _, _, _ => Nat.le_refl _
  | f + 1, a, b, h => by
    rw [stpF, stpF]
    by_cases c : a < 2
    · rw [if_pos c]
      split <;> omega
    · rw [if_neg c, if_neg (by omega)]
      have := stpF_mono f (a * 3 / 4) (b * 3 / 4) (by omega)
      omega
theorem stp_mono {a b : Nat} (h : a ≤ b) : stp a ≤ stp b := by
  have := stpF_mono b a b h
  rw [stpF_up a b a (Nat.le_refl _) h] at this
  exact this
theorem stp_34 {a b : Nat} (h : 4 * a ≤ 3 * b) (hb : 2 ≤ b) : stp a + 1 ≤ stp b := by
  rw [stp_up hb]
  have := stp_mono (a := a) (b := b * 3 / 4) (by omega)
  omega
/-! ### what is new -/
/-- what is known is known with its parts -/
structure Cl (Kn : Tie → Prop) : Prop where
  nil : Kn nil
  l : ∀ {l x r}, Kn (node l x r) → Kn l
  r : ∀ {l x r}, Kn (node l x r) → Kn r
open Classical in
noncomputable def cost (Kn : Tie → Prop) : Tie → Nat
  | nil => 0
  | node l x r => if Kn (node l x r) then 0 else cost Kn l + cost Kn r + 1
section
variable {Kn : Tie → Prop}
theorem cost_kn (C : Cl Kn) {t : Tie} (h : Kn t) : cost Kn t = 0 := by
  cases t with
  | nil => rfl
  | node l x r => rw [cost, if_pos h]
theorem cost_node (l r : Tie) (x : PyData) : cost Kn (node l x r) ≤ cost Kn l + cost Kn r + 1 := by
  rw [cost]
  split <;> omega
theorem cost_kids (C : Cl Kn) (l r : Tie) (x : PyData) : (cost Kn (node l x r) = 0 ∧ cost Kn l = 0 ∧ cost Kn r = 0) ∨ cost Kn (node l x r) = cost Kn l + cost Kn r + 1 := by
  by_cases c : Kn (node l x r)
  · exact .inl ⟨cost_kn C c, cost_kn C (C.l c), cost_kn C (C.r c)⟩
  · right
    rw [cost, if_neg c]
theorem turnR_cost (C : Cl Kn) (L H : Tie) (y : PyData) : cost Kn (turnR L y H) ≤ cost Kn L + max (cost Kn H) 1 + 2 := by
  unfold turnR
  split
  · have := cost_node (Kn := Kn) L H y
    omega
  · cases H with
    | nil => show 0 ≤ _; omega
    | node i m o =>
      have k1 := cost_kids C i o m
      dsimp only
      split
      · have := cost_node (Kn := Kn) (node L y i) o m
        have := cost_node (Kn := Kn) L i y
        omega
      · cases i with
        | nil => show 0 ≤ _; omega
        | node i1 m1 i2 =>
          have k2 := cost_kids C i1 i2 m1
          have := cost_node (Kn := Kn) (node L y i1) (node i2 m o) m1
          have := cost_node (Kn := Kn) L i1 y
          have := cost_node (Kn := Kn) i2 o m
          dsimp only
          omega
theorem turnL_cost (C : Cl Kn) (H R : Tie) (y : PyData) : cost Kn (turnL H y R) ≤ cost Kn R + max (cost Kn H) 1 + 2 := by
  unfold turnL
  split
  · have := cost_node (Kn := Kn) H R y
    omega
  · cases H with
    | nil => show 0 ≤ _; omega
    | node o m i =>
      have k1 := cost_kids C o i m
      dsimp only
      split
      · have := cost_node (Kn := Kn) o (node i y R) m
        have := cost_node (Kn := Kn) i R y
        omega
      · cases i with
        | nil => show 0 ≤ _; omega
        | node i1 m1 i2 =>
          have k2 := cost_kids C i1 i2 m1
          have := cost_node (Kn := Kn) (node o m i1) (node i2 y R) m1
          have := cost_node (Kn := Kn) o i1 m
          have := cost_node (Kn := Kn) i2 R y
          dsimp only
          omega
/-- how often link goes down -/
def dsc : Nat → Tie → Tie → Nat
  | 0, _, _ => 0
  | n + 1, l, r => if sz l + 1 > 3 * (sz r + 1) then (match l with
      | node _ _ b => dsc n b r + 1
      | nil => 0) else if sz r + 1 > 3 * (sz l + 1) then (match r with
      | node a _ _ => dsc n l a + 1
      | nil => 0) else 0
theorem dsc_s (n : Nat) (l r : Tie) : dsc (n + 1) l r = if sz l + 1 > 3 * (sz r + 1) then (match l with
      | node _ _ b => dsc n b r + 1
      | nil => 0) else if sz r + 1 > 3 * (sz l + 1) then (match r with
      | node a _ _ => dsc n l a + 1
      | nil => 0) else 0 := rfl
theorem dsc_z (l r : Tie) : dsc 0 l r = 0 := rfl
theorem link_cost (C : Cl Kn) : ∀ (n : Nat) (l r : Tie) (x : PyData), cost Kn (link n l x r) ≤ cost Kn l + cost Kn r + 1 + 2 * dsc n l r
  | 0, l, r, x => by show 0 ≤ _; omega
  | n + 1, l, r, x => by
    unfold link dsc
    by_cases c1 : sz l + 1 > 3 * (sz r + 1)
    · rw [if_pos c1, if_pos c1]
      cases l with
      | nil => show 0 ≤ _; omega
      | node a y b =>
        have i := link_cost C n b r x
        have j := turnR_cost C a (link n b x r) y
        have k := cost_kids C a b y
        dsimp only
        omega
    · rw [if_neg c1, if_neg c1]
      by_cases c2 : sz r + 1 > 3 * (sz l + 1)
      · rw [if_pos c2, if_pos c2]
        cases r with
        | nil => show 0 ≤ _; omega
        | node a y b =>
          have i := link_cost C n l a x
          have j := turnL_cost C (link n l x a) b y
          have k := cost_kids C a b y
          dsimp only
          omega
      · rw [if_neg c2, if_neg c2]
        have := cost_node (Kn := Kn) l r x
        omega
theorem dsc_0 {n : Nat} {l r : Tie} (h1 : sz l + 1 ≤ 3 * (sz r + 1)) (h2 : sz r + 1 ≤ 3 * (sz l + 1)) : dsc n l r = 0 := by
  cases n with
  | zero => rfl
  | succ n => rw [dsc_s, if_neg (by omega), if_neg (by omega)]
/-- of a left that is too heavy -/
theorem dsc_l : ∀ {n : Nat} {l r : Tie}, Ev l → 3 * (sz r + 1) < sz l + 1 → dsc n l r + stp (sz r + 1) ≤ stp (sz l + 1) + 1
  | 0, l, r, _, h => by
    have := stp_mono (a := sz r + 1) (b := sz l + 1) (by omega)
    rw [dsc_z]
    omega
  | n + 1, l, r, hl, h => by
    rw [dsc_s, if_pos h]
    cases l with
    | nil => rw [sz] at h; omega
    | node a y b =>
      obtain ⟨⟨b1, b2⟩, ha, hb⟩ := hl
      rw [sz] at h ⊢
      have j := stp_34 (a := sz b + 1) (b := sz a + 1 + sz b + 1) (by omega) (by omega)
      dsimp only
      by_cases c : 3 * (sz r + 1) < sz b + 1
      · have := dsc_l (n := n) hb c
        omega
      · rw [dsc_0 (n := n) (l := b) (r := r) (by omega) (by omega)]
        have := stp_mono (a := sz r + 1) (b := sz a + 1 + sz b + 1) (by omega)
        omega
theorem dsc_r : ∀ {n : Nat} {l r : Tie}, Ev r → 3 * (sz l + 1) < sz r + 1 → dsc n l r + stp (sz l + 1) ≤ stp (sz r + 1) + 1
  | 0, l, r, _, h => by
    have := stp_mono (a := sz l + 1) (b := sz r + 1) (by omega)
    rw [dsc_z]
    omega
  | n + 1, l, r, hr, h => by
    rw [dsc_s, if_neg (by omega), if_pos h]
    cases r with
    | nil => rw [sz] at h; omega
    | node a y b =>
      obtain ⟨⟨b1, b2⟩, ha, hb⟩ := hr
      rw [sz] at h ⊢
      have j := stp_34 (a := sz a + 1) (b := sz a + 1 + sz b + 1) (by omega) (by omega)
      dsimp only
      by_cases c : 3 * (sz l + 1) < sz a + 1
      · have := dsc_r (n := n) ha c
        omega
      · rw [dsc_0 (n := n) (l := l) (r := a) (by omega) (by omega)]
        have := stp_mono (a := sz l + 1) (b := sz a + 1 + sz b + 1) (by omega)
        omega
theorem dsc_max {n : Nat} {l r : Tie} (hl : Ev l) (hr : Ev r) {w : Nat} (h1 : sz l + 1 ≤ w) (h2 : sz r + 1 ≤ w) : dsc n l r ≤ stp w := by
  have p1 := stp_pos (sz l + 1)
  have p2 := stp_pos (sz r + 1)
  have m1 := stp_mono h1
  have m2 := stp_mono h2
  by_cases c1 : 3 * (sz r + 1) < sz l + 1
  · have := dsc_l (n := n) hl c1
    omega
  · by_cases c2 : 3 * (sz l + 1) < sz r + 1
    · have := dsc_r (n := n) hr c2
      omega
    · rw [dsc_0 (by omega) (by omega)]
      omega
/-- nearly balanced -/
theorem dsc_2 {n : Nat} {l r : Tie} (hl : Ev l) (hr : Ev r) (h1 : sz l + 1 ≤ 3 * (sz r + 1) + 3) (h2 : sz r + 1 ≤ 3 * (sz l + 1) + 3) : dsc n l r ≤ 2 := by
  cases n with
  | zero => rw [dsc_z]; omega
  | succ n =>
    rw [dsc_s]
    split
    · rename_i c
      cases l with
      | nil => show 0 ≤ _; omega
      | node a y b =>
        obtain ⟨⟨b1, b2⟩, ha, hb⟩ := hl
        rw [sz] at h1 h2 c
        dsimp only
        cases n with
        | zero => rw [dsc_z]; omega
        | succ n =>
          rw [dsc_s]
          split
          · rename_i c2
            cases b with
            | nil => show 0 + 1 ≤ _; omega
            | node a2 y2 b3 =>
              rw [sz] at *
              obtain ⟨⟨e1, e2⟩, _, _⟩ := hb
              dsimp only
              rw [dsc_0 (by omega) (by omega)]
              omega
          · rw [if_neg (by omega)]
            omega
    · split
      · rename_i c
        cases r with
        | nil => show 0 ≤ _; omega
        | node a y b =>
          obtain ⟨⟨b1, b2⟩, ha, hb⟩ := hr
          rw [sz] at h1 h2 c
          dsimp only
          cases n with
          | zero => rw [dsc_z]; omega
          | succ n =>
            rw [dsc_s, if_neg (by omega)]
            split
            · rename_i c2
              cases a with
              | nil => show 0 + 1 ≤ _; omega
              | node a2 y2 b3 =>
                rw [sz] at *
                obtain ⟨⟨e1, e2⟩, _, _⟩ := ha
                dsimp only
                rw [dsc_0 (by omega) (by omega)]
                omega
            · omega
      · omega
end
/-- no more than c new beside what is new in t -/
def Ad (t t' : Tie) (c : Nat) : Prop := ∀ Kn, Cl Kn → cost Kn t' ≤ cost Kn t + c
theorem link_near {Kn : Tie → Prop} (C : Cl Kn) {n : Nat} {l r : Tie} {x : PyData} (hl : Ev l) (hr : Ev r) (h1 : sz l + 1 ≤ 3 * (sz r + 1) + 3) (h2 : sz r + 1 ≤ 3 * (sz l + 1) + 3) : cost Kn (link n l x r) ≤ cost Kn l + cost Kn r + 5 := by
  have := link_cost C n l r x
  have := dsc_2 (n := n) hl hr h1 h2
  omega
theorem ad_l {n : Nat} {l l' r : Tie} {x : PyData} {c : Nat} (h : Ad l l' c) (hl : Ev l') (hr : Ev r) (h1 : sz l' + 1 ≤ 3 * (sz r + 1) + 3) (h2 : sz r + 1 ≤ 3 * (sz l' + 1) + 3) : Ad (node l x r) (link n l' x r) (c + 5) := fun Kn C => by
  have := link_near C (n := n) (x := x) hl hr h1 h2
  have := h Kn C
  have := cost_kids C l r x
  omega
theorem ad_r {n : Nat} {l r r' : Tie} {x : PyData} {c : Nat} (h : Ad r r' c) (hl : Ev l) (hr : Ev r') (h1 : sz l + 1 ≤ 3 * (sz r' + 1) + 3) (h2 : sz r' + 1 ≤ 3 * (sz l + 1) + 3) : Ad (node l x r) (link n l x r') (c + 5) := fun Kn C => by
  have := link_near C (n := n) (x := x) hl hr h1 h2
  have := h Kn C
  have := cost_kids C l r x
  omega
theorem ad_kid_l {l r : Tie} {x : PyData} {p : Tie} {c : Nat} (h : Ad l p c) : Ad (node l x r) p c := fun Kn C => by
  have := h Kn C
  have := cost_kids C l r x
  omega
theorem ad_kid_r {l r : Tie} {x : PyData} {p : Tie} {c : Nat} (h : Ad r p c) : Ad (node l x r) p c := fun Kn C => by
  have := h Kn C
  have := cost_kids C l r x
  omega
theorem Ad.le {t t' : Tie} {c d : Nat} (h : Ad t t' c) (hd : c ≤ d) : Ad t t' d := fun Kn C => by
  have := h Kn C
  omega
theorem ad_self (t : Tie) : Ad t t 0 := fun Kn C => Nat.le_refl _
theorem ad_nil (t : Tie) : Ad t nil 0 := fun Kn C => by show 0 ≤ _; omega
/-- the rest behind a cut, where the right is joined to it -/
theorem ad_rest {n h : Nat} {l r q : Tie} {x : PyData} (i : Ad l q (3 * h + 2 * stp (sz q + 1))) (hq : Ev q) (hr : Ev r) (hz : sz q + 1 ≤ 3 * (sz r + 1)) (hs : sz (link n q x r) = sz q + 1 + sz r) : Ad (node l x r) (link n q x r) (3 * (h + 1) + 2 * stp (sz (link n q x r) + 1)) := fun Kn C => by
  have k1 := link_cost C n q r x
  have k2 := i Kn C
  have k3 := cost_kids C l r x
  rw [hs]
  have m1 := stp_mono (a := sz q + 1) (b := sz q + 1 + sz r + 1) (by omega)
  have m2 := stp_mono (a := sz r + 1) (b := sz q + 1 + sz r + 1) (by omega)
  by_cases c : 3 * (sz q + 1) < sz r + 1
  · have := dsc_r (n := n) hr c
    omega
  · rw [dsc_0 (n := n) (l := q) (r := r) (by omega) (by omega)] at k1
    omega
theorem ad_first {n h : Nat} {l r p : Tie} {x : PyData} (i : Ad r p (3 * h + 2 * stp (sz p + 1))) (hp : Ev p) (hl : Ev l) (hz : sz p + 1 ≤ 3 * (sz l + 1)) (hs : sz (link n l x p) = sz l + 1 + sz p) : Ad (node l x r) (link n l x p) (3 * (h + 1) + 2 * stp (sz (link n l x p) + 1)) := fun Kn C => by
  have k1 := link_cost C n l p x
  have k2 := i Kn C
  have k3 := cost_kids C l r x
  rw [hs]
  have m1 := stp_mono (a := sz p + 1) (b := sz l + 1 + sz p + 1) (by omega)
  have m2 := stp_mono (a := sz l + 1) (b := sz l + 1 + sz p + 1) (by omega)
  by_cases c : 3 * (sz p + 1) < sz l + 1
  · have := dsc_l (n := n) hl c
    omega
  · rw [dsc_0 (n := n) (l := l) (r := p) (by omega) (by omega)] at k1
    omega
end Tie
end Tl
set_option Elab.async false
set_option linter.all false
set_option maxRecDepth 100000
set_option maxHeartbeats 4000000
/-! Slices of lists stored; tables by words (dicts that the top has left for good). -/
namespace Tl
open PySem PySem.Spec PyProof.Rows L2
/-! ### x in a list, of any data -/
/-! ### slices, by places -/
/-! ### tables -/
/-- what stands in a table: a def, or data -/
inductive TV where
  | f (a : Addr)
  | d (x : PyData)
@[reducible] def TV.w : TV → W
  | .f a => .o (.ref a)
  | .d x => .d x
end Tl
set_option Elab.async false
set_option linter.all false
set_option maxRecDepth 100000
set_option maxHeartbeats 4000000
/-! Tables by seven words, as the top leaves them. -/
set_option Elab.async false
set_option linter.all false
set_option maxRecDepth 100000
set_option maxHeartbeats 4000000
/-! Dicts that may change: made, stored into, looked up, walked. -/
namespace Tl
open PySem PySem.Spec PyProof.Rows L2
section
variable {K : PySem.W.Frag} {F H : Hp} {M : Mem}
section
variable {κ : Type} [DecidableEq κ]
theorem PrR.nil : PrR K F ([] : List (κ × V)) [] := ⟨rfl, .nil⟩
theorem PrR.cons {p : κ × V} {q : κ × W} {kv : List (κ × V)} {kw : List (κ × W)} (h1 : p.1 = q.1) (h2 : RW K F p.2 q.2) (h3 : PrR K F kv kw) : PrR K F (p :: kv) (q :: kw) :=
  ⟨by rw [List.map_cons, List.map_cons, h1, h3.1], .cons h2 h3.2⟩
theorem PrR.app {a c : List (κ × V)} {b d : List (κ × W)} (h : PrR K F a b) (g : PrR K F c d) : PrR K F (a ++ c) (b ++ d) :=
  ⟨by rw [List.map_append, List.map_append, h.1, g.1], by rw [List.map_append, List.map_append]; exact h.2.app g.2⟩
theorem PrR.got {kv : List (κ × V)} {kw : List (κ × W)} (h : PrR K F kv kw) {i : Nat} {q : κ × W} (e : kw[i]? = some q) : ∃ v, kv[i]? = some (q.1, v) ∧ RW K F v q.2 := by
  have hi : i < kw.length := (List.getElem?_eq_some_iff.mp e).1
  have h1 : (kv.map (·.1))[i]? = (kw.map (·.1))[i]? := by rw [h.1]
  rw [List.getElem?_map, List.getElem?_map, e] at h1
  obtain ⟨p, hp, e2⟩ := Option.map_eq_some_iff.mp h1
  obtain ⟨v, hv, r⟩ := h.2.got (i := i) (x := q.2) (by rw [List.getElem?_map, e]; rfl)
  rw [List.getElem?_map, hp] at hv
  cases hv
  exact ⟨p.2, by rw [hp]; exact congrArg some (Prod.ext e2 rfl), r⟩
end
theorem Rl.dK (h : Rl K F H M) {a : Addr} {kw : List (L2.Key × W)} (e : M a = some (.dK kw)) : ∃ kv, H a = some (.dK kv) ∧ PrR K F kv kw := by
  obtain ⟨_, h1, kv, rfl, h2⟩ := h.at_ a _ e
  exact ⟨kv, h1, h2⟩
theorem Rl.lkK (h : Rl K F H M) {a : Addr} {ob : Obj} {kv : List (L2.Key × V)} {kw : List (L2.Key × W)} (e : M a = some (.lkK ob kv kw)) : H a = some (.frz ob (.dK kv)) ∧ PrR K F kv kw := by
  obtain ⟨_, h1, rfl, h2⟩ := h.at_ a _ e
  exact ⟨h1, h2⟩
end
end Tl
set_option Elab.async false
set_option linter.all false
set_option maxRecDepth 100000
set_option maxHeartbeats 4000000
/-! Several except clauses, each with the same name behind 'as'. -/
namespace Tl
open PySem PySem.Spec PyProof.Rows L2
/-- what the clauses wish, one behind another -/
def wAsL (K : PySem.W.Frag) (i : Nat) (Wout : WX) (D : Ends) : List (Value × (Addr → Value → Option Addr → TS)) → WX
  | [] => Wout
  | (c, ts) :: r => wAs K c i ts (wAsL K i Wout D r) D
inductive HdsA (X : Cx) (n : Str) : List ExceptHandler → List (Value × (Addr → Value → Option Addr → TS)) → Prop
  | nil : HdsA X n [] []
  | cons {x : Str} {c : Value} {ts : Addr → Value → Option Addr → TS} {s0 : Stmt} {su : List Stmt} {np ps : Pos} {hds : List ExceptHandler} {l : List (Value × (Addr → Value → Option Addr → TS))} (hc : Names X x c)
      (hsu : ∀ (a : Addr) (oe : Obj) (cls : Value) (d : Option Addr) (pn : List (Addr × Obj)), Zc cls d oe → (∃ vs, oe.data = .fields vs) → PSs (X.suite a ((a, oe) :: pn)) (s0 :: su) (ts a cls d)) (r : HdsA X n hds l) :
      HdsA X n (.ExceptHandler (some (.Name x np)) (some n) (s0 :: su) ps :: hds) ((c, ts) :: l)
section
variable {X : Cx} {n : Str} {i : Nat} {bd : List Stmt} {h0 : ExceptHandler} {hds : List ExceptHandler} {l : List (Value × (Addr → Value → Option Addr → TS))} {pt : Pos} {tb : WX → TS} {Wout : WX}
/-- the end of the try where its body has raised -/
theorem asL_catch (hs : X.stack = X.env :: X.outer) (hf : X.env.frame = some X.env.locals) (hN : X.N.Nodup) (hi : X.N[i]? = some n) (hln : X.env.kindOf n = some .local) (tk : Takes X Wout) (hh : HdsA X n hds l)
    {pins pn' : List (Addr × Obj)} {xe' : Value → Shared → Prop} {D : Ends} {u : Value} {t : Shared} (ok : X.Ok) (xx : XE (X.tr (X.pn ++ pins) xe') (wAsL X.K i Wout D l) u t) :
    wpAny (model X.prog X.w) X.A (noteFrame u X.env) (fun _ t2 => wpAny (model X.prog X.w) X.A (setFlight u none) (fun _ t3 => wpAny (model X.prog X.w) X.A (handleBy u X.env hds) (SP X pins D) X.xe t3) X.xe t2) X.xe t := by
  obtain ⟨a, B, t0, _, τ, G, cls, d, rfl, J0, nb, up, sky, na, os, ag, hw⟩ := xx
  have J : Inv X pins τ G t0 := by
    have := J0.ofTry ok
    exact this
  have frames : X.A.frames = some (X.env :: X.outer) := by rw [ok.frames, hs]
  have sky1 : Sky B (X.env :: X.outer) a (Zc cls d) X.env.locals t.heap := hs ▸ sky
  refine Sky.land Zc.steady frames hf sky1 fun hA flA upA => ?_
  have JA : Inv X pins τ G { t with heap := hA } := J.landed nb flA.1 (up.trans upA) os ag
  obtain ⟨oA, vA, gA, zA, dA⟩ := flA.there
  have far : a ∉ frs (X.env :: X.outer) := fun m => by
    obtain ⟨_, o2, g2, no⟩ := flA.2.2.1.mem m
    have e2 : oA = o2 := Option.some.inj (gA.symm.trans g2)
    exact no _ (e2 ▸ dA)
  have nL : a ≠ X.env.locals := fun z => far (List.mem_filterMap.mpr ⟨_, List.mem_cons_self, by rw [hf, z]⟩)
  have nF : a ∉ X.fs := fun m => by
    obtain ⟨e, me, qe⟩ := List.mem_filterMap.mp m
    exact far (List.mem_filterMap.mpr ⟨e, .tail _ me, qe⟩)
  have SA := JA.suite gA dA na nL nF
  induction hh with
  | nil =>
    refine wpAny_handleBy_nil ?_
    obtain ⟨_, _, _, o5, v5, tr, _, _, g5, _, d5, h5, _⟩ := id flA
    unfold PySem.passOn
    refine wpAny_bind (wpAny_field g5 d5 h5 ?_)
    rw [if_neg (by simp)]
    have last : wpAny (model X.prog X.w) X.A (setFlight (.ref a) X.env.frame) (fun _ t4 => wpAny (model X.prog X.w) X.A (throw (.ref a) : Sem Flow) (SP X pins D) X.xe t4) X.xe { t with heap := hA } := by
      rw [hf]
      refine HandSPX.setFlight_upZ flA fun h6 hl6 up6 => wpAny_throw (tk _ _ ⟨a, B, t0, pins, τ, G, cls, d, rfl, J, nb, (up.trans upA).trans up6, ?_, na, os, ag, hw⟩)
      rw [hs]
      exact .inr (.inr hl6)
    first
      | exact wpAny_bind (wpAny_pure (wpAny_bind last))
      | exact wpAny_bind last
  | @cons x c ts s0 su np ps hds2 l2 hc hsu r ih =>
    obtain ⟨yes, hy, hyes, hno⟩ := hw
    refine wpAny_handleBy_cons (codeAny_handlers_test ?_) (fun q => nomatch q)
    have fits := PySem.W.exm_one (M := model X.prog X.w) JA.kIn (fun A Q E r k q => wpAny_typeOf_ref (k _ _ gA) (by rw [zA.1]; exact q)) hy
    have name : ∀ {Q : Value → Shared → Prop} {E : Value → Shared → Prop}, Q c { t with heap := hA } → wpAny (model X.prog X.w) (X.A.mark (some (.ref a))) (eval (.Name x np) X.env) Q E { t with heap := hA } := by
      intro Q E q
      rcases hc with ⟨g, db, m | ⟨m, v, nn⟩⟩
      · exact ld_glob (X := X.suite a ((a, oA) :: (X.pn ++ pins))) SA g m q db
      · exact ld_blt (X := X.suite a ((a, oA) :: (X.pn ++ pins))) SA g m v q nn db
    refine name (fits.here ?_)
    cases yes with
    | false => exact ih (hno rfl)
    | true =>
      refine codeAny_handlers_suite_as (HandSPX.lands_againZ flA fun hC flC upC => ?_)
      have JC : Inv X pins τ G { t with heap := hC } := J.landed nb flC.1 ((up.trans upA).trans upC) os ag
      obtain ⟨oC, vC, gC, zC, dC⟩ := flC.there
      refine store_ok (X := X.suite a ((a, oC) :: (X.pn ++ pins))) (v := .ref a) (JC.suite gC dC na nL nF) hN hi (.inl hln) rfl (fun t5 S5 => ?_) (.inr hln)
      refine wpAny_mono ((hsu a oC cls d (X.pn ++ pins) zC ⟨_, dC⟩).run [] t5 _ G _ S5 (hyes rfl a na)) (fun f t6 got => ?_) (fun _ _ z => z.elim)
      have plain : ∀ {τ6 : L2.St} {G6 : Hp} {Q : Shared → Prop}, Inv (X.suite a ((a, oC) :: (X.pn ++ pins))) [] τ6 G6 t6 → (∀ t7, Inv X pins (τ6.set i none) G6 t7 → Q t7) →
          wpAny (model X.prog X.w) X.A (do bindName X.env n .none; unbindBehindTheSuite X.env n ps) (fun _ t7 => Q t7) X.xe t6 := fun S q => gone_ok (S.unsuite ok) hN hi hln q
      cases f with
      | next =>
        obtain ⟨_, _, S6, q6⟩ := got
        exact plain S6 fun _ J7 => ⟨_, _, J7, q6⟩
      | brk =>
        obtain ⟨_, _, S6, q6⟩ := got
        exact plain S6 fun _ J7 => ⟨_, _, J7, q6⟩
      | cont =>
        obtain ⟨_, _, S6, q6⟩ := got
        exact plain S6 fun _ J7 => ⟨_, _, J7, q6⟩
      | ret v =>
        obtain ⟨_, _, _, S6, r6, q6⟩ := got
        exact plain S6 fun _ J7 => ⟨_, _, _, J7, r6, q6⟩
/-- try: body / except x as n: suite / except y as n: suite .. -/
theorem ps_try_asL (hs : X.stack = X.env :: X.outer) (hf : X.env.frame = some X.env.locals) (hN : X.N.Nodup) (hi : X.N[i]? = some n) (hln : X.env.kindOf n = some .local) (tk : Takes X Wout)
    (hb : ∀ (W : WX) (pn : List (Addr × Obj)) (xe : Value → Shared → Prop), Takes (X.tr pn xe) W → PassesOwn (model X.prog X.w) X.A X.env xe → PSs (X.tr pn xe) bd (tb W))
    (hh : HdsA X n (h0 :: hds) l) : PS X (.Try bd (h0 :: hds) [] [] pt) (fun D σ H => tb (wAsL X.K i Wout D l) D σ H) := by
  refine ⟨fun pins s σ H D I h => wpAny_Try_except ?_⟩
  have ok := I.ok
  refine wpAny_mono ((hb _ (X.pn ++ pins) _ (fun u t xx => asL_catch (pn' := []) hs hf hN hi hln tk hh ok xx) PassesOwn.looking).run [] s σ H D (I.toTry _) h) (fun f t got => ?_) (fun _ _ z => z)
  cases f with
  | next =>
    obtain ⟨_, _, S, q⟩ := got
    exact wpAny_execs_nil ⟨_, _, S.ofTry ok, q⟩
  | brk =>
    obtain ⟨_, _, S, q⟩ := got
    exact ⟨_, _, S.ofTry ok, q⟩
  | cont =>
    obtain ⟨_, _, S, q⟩ := got
    exact ⟨_, _, S.ofTry ok, q⟩
  | ret v =>
    obtain ⟨_, _, _, S, r, q⟩ := got
    exact ⟨_, _, _, S.ofTry ok, r, q⟩
end
variable {K : PySem.W.Frag} {Wx Wout : WX} {RE : REx}
/-- try .. except c as n .. except c2 as n -/
@[reducible] def tryB2 (K : PySem.W.Frag) (c c2 : Value) (i : Nat) (TB : REx → TDS) (TU TU2 : Addr → Value → Option Addr → TDS) (RE : REx) : TDS := fun D ρ M => TB (fun x ρ' M' => gO (PySem.W.exmOne K x.cls c) fun yes => IfB yes
  (match x.cls with | .ref C => ∀ a dd, TU a (.ref C) dd ⟨fun ρ2 M2 => D.nx (put ρ2 i none) M2, D.rt, fun ρ2 M2 => D.bk (put ρ2 i none) M2, fun ρ2 M2 => D.ct (put ρ2 i none) M2⟩ (put ρ' i (some (.x a C dd x.fs))) M' | _ => False)
  (gO (PySem.W.exmOne K x.cls c2) fun yes => IfB yes
  (match x.cls with | .ref C => ∀ a dd, TU2 a (.ref C) dd ⟨fun ρ2 M2 => D.nx (put ρ2 i none) M2, D.rt, fun ρ2 M2 => D.bk (put ρ2 i none) M2, fun ρ2 M2 => D.ct (put ρ2 i none) M2⟩ (put ρ' i (some (.x a C dd x.fs))) M' | _ => False) (RE x ρ' M'))) D ρ M
end Tl
set_option Elab.async false
set_option linter.all false
set_option maxRecDepth 100000
set_option maxHeartbeats 4000000
set_option Elab.async false
set_option linter.all false
set_option maxRecDepth 100000
set_option maxHeartbeats 4000000
/-! Dicts keyed by tuples of numbers: {}, d[k], d[k] = v, k in d. -/
namespace Tl
open PySem PySem.Spec PyProof.Rows L2
/-! ### as the hand layer asks -/
structure IsU (K : PySem.W.Frag) (H : Hp) (x : V) (a : Addr) (xs : List DU1) : Prop where
  e : x = .ref a
  h : H a = some (DU a xs)
  k : KeysU K H a xs
structure IsK (K : PySem.W.Frag) (H : Hp) (y : V) (b : Addr) (k : NestedKey) : Prop where
  e : y = .ref b
  h : KeyV K H (.ref b) k
  d : k.depth ≤ 8
def tUGet (K : PySem.W.Frag) (td ty : TE) : TE := fun σ H Q => td σ H fun x H1 => ty σ H1 fun y H2 => ∃ a b xs k v, IsU K H2 x a xs ∧ IsK K H2 y b k ∧ findU xs k = some v ∧ Q v H2
def rNotInU (K : PySem.W.Frag) : R2 := fun y x H Q => ∃ a b xs k, IsU K H x a xs ∧ IsK K H y b k ∧ Q (.bl (!(findU xs k).isSome)) H
def rSetU (K : PySem.W.Frag) : V → V → V → Hp → (Hp → Prop) → Prop := fun o i v H Q => ∃ a b xs k, IsU K H o a xs ∧ IsK K H i b k ∧ noTxt k = true ∧ xs.length < sizeLine ∧ Q (upd H a (DU a (putU xs k b v)))
def tUNew : TE := fun _ H Q => ∀ p, H p = none → (p == sysModules) = false → Q (.ref p) (upd H p (DU p []))
section
variable {X : Cx} {o i : Expr} {pos : Pos} {td ty : TE}
theorem pe_unew : PE X (.Dict [] [] pos) tUNew := ⟨fun pins s σ H Q I h =>
  wpAny_Dict_empty ⟨.ref s.heap.objs.size, _, I.laid (a := s.heap.objs.size) (o := DU s.heap.objs.size []) (t' := s.toks) (fun _ _ q => Heap.get?_push_of_some _ q) (Nat.le_refl _) (du_empty s.heap), rfl, h _ (I.hok.fresh (Nat.le_refl _)) (beq_eq_false_iff_ne.mpr (Ne.symm (Nat.ne_of_lt I.big)))⟩⟩
theorem pe_uget (hu : X.A.units + 20 < cLine) (ho : PE X o td) (hi : PE X i ty) (hs : NoSl i) : PE X (.Subscript o i pos) (tUGet X.K td ty) := by
  refine ⟨fun pins s σ H Q I h => ?_⟩
  refine subD_of PySem.F.slot_dict_getitem.lookup hs (thn (ho.run pins s σ H _ I h) fun u s1 ⟨x, H1, I1, rx, q1⟩ => thn (hi.run pins s1 σ H1 _ I1 q1) fun iv s2 ⟨y, H2, I2, ry, a, b, xs, k, v, ⟨ex, ea, eu⟩, ⟨ey, ek, ed⟩, hf, q2⟩ => ?_)
  subst ex ey
  obtain rfl : u = Value.ref a := rx
  obtain rfl : iv = Value.ref b := ry
  obtain ⟨ys, _, dd, _⟩ := DU_of I2 ea eu
  exact ⟨dd.typeIs, u_getItem hu I2 ea eu ek ed hf fun w' s3 I3 rw' => ⟨v, H2, I3, rw', q2⟩⟩
theorem op_notInU (hu : X.A.units + 20 < cLine) : OpR X (compareOp .NotIn) (rNotInU X.K) := by
  intro pins s σ H y x v u Q I ry rx h
  obtain ⟨a, b, xs, k, ⟨ex, ea, eu⟩, ⟨ey, ek, ed⟩, q⟩ := h
  subst ex ey
  obtain rfl : u = Value.ref a := rx
  obtain rfl : v = Value.ref b := ry
  exact u_notIn hu I ea eu ek ed fun s' I' => ⟨.bl _, H, I', rfl, q⟩
theorem set_U (hu : X.A.units + 20 < cLine) : PSet X (rSetU X.K) := by
  intro pins s σ H o i v ov iv u Q I ro ri rv h
  obtain ⟨a, b, xs, k, ⟨ex, ea, eu⟩, ⟨ey, ek, ed⟩, hn, hz, q⟩ := h
  subst ex ey
  obtain rfl : ov = Value.ref a := ro
  obtain rfl : iv = Value.ref b := ri
  exact u_setItem hu I ea eu ek ed hn hz rv fun s' I' => ⟨_, I', q⟩
end
/-! ### as memory tells -/
def valU (kw : List (PyData × W)) (k : PyData) : Option W := (kw.find? fun x => decide (keyN x.1 = keyN k)).map (·.2)
def putW2 (kw : List (PyData × W)) (k : PyData) (w : W) : List (PyData × W) := if (valU kw k).isSome then kw.map (fun x => if keyN x.1 = keyN k then (x.1, w) else x) else kw ++ [(k, w)]
section
variable {K : PySem.W.Frag} {F H : Hp} {M : Mem}
theorem Rl.dT (h : Rl K F H M) {a : Addr} {kw : List (PyData × W)} (e : M a = some (.dT kw)) : ∃ xs, IsU K H (.ref a) a xs ∧ KeysU K F a xs ∧ xs.map (·.1) = kw.map (fun x => keyN x.1) ∧ (∀ x ∈ kw, keyOk x.1 = true) ∧ RWs K F (xs.map (·.2.2)) (kw.map (·.2)) := by
  obtain ⟨_, h1, xs, rfl, h2, h3, h4, h5⟩ := h.at_ a _ e
  exact ⟨xs, ⟨rfl, h1, h2.mono h.fh⟩, h2, h3, h4, h5⟩
theorem find_U {F : Hp} : ∀ {xs : List DU1} {kw : List (PyData × W)} (k : PyData), xs.map (·.1) = kw.map (fun x => keyN x.1) → RWs K F (xs.map (·.2.2)) (kw.map (·.2)) → (∀ w, valU kw k = some w → ∃ v, findU xs (keyN k) = some v ∧ RW K F v w) ∧ (valU kw k = none → findU xs (keyN k) = none)
  | [], [], k, _, _ => ⟨fun w h => (by simp [valU] at h), fun _ => rfl⟩
  | [], _ :: _, _, h, _ => by simp at h
  | _ :: _, [], _, h, _ => by simp at h
  | (kx, ax, vx) :: xs, (d, w) :: kw, k, h, r => by
    rw [List.map_cons, List.map_cons] at h r
    injection h with h1 h2
    simp only at h1
    cases r with
    | cons r1 r2 =>
      obtain ⟨i1, i2⟩ := find_U k h2 r2
      unfold valU findU at i1 i2 ⊢
      by_cases e : keyN d = keyN k
      · rw [List.find?_cons_of_pos (by simpa using e), List.find?_cons_of_pos (by simp only [decide_eq_true_eq]; exact h1.trans e)]
        exact ⟨fun w' hw => (by cases hw; exact ⟨vx, rfl, r1⟩), fun z => nomatch z⟩
      · rw [List.find?_cons_of_neg (by simpa using e), List.find?_cons_of_neg (by simp only [decide_eq_true_eq]; exact fun z => e (h1.symm.trans z))]
        exact ⟨i1, i2⟩
theorem some_U {F : Hp} {xs : List DU1} {kw : List (PyData × W)} (k : PyData) (h : xs.map (·.1) = kw.map (fun x => keyN x.1)) (r : RWs K F (xs.map (·.2.2)) (kw.map (·.2))) : (findU xs (keyN k)).isSome = (valU kw k).isSome := by
  obtain ⟨i1, i2⟩ := find_U k h r
  cases c : valU kw k with
  | none => rw [i2 c]; rfl
  | some w =>
    obtain ⟨v, e, _⟩ := i1 w c
    rw [e]
    rfl
theorem put_U {F : Hp} {xs : List DU1} {kw : List (PyData × W)} {k : PyData} {b : Addr} {v : V} {w : W} (h : xs.map (·.1) = kw.map (fun x => keyN x.1)) (r : RWs K F (xs.map (·.2.2)) (kw.map (·.2))) (rv : RW K F v w) :
    (putU xs (keyN k) b v).map (·.1) = (putW2 kw k w).map (fun x => keyN x.1) ∧ RWs K F ((putU xs (keyN k) b v).map (·.2.2)) ((putW2 kw k w).map (·.2)) := by
  have e := some_U k h r
  unfold putU putW2
  rw [e]
  split
  · rename_i hc
    clear hc e
    induction xs generalizing kw with
    | nil => cases kw with
      | nil => exact ⟨rfl, .nil⟩
      | cons y kw => simp at h
    | cons x xs ih => cases kw with
      | nil => simp at h
      | cons y kw =>
        obtain ⟨kx, ax, vx⟩ := x
        obtain ⟨d, w'⟩ := y
        rw [List.map_cons, List.map_cons] at h r
        injection h with h1 h2
        simp only at h1
        cases r with
        | cons r1 r2 =>
          obtain ⟨j1, j2⟩ := ih h2 r2
          subst h1
          simp only [List.map_cons]
          by_cases c : keyN d = keyN k
          · rw [if_pos c, if_pos c]
            exact ⟨by rw [j1], .cons rv j2⟩
          · rw [if_neg c, if_neg c]
            exact ⟨by rw [j1], .cons r1 j2⟩
  · rename_i hc
    clear hc e
    rw [List.map_append, List.map_append, List.map_append, List.map_append, h]
    refine ⟨rfl, ?_⟩
    generalize xs.map (·.2.2) = us at r
    generalize kw.map (·.2) = ws at r
    induction r with
    | nil => exact .cons rv .nil
    | cons a b ih => exact .cons a ih
theorem keys_put {F : Hp} {a : Addr} {xs : List DU1} {k : NestedKey} {b : Addr} {v : V} (h : KeysU K F a xs) (hk : KeyV K F (.ref b) k) (hd : k.depth ≤ 8) (hn : noTxt k = true) (hz : xs.length < sizeLine) : KeysU K F a (putU xs k b v) := by
  unfold putU
  split
  · refine ⟨h.sm, by rw [List.length_map]; exact h.sz, ?_, fun x hx => ?_⟩
    · have e : (xs.map fun x => if x.1 = k then (x.1, x.2.1, v) else x).map (·.1) = xs.map (·.1) := by
        rw [List.map_map]
        refine List.map_congr_left fun x _ => ?_
        show (if x.1 = k then (x.1, x.2.1, v) else x).1 = x.1
        split <;> rfl
      rw [e]
      exact h.nd
    · obtain ⟨y, hy, rfl⟩ := List.mem_map.mp hx
      have := h.ks y hy
      split
      · exact this
      · exact this
  · rename_i c
    refine ⟨h.sm, by rw [List.length_append]; exact hz, ?_, fun x hx => ?_⟩
    · rw [List.map_append, List.nodup_append]
      refine ⟨h.nd, by simp, fun x hx y hy e => ?_⟩
      simp only [List.map_cons, List.map_nil, List.mem_singleton] at hy
      subst hy
      subst e
      obtain ⟨z, hz, rfl⟩ := List.mem_map.mp hx
      refine c ?_
      unfold findU
      rw [Option.isSome_map]
      exact List.find?_isSome.mpr ⟨z, hz, by simp⟩
    · rcases List.mem_append.mp hx with hx | hx
      · exact h.ks x hx
      · rw [List.mem_singleton.mp hx]
        exact ⟨hk, hd, hn⟩
theorem ok_put {kw : List (PyData × W)} {k : PyData} {w : W} (h : ∀ x ∈ kw, keyOk x.1 = true) (hk : keyOk k = true) : ∀ x ∈ putW2 kw k w, keyOk x.1 = true := by
  unfold putW2
  intro x hx
  split at hx
  · obtain ⟨y, hy, rfl⟩ := List.mem_map.mp hx
    split
    · exact h y hy
    · exact h y hy
  · rcases List.mem_append.mp hx with hx | hx
    · exact h x hx
    · rw [List.mem_singleton.mp hx]; exact hk
end
/-- a key that is asked for -/
@[reducible] def gU (x : W) (k : PyData → Prop) : Prop := gT x fun ds => (keyOk (.tuple ds) = true ∧ (PyData.tuple ds).depth ≤ 8) ∧ k (.tuple ds)
section
variable {K : PySem.W.Frag} {Wx : WX} {RE : REx}
theorem gU_of {F H : Hp} {M : Mem} {v : V} {x : W} {k : PyData → Prop} (hr : Rl K F H M) (r : RW K F v x) (h : gU x k) : ∃ d b, x = .d d ∧ v = .ref b ∧ IsK K H v b (keyN d) ∧ KeyV K F (.ref b) (keyN d) ∧ (keyN d).depth ≤ 8 ∧ keyOk d = true ∧ k d := by
  obtain ⟨ds, rfl, ⟨h1, h2⟩, h3⟩ := gT_of h
  obtain ⟨b, xs, rfl, q1, q2⟩ := r.tup
  have kv := keyV_of (.tuple ds) _ (Dx.tup q1 q2) h1
  have kd := Nat.le_trans (keyN_depth (.tuple ds)) h2
  exact ⟨.tuple ds, b, rfl, rfl, ⟨rfl, KeyV.mono hr.fh _ _ kv, kd⟩, kv, kd, h1, h3⟩
/-- {} -/
@[reducible] def newUT : TDE := fun _ M R => ∀ p, M p = none → R (.r p) (mset M p (.dT []))
theorem se_newU : SE K Wx RE tUNew newUT := fun F H M σ ρ R Q hr hx hs ht k p hp hsm => by
  obtain ⟨r1, g1⟩ := hr.born (u := DU p []) (o := .dT []) hp ⟨[], rfl, ⟨hsm, Nat.zero_le _, List.nodup_nil, fun x hx => (by cases hx)⟩, rfl, (fun x hx => by cases hx), .nil⟩
  exact k _ _ _ _ _ r1 g1 (.r p) (ht p (hr.new hp))
/-- d[k] -/
@[reducible] def getU (O I : TDE) : TDE := fun ρ M R => O ρ M fun x M1 => I ρ M1 fun i M2 => gR x fun a => gU i fun k => ∃ kw, M2 a = some (.dT kw) ∧ gO (valU kw k) fun w => R w M2
theorem se_getU {td ty : TE} {O I : TDE} (h1 : SE K Wx RE td O) (h2 : SE K Wx RE ty I) : SE K Wx RE (tUGet K td ty) (getU O I) := fun F H M σ ρ R Q hr hx hs ht k =>
  h1 F H M σ ρ _ _ hr hx hs ht fun v H1 F1 M1 x r1 g1 rx q1 => h2 F1 H1 M1 σ ρ _ _ r1 (hx.mono g1) (hs.mono g1.ff) q1 fun v2 H2 F2 M2 x2 r2 g2 rx2 q3 => by
    obtain ⟨a, rfl, q2⟩ := gR_of q3
    obtain ⟨d, b, rfl, rfl, ik, _, _, _, kw, e, q4⟩ := gU_of r2 rx2 q2
    obtain ⟨w, c, q5⟩ := gO_of q4
    obtain ⟨xs, iu, _, e1, _, e2⟩ := r2.dT e
    obtain ⟨v3, e3, e4⟩ := (find_U d e1 e2).1 w c
    rw [(rx.mono g2.ff).ref]
    exact ⟨a, b, xs, keyN d, v3, iu, ik, e3, k _ _ _ _ _ r2 (g1.trans g2) e4 q5⟩
/-- k in d -/
@[reducible] def fInU (neg : Bool) : F2 := fun i x M R => gR x fun a => gU i fun k => ∃ kw, M a = some (.dT kw) ∧ R (.d (.bool (ng neg (valU kw k).isSome))) M
theorem so_ninU : SO K (rNotInU K) (fInU true) := fun F H M v u x y R Q hr rx ry hf k => by
  obtain ⟨a, rfl, q2⟩ := gR_of hf
  obtain ⟨d, b, rfl, rfl, ik, _, _, _, kw, e, q4⟩ := gU_of hr rx q2
  obtain ⟨xs, iu, _, e1, _, e2⟩ := hr.dT e
  rw [ry.ref]
  refine ⟨a, b, xs, keyN d, iu, ik, ?_⟩
  rw [some_U d e1 e2]
  exact k _ H F M _ hr .refl (.d (.bl _)) q4
/-- d[k] = v -/
@[reducible] def setU (T O I : TDE) : TDS := fun D ρ M => T ρ M fun y M1 => O ρ M1 fun x M2 => I ρ M2 fun i M3 => gR x fun a => gU i fun k => ∃ kw, M3 a = some (.dT kw) ∧ kw.length < sizeLine ∧ D.nx ρ (mset M3 a (.dT (putW2 kw k y)))
theorem ss_setU {t to ti : TE} {T O I : TDE} (h1 : SE K Wx RE t T) (h2 : SE K Wx RE to O) (h3 : SE K Wx RE ti I) : SSt K Wx RE (tAsg t (gSub to ti (rSetU K))) (setU T O I) := fun F H M σ ρ D E hr hx hs ht k =>
  h1 F H M σ ρ _ _ hr hx hs ht fun v H1 F1 M1 x r1 g1 rx q1 => h2 F1 H1 M1 σ ρ _ _ r1 (hx.mono g1) (hs.mono g1.ff) q1 fun v2 H2 F2 M2 x2 r2 g2 rx2 q2 =>
    h3 F2 H2 M2 σ ρ _ _ r2 (hx.mono (g1.trans g2)) (hs.mono (g1.trans g2).ff) q2 fun v3 H3 F3 M3 x3 r3 g3 rx3 q3 => by
      obtain ⟨a, rfl, q4⟩ := gR_of q3
      obtain ⟨d, b, rfl, rfl, ik, kv, kd, ko, kw, e, hl, q5⟩ := gU_of r3 rx3 q4
      obtain ⟨xs, iu, ku, e1, e3, e2⟩ := r3.dT e
      have hn := keyN_noTxt d ko
      have hz : xs.length < sizeLine := by
        have := congrArg List.length e1
        rw [List.length_map, List.length_map] at this
        omega
      have rv := rx.mono (g2.trans g3).ff
      obtain ⟨p1, p2⟩ := put_U (k := d) (b := b) e1 e2 rv
      obtain ⟨r4, g4⟩ := r3.put (u := DU a (putU xs (keyN d) b v)) (o := .dT (putW2 kw d x)) e ⟨_, rfl, keys_put ku kv kd hn hz, p1, ok_put e3 ko, p2⟩
      have g := ((g1.trans g2).trans g3).trans g4
      have e4 := (rx2.mono g3.ff).ref
      rw [e4]
      exact ⟨a, b, xs, keyN d, iu, ik, hn, hz, k.nx σ _ _ _ ρ r4 g (hs.mono g.ff) q5⟩
end
end Tl
set_option Elab.async false
set_option linter.all false
set_option maxRecDepth 100000
set_option maxHeartbeats 4000000
/-! Objects of own classes, as gen2 writes them: methods, makers, try .. finally, a suite that is never run. -/
set_option Elab.async false
set_option linter.all false
set_option maxRecDepth 100000
set_option maxHeartbeats 4000000
/-! dict(xs), xs a list of pairs (tuple of numbers, value). -/
namespace Tl
open PySem PySem.Spec PyProof.Rows L2
/-! ### as memory tells -/
theorem hu20 {k : Nat} {A : Around} (hr : Room k A) : A.units + 20 < cLine := by have := hr.un; omega
/-! ### xs.index(x), data -/
/-! ### ord(x) -/
end Tl
set_option Elab.async false
set_option linter.all false
set_option maxRecDepth 100000
set_option maxHeartbeats 4000000
/-! len of a dict keyed by tuples. -/
namespace Tl
open PySem PySem.Spec PyProof.Rows L2
def rLenU (K : PySem.W.Frag) : List V → Hp → VK → Prop := fun vs H Q => ∃ (v : V) (a : Addr) (xs : List DU1), vs = [v] ∧ IsU K H v a xs ∧ Q (.int (xs.length : Nat)) H
theorem call_lenU {X : Cx} : CallR X (.builtin "len") (rLenU X.K) := by
  intro pins s σ H vs us Q I r h
  obtain ⟨v, a, xs, rfl, ⟨rfl, ea, eu⟩, q⟩ := h
  obtain ⟨u, rfl, ru⟩ := vals1 r
  cases ru
  obtain ⟨ys, h1, dd, _⟩ := DU_of I ea eu
  have hz := eu.sz
  have hl := Paired.length h1
  refine call_len_dictH eu.sm dd (by rw [← hl]; rw [sizeLine_eq] at hz; omega) ?_
  rw [← hl]
  exact ⟨.int (xs.length : Nat), H, I.tok _, ⟨_, rfl⟩, q⟩
@[reducible] def fLenU : FL := fun xs M R => g1 xs fun x => gR x fun a => ∃ kw, M a = some (.dT kw) ∧ R (.d (.int (kw.length : Nat))) M
theorem sc_lenU {K : PySem.W.Frag} : SC K (rLenU K) fLenU := fun F H M vs xs R Q hr rx hf k => by
  obtain ⟨x, rfl, h1⟩ := g1_of hf
  obtain ⟨v, rfl, r⟩ := rx.one
  obtain ⟨a, rfl, kw, e, h2⟩ := gR_of h1
  obtain ⟨ys, iu, _, e1, _, _⟩ := hr.dT e
  rw [r.ref]
  refine ⟨_, a, ys, rfl, iu, ?_⟩
  have hl := congrArg List.length e1
  rw [List.length_map, List.length_map] at hl
  rw [hl]
  exact k _ H F M _ hr .refl (.d (.int _)) h2
end Tl
set_option Elab.async false
set_option linter.all false
set_option maxRecDepth 100000
set_option maxHeartbeats 4000000
/-! d.setdefault(k, x), d keyed by tuples. -/
set_option Elab.async false
set_option linter.all false
set_option maxRecDepth 100000
set_option maxHeartbeats 4000000
/-! Ties that are numbered: each tie that is not known yet is given the next number. -/
namespace Tl
open PySem L2
namespace Tie
open Classical in
/-- the number of a key, from 1 on -/
noncomputable def ixK : List PyData → PyData → Option Nat
  | [], _ => none
  | x :: r, k => if x = k then some 1 else (ixK r k).map (· + 1)
/-- the dict with these keys, numbered behind n -/
def kwF : Nat → List PyData → List (PyData × W)
  | _, [] => []
  | n, x :: r => (x, .d (.int ((n + 1 : Nat) : Int))) :: kwF (n + 1) r
theorem kwF_len : ∀ (n : Nat) (ks : List PyData), (kwF n ks).length = ks.length
  | _, [] => rfl
  | n, x :: r => by rw [kwF, List.length_cons, List.length_cons, kwF_len]
theorem kwF_app : ∀ (n : Nat) (ks : List PyData) (k : PyData), kwF n (ks ++ [k]) = kwF n ks ++ [(k, .d (.int ((n + ks.length + 1 : Nat) : Int)))]
  | _, [], _ => rfl
  | n, x :: r, k => by
    rw [List.cons_append, kwF, kwF_app, kwF, List.cons_append, List.length_cons, show n + 1 + r.length + 1 = n + (r.length + 1) + 1 by omega]
theorem valU_kwF {k : PyData} (hk : keyOk k = true) : ∀ (n : Nat) (ks : List PyData), (∀ x ∈ ks, keyOk x = true) → valU (kwF n ks) k = (ixK ks k).map fun i => W.d (.int ((n + i : Nat) : Int))
  | _, [], _ => rfl
  | n, x :: r, h => by
    have ih := valU_kwF hk (n + 1) r fun y hy => h y (.tail _ hy)
    unfold valU at ih ⊢
    rw [kwF, ixK]
    by_cases e : x = k
    · rw [if_pos e, List.find?_cons_of_pos (by simp [e])]
      rfl
    · rw [if_neg e, List.find?_cons_of_neg (by simp only [decide_eq_true_eq]; exact fun z => e (keyN_inj x k (h x (.head _)) hk z)), ih]
      cases ixK r k with
      | none => rfl
      | some i =>
        show some _ = some _
        dsimp only
        rw [show n + 1 + i = n + (i + 1) by omega]
theorem ixK_app : ∀ {ks : List PyData} {k : PyData} {i : Nat} (e : List PyData), ixK ks k = some i → ixK (ks ++ e) k = some i
  | [], _, _, _, h => by cases h
  | x :: r, k, i, e, h => by
    rw [ixK] at h
    rw [List.cons_append, ixK]
    split at h
    · rename_i c
      rw [if_pos c]
      exact h
    · rename_i c
      rw [if_neg c]
      cases c2 : ixK r k with
      | none => rw [c2] at h; cases h
      | some j =>
        rw [c2] at h
        rw [ixK_app e c2]
        exact h
theorem ixK_new : ∀ {ks : List PyData} {k : PyData}, ixK ks k = none → ixK (ks ++ [k]) k = some (ks.length + 1)
  | [], k, _ => by
    show ixK [k] k = _
    rw [ixK, if_pos rfl]
    rfl
  | x :: r, k, h => by
    rw [ixK] at h
    rw [List.cons_append, ixK]
    split at h
    · cases h
    · rename_i c
      rw [if_neg c]
      cases c2 : ixK r k with
      | none =>
        rw [ixK_new c2]
        rfl
      | some j => rw [c2] at h; cases h
def keyT (a : Nat) (x : PyData) (b : Nat) : PyData := .tuple [.int (a : Int), x, .int (b : Int)]
/-- one key asked, given a number where it has none -/
noncomputable def numK (ks : List PyData) (k : PyData) : List PyData × Nat := match ixK ks k with
  | some i => (ks, i)
  | none => (ks ++ [k], ks.length + 1)
noncomputable def num (ks : List PyData) : Tie → List PyData × Nat
  | nil => (ks, 0)
  | node l x r => numK (num (num ks l).1 r).1 (keyT (num ks l).2 x (num (num ks l).1 r).2)
/-- the number of a tie that is known -/
noncomputable def nbr (ks : List PyData) : Tie → Option Nat
  | nil => some 0
  | node l x r => (nbr ks l).bind fun a => (nbr ks r).bind fun b => ixK ks (keyT a x b)
theorem nbr_app {ks : List PyData} (e : List PyData) : ∀ {t : Tie} {i : Nat}, nbr ks t = some i → nbr (ks ++ e) t = some i
  | nil, i, h => h
  | node l x r, i, h => by
    rw [nbr] at h ⊢
    obtain ⟨a, ha, h⟩ := Option.bind_eq_some_iff.mp h
    obtain ⟨b, hb, h⟩ := Option.bind_eq_some_iff.mp h
    rw [nbr_app e ha, Option.bind_some, nbr_app e hb, Option.bind_some]
    exact ixK_app e h
theorem numK_ok (ks : List PyData) (k : PyData) : ∃ e, (numK ks k).1 = ks ++ e ∧ ixK (numK ks k).1 k = some (numK ks k).2 ∧ e.length ≤ 1 ∧ (∀ x ∈ e, x = k) := by
  unfold numK
  cases c : ixK ks k with
  | some i => exact ⟨[], by simp, c, by simp, by simp⟩
  | none => exact ⟨[k], rfl, ixK_new c, by simp, by simp⟩
theorem num_ok : ∀ (t : Tie) (ks : List PyData), ∃ e, (num ks t).1 = ks ++ e ∧ nbr (num ks t).1 t = some (num ks t).2
  | nil, ks => ⟨[], by simp [num], rfl⟩
  | node l x r, ks => by
    obtain ⟨e1, h1, h2⟩ := num_ok l ks
    obtain ⟨e2, h3, h4⟩ := num_ok r (num ks l).1
    obtain ⟨e3, h5, h6, _⟩ := numK_ok (num (num ks l).1 r).1 (keyT (num ks l).2 x (num (num ks l).1 r).2)
    rw [num]
    refine ⟨e1 ++ e2 ++ e3, by rw [h5, h3, h1]; simp, ?_⟩
    have q1 := nbr_app e3 (nbr_app e2 h2)
    have q2 := nbr_app e3 h4
    rw [← h3, ← h5] at q1
    rw [← h5] at q2
    rw [nbr, q1, Option.bind_some, q2, Option.bind_some]
    exact h6
def Kn (ks : List PyData) : Tie → Prop := fun t => ∃ i, nbr ks t = some i
/-- several, one behind another -/
noncomputable def nums : List PyData → List Tie → List PyData
  | ks, [] => ks
  | ks, t :: r => nums (num ks t).1 r
/-- items that are numbers -/
def AllInt (t : Tie) : Prop := ∀ x ∈ its t, ∃ i : Int, x = .int i
theorem AllInt.kids {l r : Tie} {x : PyData} (h : AllInt (node l x r)) : AllInt l ∧ (∃ i : Int, x = .int i) ∧ AllInt r :=
  ⟨fun y hy => h y (by rw [its]; exact List.mem_append_left _ hy), h x (by rw [its]; exact List.mem_append_right _ (.head _)), fun y hy => h y (by rw [its]; exact List.mem_append_right _ (.tail _ hy))⟩
theorem keyT_ok {a b : Nat} {x : PyData} (h : ∃ i : Int, x = .int i) : keyOk (keyT a x b) = true := by
  obtain ⟨i, rfl⟩ := h
  rfl
def KsOk (ks : List PyData) : Prop := ∀ x ∈ ks, keyOk x = true
theorem num_ks : ∀ {t : Tie} {ks : List PyData}, KsOk ks → AllInt t → KsOk (num ks t).1
  | nil, ks, h, _ => h
  | node l x r, ks, h, hi => by
    obtain ⟨h1, h2, h3⟩ := hi.kids
    have i1 := num_ks h h1
    have i2 := num_ks i1 h3
    obtain ⟨e, h5, _, _, h8⟩ := numK_ok (num (num ks l).1 r).1 (keyT (num ks l).2 x (num (num ks l).1 r).2)
    rw [num, h5]
    intro y hy
    rcases List.mem_append.mp hy with hy | hy
    · exact i2 y hy
    · rw [h8 y hy]
      exact keyT_ok h2
theorem num_sz : ∀ (t : Tie) (ks : List PyData), (num ks t).1.length ≤ ks.length + sz t
  | nil, ks => Nat.le_refl _
  | node l x r, ks => by
    have i1 := num_sz l ks
    have i2 := num_sz r (num ks l).1
    obtain ⟨e3, h5, _, h7, _⟩ := numK_ok (num (num ks l).1 r).1 (keyT (num ks l).2 x (num (num ks l).1 r).2)
    rw [num, h5, List.length_append, sz]
    omega
def szs : List Tie → Nat
  | [] => 0
  | t :: r => sz t + szs r
theorem nums_sz : ∀ (ts : List Tie) (ks : List PyData), (nums ks ts).length ≤ ks.length + szs ts
  | [], ks => Nat.le_refl _
  | t :: r, ks => by
    have i1 := num_sz t ks
    have i2 := nums_sz r (num ks t).1
    rw [nums, szs]
    omega
theorem nums_ks : ∀ {ts : List Tie} {ks : List PyData}, KsOk ks → (∀ t ∈ ts, AllInt t) → KsOk (nums ks ts)
  | [], ks, h, _ => h
  | t :: r, ks, h, hi => by
    rw [nums]
    exact nums_ks (num_ks h (hi t (.head _))) fun u hu => hi u (.tail _ hu)
theorem nums_mid : ∀ (a : List Tie) (t : Tie) (ks : List PyData), nums ks (a ++ [t]) = (num (nums ks a) t).1
  | [], t, ks => rfl
  | u :: r, t, ks => by rw [List.cons_append, nums, nums_mid, nums]
/-- what is new in t beside ts -/
noncomputable def newN (ts : List Tie) (t : Tie) : Nat := (num (nums [] ts) t).1.length - (nums [] ts).length
theorem kwF_put {k : PyData} {ks : List PyData} (hk : keyOk k = true) (h : KsOk ks) (c : ixK ks k = none) : putW2 (kwF 0 ks) k (.d (.int ((ks.length + 1 : Nat) : Int))) = kwF 0 (ks ++ [k]) := by
  unfold putW2
  rw [valU_kwF hk 0 ks h, c, if_neg (by simp), kwF_app, Nat.zero_add]
end Tie
end Tl
set_option Elab.async false
set_option linter.all false
set_option maxRecDepth 100000
set_option maxHeartbeats 8000000
namespace Tl
open PySem L2 RZ Tie
local macro_rules
  | `(tactic| decreasing_trivial) => `(tactic| ((with_reducible (conv => whnf)); (repeat ((first | (with_reducible refine gTie_i ?_) | (with_reducible refine gTie_n ?_) | (with_reducible refine gTie_4 ?_) | (with_reducible refine gDs_c ?_) | (with_reducible refine gDs_n ?_) | (with_reducible refine gNs_c ?_) | (with_reducible refine gNs_n ?_) | (with_reducible refine gO_i tyAny_lt ?_) | (with_reducible refine gIs_c ?_) | (with_reducible refine gIs_n ?_) | (with_reducible refine gBs_c ?_) | (with_reducible refine gBs_n ?_) | (with_reducible refine gSs_c ?_) | (with_reducible refine gSs_n ?_) | (with_reducible refine gO_i tyIs_int ?_) | (with_reducible refine gO_i tyIs_bool ?_) | (with_reducible refine gO_i tyIs_str ?_) | (with_reducible refine gO_i tyIs_tuple ?_) | (with_reducible refine gO_i tyIs_list ?_) | (with_reducible refine gDs_i ?_) | (with_reducible refine gO_i (Eq.refl _) ?_) | (with_reducible refine gO_i (by assumption) ?_) | (with_reducible refine gO_i at_0 ?_) | (with_reducible refine gO_i at_m0 ?_) | (with_reducible refine gO_i at_1 ?_) | (with_reducible refine gO_i at_m1 ?_) | (with_reducible refine gO_i at_2 ?_) | (with_reducible refine gO_i at_m2 ?_) | (with_reducible refine gO_i at_3 ?_) | (with_reducible refine gO_i at_m3 ?_) | (with_reducible refine gO_i at_4 ?_) | (with_reducible refine gO_i at_m4 ?_) | (with_reducible refine gO_i at_5 ?_) | (with_reducible refine gO_i at_m5 ?_) | (with_reducible refine gO_i at_6 ?_) | (with_reducible refine gO_i at_m6 ?_) | (with_reducible refine gO_i at_7 ?_) | (with_reducible refine gO_i at_m7 ?_) | (with_reducible refine IfB.ngf ?_) | (with_reducible refine IfB.ngt ?_) | (with_reducible refine IfB.not ?_) | (with_reducible refine IfB.nil ?_) | (with_reducible refine IfB.nilT ?_) | (with_reducible refine IfB.f isE_c ?_) | (with_reducible refine IfB.t isE_n ?_) | (with_reducible refine IfB.t ?gha ?_; (case gha => rfl)) | (with_reducible refine IfB.f ?gha ?_; (case gha => rfl)) | (with_reducible refine IfB.t ?gha ?_; (case gha => assumption)) | (with_reducible refine IfB.f ?gha ?_; (case gha => assumption)) | (with_reducible refine IfB.yes (Eq.refl _) ?_) | (with_reducible refine IfB.yes ?gha ?_; (case gha => (first | omega | (simp only [len_c, len_n, List.length_map]; omega)))) | (with_reducible refine IfB.no ?gha ?_; (case gha => (first | omega | (simp only [len_c, len_n, List.length_map]; omega)))) | (with_reducible refine IfB.t ?gha ?_; (case gha => decide +kernel)) | (with_reducible refine IfB.f ?gha ?_; (case gha => decide +kernel))); (with_reducible (conv => whnf))))))
local macro_rules
  | `(tactic| decreasing_trivial_pre_omega) => `(tactic| (decreasing_trivial; (repeat ((first | ((with_reducible refine And.intro ?gha ?_); (case gha => (first | assumption | omega | exact rfl | (exact mset_same) | (exact ⟨_, mset_same⟩) | (exact Exists.intro _ (by first | exact mset_same | assumption | (rw [mset_ne (by assumption)]; first | exact mset_same | assumption))) | (exact sm_of (by omega) (by omega)) | (exact sz1000 (by first | omega | (simp; done) | (simp; omega))) | (exact Or.inl ⟨by decide, by decide⟩) | decide | (simp; done) | (refine ⟨?_, ?_⟩ <;> (first | assumption | omega | exact rfl | (exact mset_same) | (exact ⟨_, mset_same⟩) | (exact Exists.intro _ (by first | exact mset_same | assumption | (rw [mset_ne (by assumption)]; first | exact mset_same | assumption))) | (exact sm_of (by omega) (by omega)) | (exact sz1000 (by first | omega | (simp; done) | (simp; omega))) | (exact Or.inl ⟨by decide, by decide⟩) | decide | (simp; done))) | (refine ⟨?_, ?_, ?_⟩ <;> (first | assumption | omega | exact rfl | (exact mset_same) | (exact ⟨_, mset_same⟩) | (exact Exists.intro _ (by first | exact mset_same | assumption | (rw [mset_ne (by assumption)]; first | exact mset_same | assumption))) | (exact sm_of (by omega) (by omega)) | (exact sz1000 (by first | omega | (simp; done) | (simp; omega))) | (exact Or.inl ⟨by decide, by decide⟩) | decide | (simp; done))) | (refine ⟨?_, ?_, ?_, ?_⟩ <;> (first | assumption | omega | exact rfl | (exact mset_same) | (exact ⟨_, mset_same⟩) | (exact Exists.intro _ (by first | exact mset_same | assumption | (rw [mset_ne (by assumption)]; first | exact mset_same | assumption))) | (exact sm_of (by omega) (by omega)) | (exact sz1000 (by first | omega | (simp; done) | (simp; omega))) | (exact Or.inl ⟨by decide, by decide⟩) | decide | (simp; done)))))) | (with_reducible refine exW (by first | exact mset_same | assumption | (rw [mset_ne (by assumption)]; first | exact mset_same | assumption)) ?_)); decreasing_trivial))))
@[reducible] def tfMany : TF := fun ws M R _ => g1 ws fun x => gTie x fun t => R (.d (.int (sz t : Nat))) M
@[reducible] def tfKnit : TF := fun ws M R _ => match ws with | [a, .d it, c] => gTie a fun l => gTie c fun r => R (.d (toD (node l it r))) M | _ => False
@[reducible] def tfSingle : TF := fun ws M R _ => g1 ws fun x => gD x fun it => R (.d (toD (node nil it nil))) M
theorem balb_no {a b : Nat} (h : balb a b = false) : ¬ (a + 1 ≤ 3 * (b + 1) ∧ b + 1 ≤ 3 * (a + 1)) := fun z => by rw [balb_iff.mpr z] at h; cases h
section
variable {P : Program} {w : World} {K : PySem.W.Frag} {mg : Str → Option Value} {base : Heap}
abbrev sMany : Stmt := top 8
theorem scMany : FnScope ["tie"] ["tie"] (defScope sMany) := ⟨rfl, rfl, rfl, by decide +kernel, rfl, by decide +kernel, by decide +kernel⟩
theorem ok_many {f : Addr} {fd : FuncData} {k : Nat} (F : Fun K "many_in" "many_in" sMany f fd) (T : Bl mg) : FnOk P w K mg base CX0 (k + 1) f fd ["tie"] (spD K 1 tfMany) := by
  refine okD F scMany rfl fun cdv A outer s H E hr => ?_
  refine ⟨_, _, (pss_cons (ps_if (pt_cmpR op_isN (pv 0) pe_non (nomark _)) (pss_one (ps_ret pe_int)) pss_nil)
    (pss_one (ps_ret (pe_ix ix_tup (pv 0) pe_int (fun _ _ => rfl))))),
    (ss_cons (ss_if (st_test (se_op so_isN se_nm se_non)) (ss_ret se_int) ss_nil)
    (ss_ret (se_op so_ixT se_nm se_int))), fun ws M R RX hl h => ?_⟩
  obtain ⟨x, rfl, h1⟩ := g1_of h
  obtain ⟨t, rfl, h2⟩ := h1
  cases t with
  | nil => simp only [start0, len_c, len_n, map_c, map_n, app_c, app_n, rep_0, rep_s, Nat.reduceAdd, Nat.reduceSub]; decreasing_trivial_pre_omega; exact h2
  | node l it r =>
    have e : ((sz (node l it r) : Nat) : Int) = (sz l : Int) + 1 + (sz r : Nat) := by rw [sz]; omega
    rw [e] at h2
    rw [toD]
    simp only [start0, len_c, len_n, map_c, map_n, app_c, app_n, rep_0, rep_s, Nat.reduceAdd, Nat.reduceSub]
    decreasing_trivial_pre_omega
    exact h2
abbrev sKnit : Stmt := top 9
theorem scKnit : FnScope ["left", "item", "right"] ["left", "item", "right"] (defScope sKnit) := ⟨rfl, rfl, rfl, by decide +kernel, rfl, by decide +kernel, by decide +kernel⟩
theorem ok_knit {f : Addr} {fd : FuncData} {k j : Nat} (F : Fun K "knit" "knit" sKnit f fd) (Umany_in : Use P w K mg base "many_in" ["tie"] j (spD K 1 tfMany)) (hj : j ≤ k) (T : Bl mg) : FnOk P w K mg base CX0 (k + 1) f fd ["left", "item", "right"] (spD K 3 tfKnit) := by
  refine okD F scKnit rfl fun cdv A outer s H E hr => ?_
  refine ⟨_, _, (pss_one (ps_ret (pe_tup (pa_cons (pv 0) (pa_cons (pv 1) (pa_cons (pv 2) (pa_cons (pe_op op_add (pe_op op_add (pe_call Umany_in.ok (hr.mono (by omega)) rfl Umany_in.m Umany_in.kp Umany_in.b .nil pass0 (pa_cons (pv 0) pa_nil)) pe_int) (pe_call Umany_in.ok (hr.mono (by omega)) rfl Umany_in.m Umany_in.kp Umany_in.b .nil pass0 (pa_cons (pv 2) pa_nil))) pa_nil))))))),
    (ss_ret (se_tup (sa_cons se_nm (sa_cons se_nm (sa_cons se_nm (sa_cons (se_op so_add (se_op so_add (se_call (sa_cons se_nm sa_nil)) se_int) (se_call (sa_cons se_nm sa_nil))) sa_nil)))))), fun ws M R RX hl h => ?_⟩
  match ws, h with
  | [a, .d it, c], h =>
    obtain ⟨l, rfl, r, rfl, h2⟩ := h
    simp only [start0, len_c, len_n, map_c, map_n, app_c, app_n, rep_0, rep_s, Nat.reduceAdd, Nat.reduceSub]
    decreasing_trivial_pre_omega
    exact h2
abbrev sSingle : Stmt := top 10
theorem scSingle : FnScope ["item"] ["item"] (defScope sSingle) := ⟨rfl, rfl, rfl, by decide +kernel, rfl, by decide +kernel, by decide +kernel⟩
theorem ok_single {f : Addr} {fd : FuncData} {k j : Nat} (F : Fun K "single" "single" sSingle f fd) (Uknit : Use P w K mg base "knit" ["left", "item", "right"] j (spD K 3 tfKnit)) (hj : j ≤ k) (T : Bl mg) : FnOk P w K mg base CX0 (k + 1) f fd ["item"] (spD K 1 tfSingle) := by
  refine okD F scSingle rfl fun cdv A outer s H E hr => ?_
  refine ⟨_, _, (pss_one (ps_ret (pe_call Uknit.ok (hr.mono (by omega)) rfl Uknit.m Uknit.kp Uknit.b .nil pass0 (pa_cons pe_non (pa_cons (pv 0) (pa_cons pe_non pa_nil)))))),
    (ss_ret (se_call (sa_cons se_non (sa_cons se_nm (sa_cons se_non sa_nil))))), fun ws M R RX hl h => ?_⟩
  obtain ⟨x, rfl, h1⟩ := g1_of h
  obtain ⟨it, rfl, h2⟩ := gD_of h1
  simp only [start0, len_c, len_n, map_c, map_n, app_c, app_n, rep_0, rep_s, Nat.reduceAdd, Nat.reduceSub]
  decreasing_trivial_pre_omega
  exact h2
def tR (t H : Tie) : Tie := match t with | node L y _ => turnR L y H | nil => nil
def tL (H t : Tie) : Tie := match t with | node _ y R => turnL H y R | nil => nil
/-- a tie turned, as turnR tells -/
@[reducible] def tfTurnR : TF := fun ws M R _ => g2 ws fun x y => gTie x fun H => gTie y fun t => (Ev H ∧ Ev t ∧ sz H ≤ 2000 ∧ sz t ≤ 2000 ∧ ∃ L y0 b S, t = node L y0 b ∧ 3 * (S + 1) < sz t + 1 ∧ sz H = sz b + 1 + S ∧ sz L + sz H < 2000) ∧ R (.d (toD (tR t H))) M
abbrev sTurnR : Stmt := top 13
theorem scTurnR : FnScope ["heavy", "top", "together", "left", "item", "inner", "middle", "outer"] ["heavy", "top"] (defScope sTurnR) := ⟨rfl, rfl, rfl, by decide +kernel, rfl, by decide +kernel, by decide +kernel⟩
theorem ok_turnR {f : Addr} {fd : FuncData} {k j : Nat} (F : Fun K "turned_right" "turned_right" sTurnR f fd) (Umany_in : Use P w K mg base "many_in" ["tie"] j (spD K 1 tfMany)) (Uknit : Use P w K mg base "knit" ["left", "item", "right"] j (spD K 3 tfKnit)) (Uis_balance : Use P w K mg base "is_balance" ["one", "other"] j (spD K 2 tfBal)) (hj : j ≤ k) (T : Bl mg) : FnOk P w K mg base CX0 (k + 1) f fd ["heavy", "top"] (spD K 2 tfTurnR) := by
  refine okD F scTurnR rfl fun cdv A outer s H E hr => ?_
  refine ⟨_, _, (pss_cons (ps_par (i := 3) (j := 4) (by rfl) scTurnR.nd rfl rfl (by decide) rfl rfl (pa_cons (pe_ix ix_tup (pv 1) pe_int (fun _ _ => rfl)) (pa_cons (pe_ix ix_tup (pv 1) pe_int (fun _ _ => rfl)) pa_nil)) (by rfl))
    (pss_cons (ps_if (pt_val (pe_call Uis_balance.ok (hr.mono (by omega)) rfl Uis_balance.m Uis_balance.kp Uis_balance.b .nil pass0 (pa_cons (pe_call Umany_in.ok (hr.mono (by omega)) rfl Umany_in.m Umany_in.kp Umany_in.b .nil pass0 (pa_cons (pv 3) pa_nil)) (pa_cons (pe_call Umany_in.ok (hr.mono (by omega)) rfl Umany_in.m Umany_in.kp Umany_in.b .nil pass0 (pa_cons (pv 0) pa_nil)) pa_nil)))) (pss_one (ps_ret (pe_call Uknit.ok (hr.mono (by omega)) rfl Uknit.m Uknit.kp Uknit.b .nil pass0 (pa_cons (pv 3) (pa_cons (pv 4) (pa_cons (pv 0) pa_nil)))))) pss_nil)
    (pss_cons (ps_asg (pe_slice sl_tupA (pv 0) po_none (po_some pe_int)) (pg_tup rfl (pgs_cons (pg_name (i := 5) scTurnR.nd rfl (.inl rfl)) (pgs_cons (pg_name (i := 6) scTurnR.nd rfl (.inl rfl)) (pgs_cons (pg_name (i := 7) scTurnR.nd rfl (.inl rfl)) pgs_nil)))))
    (pss_cons (ps_set (i := 2) scTurnR.nd rfl (.inl rfl) (pe_op op_add (pe_op op_add (pe_call Umany_in.ok (hr.mono (by omega)) rfl Umany_in.m Umany_in.kp Umany_in.b .nil pass0 (pa_cons (pv 3) pa_nil)) pe_int) (pe_call Umany_in.ok (hr.mono (by omega)) rfl Umany_in.m Umany_in.kp Umany_in.b .nil pass0 (pa_cons (pv 5) pa_nil))))
    (pss_cons (ps_if (PW.pt (pw_and (pt_val (pe_call Uis_balance.ok (hr.mono (by omega)) rfl Uis_balance.m Uis_balance.kp Uis_balance.b .nil pass0 (pa_cons (pe_call Umany_in.ok (hr.mono (by omega)) rfl Umany_in.m Umany_in.kp Umany_in.b .nil pass0 (pa_cons (pv 3) pa_nil)) (pa_cons (pe_call Umany_in.ok (hr.mono (by omega)) rfl Umany_in.m Umany_in.kp Umany_in.b .nil pass0 (pa_cons (pv 5) pa_nil)) pa_nil)))) (pw_and1 (pt_val (pe_call Uis_balance.ok (hr.mono (by omega)) rfl Uis_balance.m Uis_balance.kp Uis_balance.b .nil pass0 (pa_cons (pv 2) (pa_cons (pe_call Umany_in.ok (hr.mono (by omega)) rfl Umany_in.m Umany_in.kp Umany_in.b .nil pass0 (pa_cons (pv 7) pa_nil)) pa_nil))))))) (pss_one (ps_ret (pe_call Uknit.ok (hr.mono (by omega)) rfl Uknit.m Uknit.kp Uknit.b .nil pass0 (pa_cons (pe_call Uknit.ok (hr.mono (by omega)) rfl Uknit.m Uknit.kp Uknit.b .nil pass0 (pa_cons (pv 3) (pa_cons (pv 4) (pa_cons (pv 5) pa_nil)))) (pa_cons (pv 6) (pa_cons (pv 7) pa_nil)))))) pss_nil)
    (pss_one (ps_ret (pe_call Uknit.ok (hr.mono (by omega)) rfl Uknit.m Uknit.kp Uknit.b .nil pass0 (pa_cons (pe_call Uknit.ok (hr.mono (by omega)) rfl Uknit.m Uknit.kp Uknit.b .nil pass0 (pa_cons (pv 3) (pa_cons (pv 4) (pa_cons (pe_ix ix_tup (pv 5) pe_int (fun _ _ => rfl)) pa_nil)))) (pa_cons (pe_ix ix_tup (pv 5) pe_int (fun _ _ => rfl)) (pa_cons (pe_call Uknit.ok (hr.mono (by omega)) rfl Uknit.m Uknit.kp Uknit.b .nil pass0 (pa_cons (pe_ix ix_tup (pv 5) pe_int (fun _ _ => rfl)) (pa_cons (pv 6) (pa_cons (pv 7) pa_nil)))) pa_nil))))))))))),
    (ss_cons (ss_par (sa_cons (se_op so_ixT se_nm se_int) (sa_cons (se_op so_ixT se_nm se_int) sa_nil)))
    (ss_cons (ss_if (st_val (se_call (sa_cons (se_call (sa_cons se_nm sa_nil)) (sa_cons (se_call (sa_cons se_nm sa_nil)) sa_nil)))) (ss_ret (se_call (sa_cons se_nm (sa_cons se_nm (sa_cons se_nm sa_nil))))) ss_nil)
    (ss_cons (ss_unp sg_tup3 (se_sl sl_T se_nm sp_no (sp_some se_int)))
    (ss_cons (ss_set (se_op so_add (se_op so_add (se_call (sa_cons se_nm sa_nil)) se_int) (se_call (sa_cons se_nm sa_nil))))
    (ss_cons (ss_if (st_and (st_val (se_call (sa_cons (se_call (sa_cons se_nm sa_nil)) (sa_cons (se_call (sa_cons se_nm sa_nil)) sa_nil)))) (st_val (se_call (sa_cons se_nm (sa_cons (se_call (sa_cons se_nm sa_nil)) sa_nil))))) (ss_ret (se_call (sa_cons (se_call (sa_cons se_nm (sa_cons se_nm (sa_cons se_nm sa_nil)))) (sa_cons se_nm (sa_cons se_nm sa_nil))))) ss_nil)
    (ss_ret (se_call (sa_cons (se_call (sa_cons se_nm (sa_cons se_nm (sa_cons (se_op so_ixT se_nm se_int) sa_nil)))) (sa_cons (se_op so_ixT se_nm se_int) (sa_cons (se_call (sa_cons (se_op so_ixT se_nm se_int) (sa_cons se_nm (sa_cons se_nm sa_nil)))) sa_nil)))))))))), fun ws M R RX hl h => ?_⟩
  obtain ⟨x, y, rfl, h1⟩ := g2_of h
  obtain ⟨Hv, rfl, t, rfl, ⟨hH, ht, z1, z2, L, y0, b, S, rfl, hs, hz, z3⟩, h3⟩ := h1
  obtain ⟨hb, hL, hB⟩ := ht
  rw [sz] at hs z2
  obtain ⟨j1, j2, j3, _⟩ := turnR_ok (y := y0) hL hH hb (S := S) (by omega) hz
  have fin : R (.d (toD (turnR L y0 Hv))) M := h3
  rw [toD]
  unfold turnR at fin
  simp only [start0, len_c, len_n, map_c, map_n, app_c, app_n, rep_0, rep_s, Nat.reduceAdd, Nat.reduceSub]
  decreasing_trivial_pre_omega
  rw [balb_bal]
  cases c1 : balb (sz L) (sz Hv)
  · rw [c1, if_neg Bool.false_ne_true] at fin
    cases Hv with
    | nil => exfalso; rw [sz] at hz; omega
    | node i m o =>
      rw [sz] at z1 z3 hz
      dsimp only at fin
      rw [show toD (node i m o) = .tuple [toD i, m, toD o, .int ((sz i : Int) + 1 + (sz o : Nat))] from rfl]
      decreasing_trivial_pre_omega
      rw [show cut [toD i, m, toD o, PyData.int ((sz i : Int) + 1 + (sz o : Nat))] none (some 3) = [toD i, m, toD o] from cut_to (k := 3)]
      decreasing_trivial_pre_omega
      rw [balb_bal]
      cases c2 : balb (sz L) (sz i)
      · rw [c2, Bool.false_and, if_neg Bool.false_ne_true] at fin
        decreasing_trivial_pre_omega
        cases i with
        | nil => exfalso; have := balb_no c1; have := balb_no c2; simp only [sz] at *; obtain ⟨⟨e1, e2⟩, _⟩ := hH; simp only [sz] at e1 e2; obtain ⟨b1, b2⟩ := hb; omega
        | node i1 m1 i2 =>
          dsimp only at fin
          rw [show toD (node i1 m1 i2) = .tuple [toD i1, m1, toD i2, .int ((sz i1 : Int) + 1 + (sz i2 : Nat))] from rfl]
          decreasing_trivial_pre_omega
          exact fin
      · decreasing_trivial_pre_omega
        rw [show ((sz L : Nat) : Int) + 1 + ((sz i : Nat) : Int) = ((sz L + 1 + sz i : Nat) : Int) by omega, balb_bal]
        cases c3 : balb (sz L + 1 + sz i) (sz o)
        · rw [c2, c3, Bool.and_false, if_neg Bool.false_ne_true] at fin
          decreasing_trivial_pre_omega
          cases i with
          | nil => exfalso; have := balb_no c1; have := balb_no c3; simp only [sz] at *; obtain ⟨⟨e1, e2⟩, _⟩ := hH; simp only [sz] at e1 e2; obtain ⟨b1, b2⟩ := hb; omega
          | node i1 m1 i2 =>
            dsimp only at fin
            rw [show toD (node i1 m1 i2) = .tuple [toD i1, m1, toD i2, .int ((sz i1 : Int) + 1 + (sz i2 : Nat))] from rfl]
            decreasing_trivial_pre_omega
            exact fin
        · rw [c2, c3, Bool.and_self, if_pos rfl] at fin
          decreasing_trivial_pre_omega
          exact fin
  · rw [c1, if_pos rfl] at fin
    decreasing_trivial_pre_omega
    exact fin
@[reducible] def tfTurnL : TF := fun ws M R _ => g2 ws fun x y => gTie x fun H => gTie y fun t => (Ev H ∧ Ev t ∧ sz H ≤ 2000 ∧ sz t ≤ 2000 ∧ ∃ b y0 Rt S, t = node b y0 Rt ∧ 3 * (S + 1) < sz t + 1 ∧ sz H = S + 1 + sz b ∧ sz Rt + sz H < 2000) ∧ R (.d (toD (tL H t))) M
abbrev sTurnL : Stmt := top 14
theorem scTurnL : FnScope ["heavy", "top", "together", "item", "right", "outer", "middle", "inner"] ["heavy", "top"] (defScope sTurnL) := ⟨rfl, rfl, rfl, by decide +kernel, rfl, by decide +kernel, by decide +kernel⟩
theorem ok_turnL {f : Addr} {fd : FuncData} {k j : Nat} (F : Fun K "turned_left" "turned_left" sTurnL f fd) (Umany_in : Use P w K mg base "many_in" ["tie"] j (spD K 1 tfMany)) (Uknit : Use P w K mg base "knit" ["left", "item", "right"] j (spD K 3 tfKnit)) (Uis_balance : Use P w K mg base "is_balance" ["one", "other"] j (spD K 2 tfBal)) (hj : j ≤ k) (T : Bl mg) : FnOk P w K mg base CX0 (k + 1) f fd ["heavy", "top"] (spD K 2 tfTurnL) := by
  refine okD F scTurnL rfl fun cdv A outer s H E hr => ?_
  refine ⟨_, _, (pss_cons (ps_par (i := 3) (j := 4) (by rfl) scTurnL.nd rfl rfl (by decide) rfl rfl (pa_cons (pe_ix ix_tup (pv 1) pe_int (fun _ _ => rfl)) (pa_cons (pe_ix ix_tup (pv 1) pe_int (fun _ _ => rfl)) pa_nil)) (by rfl))
    (pss_cons (ps_if (pt_val (pe_call Uis_balance.ok (hr.mono (by omega)) rfl Uis_balance.m Uis_balance.kp Uis_balance.b .nil pass0 (pa_cons (pe_call Umany_in.ok (hr.mono (by omega)) rfl Umany_in.m Umany_in.kp Umany_in.b .nil pass0 (pa_cons (pv 0) pa_nil)) (pa_cons (pe_call Umany_in.ok (hr.mono (by omega)) rfl Umany_in.m Umany_in.kp Umany_in.b .nil pass0 (pa_cons (pv 4) pa_nil)) pa_nil)))) (pss_one (ps_ret (pe_call Uknit.ok (hr.mono (by omega)) rfl Uknit.m Uknit.kp Uknit.b .nil pass0 (pa_cons (pv 0) (pa_cons (pv 3) (pa_cons (pv 4) pa_nil)))))) pss_nil)
    (pss_cons (ps_asg (pe_slice sl_tupA (pv 0) po_none (po_some pe_int)) (pg_tup rfl (pgs_cons (pg_name (i := 5) scTurnL.nd rfl (.inl rfl)) (pgs_cons (pg_name (i := 6) scTurnL.nd rfl (.inl rfl)) (pgs_cons (pg_name (i := 7) scTurnL.nd rfl (.inl rfl)) pgs_nil)))))
    (pss_cons (ps_set (i := 2) scTurnL.nd rfl (.inl rfl) (pe_op op_add (pe_op op_add (pe_call Umany_in.ok (hr.mono (by omega)) rfl Umany_in.m Umany_in.kp Umany_in.b .nil pass0 (pa_cons (pv 7) pa_nil)) pe_int) (pe_call Umany_in.ok (hr.mono (by omega)) rfl Umany_in.m Umany_in.kp Umany_in.b .nil pass0 (pa_cons (pv 4) pa_nil))))
    (pss_cons (ps_if (PW.pt (pw_and (pt_val (pe_call Uis_balance.ok (hr.mono (by omega)) rfl Uis_balance.m Uis_balance.kp Uis_balance.b .nil pass0 (pa_cons (pe_call Umany_in.ok (hr.mono (by omega)) rfl Umany_in.m Umany_in.kp Umany_in.b .nil pass0 (pa_cons (pv 7) pa_nil)) (pa_cons (pe_call Umany_in.ok (hr.mono (by omega)) rfl Umany_in.m Umany_in.kp Umany_in.b .nil pass0 (pa_cons (pv 4) pa_nil)) pa_nil)))) (pw_and1 (pt_val (pe_call Uis_balance.ok (hr.mono (by omega)) rfl Uis_balance.m Uis_balance.kp Uis_balance.b .nil pass0 (pa_cons (pe_call Umany_in.ok (hr.mono (by omega)) rfl Umany_in.m Umany_in.kp Umany_in.b .nil pass0 (pa_cons (pv 5) pa_nil)) (pa_cons (pv 2) pa_nil))))))) (pss_one (ps_ret (pe_call Uknit.ok (hr.mono (by omega)) rfl Uknit.m Uknit.kp Uknit.b .nil pass0 (pa_cons (pv 5) (pa_cons (pv 6) (pa_cons (pe_call Uknit.ok (hr.mono (by omega)) rfl Uknit.m Uknit.kp Uknit.b .nil pass0 (pa_cons (pv 7) (pa_cons (pv 3) (pa_cons (pv 4) pa_nil)))) pa_nil)))))) pss_nil)
    (pss_one (ps_ret (pe_call Uknit.ok (hr.mono (by omega)) rfl Uknit.m Uknit.kp Uknit.b .nil pass0 (pa_cons (pe_call Uknit.ok (hr.mono (by omega)) rfl Uknit.m Uknit.kp Uknit.b .nil pass0 (pa_cons (pv 5) (pa_cons (pv 6) (pa_cons (pe_ix ix_tup (pv 7) pe_int (fun _ _ => rfl)) pa_nil)))) (pa_cons (pe_ix ix_tup (pv 7) pe_int (fun _ _ => rfl)) (pa_cons (pe_call Uknit.ok (hr.mono (by omega)) rfl Uknit.m Uknit.kp Uknit.b .nil pass0 (pa_cons (pe_ix ix_tup (pv 7) pe_int (fun _ _ => rfl)) (pa_cons (pv 3) (pa_cons (pv 4) pa_nil)))) pa_nil))))))))))),
    (ss_cons (ss_par (sa_cons (se_op so_ixT se_nm se_int) (sa_cons (se_op so_ixT se_nm se_int) sa_nil)))
    (ss_cons (ss_if (st_val (se_call (sa_cons (se_call (sa_cons se_nm sa_nil)) (sa_cons (se_call (sa_cons se_nm sa_nil)) sa_nil)))) (ss_ret (se_call (sa_cons se_nm (sa_cons se_nm (sa_cons se_nm sa_nil))))) ss_nil)
    (ss_cons (ss_unp sg_tup3 (se_sl sl_T se_nm sp_no (sp_some se_int)))
    (ss_cons (ss_set (se_op so_add (se_op so_add (se_call (sa_cons se_nm sa_nil)) se_int) (se_call (sa_cons se_nm sa_nil))))
    (ss_cons (ss_if (st_and (st_val (se_call (sa_cons (se_call (sa_cons se_nm sa_nil)) (sa_cons (se_call (sa_cons se_nm sa_nil)) sa_nil)))) (st_val (se_call (sa_cons (se_call (sa_cons se_nm sa_nil)) (sa_cons se_nm sa_nil))))) (ss_ret (se_call (sa_cons se_nm (sa_cons se_nm (sa_cons (se_call (sa_cons se_nm (sa_cons se_nm (sa_cons se_nm sa_nil)))) sa_nil))))) ss_nil)
    (ss_ret (se_call (sa_cons (se_call (sa_cons se_nm (sa_cons se_nm (sa_cons (se_op so_ixT se_nm se_int) sa_nil)))) (sa_cons (se_op so_ixT se_nm se_int) (sa_cons (se_call (sa_cons (se_op so_ixT se_nm se_int) (sa_cons se_nm (sa_cons se_nm sa_nil)))) sa_nil)))))))))), fun ws M R RX hl h => ?_⟩
  obtain ⟨x, y, rfl, h1⟩ := g2_of h
  obtain ⟨Hv, rfl, t, rfl, ⟨hH, ht, z1, z2, b, y0, Rt, S, rfl, hs, hz, z3⟩, h3⟩ := h1
  obtain ⟨hb, hB, hR⟩ := ht
  rw [sz] at hs z2
  obtain ⟨j1, j2, j3, _⟩ := turnL_ok (y := y0) hR hH hb (S := S) (by omega) hz
  have fin : R (.d (toD (turnL Hv y0 Rt))) M := h3
  rw [toD]
  unfold turnL at fin
  simp only [start0, len_c, len_n, map_c, map_n, app_c, app_n, rep_0, rep_s, Nat.reduceAdd, Nat.reduceSub]
  decreasing_trivial_pre_omega
  rw [balb_bal]
  cases c1 : balb (sz Hv) (sz Rt)
  · rw [c1, if_neg Bool.false_ne_true] at fin
    cases Hv with
    | nil => exfalso; rw [sz] at hz; omega
    | node o m i =>
      rw [sz] at z1 z3 hz
      dsimp only at fin
      rw [show toD (node o m i) = .tuple [toD o, m, toD i, .int ((sz o : Int) + 1 + (sz i : Nat))] from rfl]
      decreasing_trivial_pre_omega
      rw [show cut [toD o, m, toD i, PyData.int ((sz o : Int) + 1 + (sz i : Nat))] none (some 3) = [toD o, m, toD i] from cut_to (k := 3)]
      decreasing_trivial_pre_omega
      rw [balb_bal]
      cases c2 : balb (sz i) (sz Rt)
      · rw [c2, Bool.false_and, if_neg Bool.false_ne_true] at fin
        decreasing_trivial_pre_omega
        cases i with
        | nil => exfalso; have := balb_no c1; have := balb_no c2; simp only [sz] at *; obtain ⟨⟨e1, e2⟩, _⟩ := hH; simp only [sz] at e1 e2; obtain ⟨b1, b2⟩ := hb; omega
        | node i1 m1 i2 =>
          dsimp only at fin
          rw [show toD (node i1 m1 i2) = .tuple [toD i1, m1, toD i2, .int ((sz i1 : Int) + 1 + (sz i2 : Nat))] from rfl]
          decreasing_trivial_pre_omega
          exact fin
      · decreasing_trivial_pre_omega
        rw [show ((sz i : Nat) : Int) + 1 + ((sz Rt : Nat) : Int) = ((sz i + 1 + sz Rt : Nat) : Int) by omega, balb_bal]
        cases c3 : balb (sz o) (sz i + 1 + sz Rt)
        · rw [c2, c3, Bool.and_false, if_neg Bool.false_ne_true] at fin
          decreasing_trivial_pre_omega
          cases i with
          | nil => exfalso; have := balb_no c1; have := balb_no c3; simp only [sz] at *; obtain ⟨⟨e1, e2⟩, _⟩ := hH; simp only [sz] at e1 e2; obtain ⟨b1, b2⟩ := hb; omega
          | node i1 m1 i2 =>
            dsimp only at fin
            rw [show toD (node i1 m1 i2) = .tuple [toD i1, m1, toD i2, .int ((sz i1 : Int) + 1 + (sz i2 : Nat))] from rfl]
            decreasing_trivial_pre_omega
            exact fin
        · rw [c2, c3, Bool.and_self, if_pos rfl] at fin
          decreasing_trivial_pre_omega
          exact fin
  · rw [c1, if_pos rfl] at fin
    decreasing_trivial_pre_omega
    exact fin
theorem link_s (n : Nat) (l r : Tie) (x : PyData) : link (n + 1) l x r = if sz l + 1 > 3 * (sz r + 1) then (match l with
      | node a y b => turnR a y (link n b x r)
      | nil => nil) else if sz r + 1 > 3 * (sz l + 1) then (match r with
      | node a y b => turnL (link n l x a) y b
      | nil => nil) else node l x r := rfl
@[reducible] def tfLinked (n : Nat) : TF := fun ws M R _ => match ws with | [a, .d it, c] => gTie a fun l => gTie c fun r => (hg l + hg r < n ∧ Ev l ∧ Ev r ∧ sz l + sz r < 2000) ∧ R (.d (toD (link n l it r))) M | _ => False
abbrev sLinked : Stmt := top 12
theorem scLinked : FnScope ["left", "item", "right"] ["left", "item", "right"] (defScope sLinked) := ⟨rfl, rfl, rfl, by decide +kernel, rfl, by decide +kernel, by decide +kernel⟩
theorem ok_linked1 {f : Addr} {fd : FuncData} {n j : Nat} (F : Fun K "linked" "linked" sLinked f fd) (Ulinked : Use P w K mg base "linked" ["left", "item", "right"] (j + n) (spD K 3 (tfLinked n))) (Umany_in : Use P w K mg base "many_in" ["tie"] j (spD K 1 tfMany)) (Uknit : Use P w K mg base "knit" ["left", "item", "right"] j (spD K 3 tfKnit)) (Uturned_right : Use P w K mg base "turned_right" ["heavy", "top"] j (spD K 2 tfTurnR)) (Uturned_left : Use P w K mg base "turned_left" ["heavy", "top"] j (spD K 2 tfTurnL)) (T : Bl mg) :
    FnOk P w K mg base CX0 (j + n + 1) f fd ["left", "item", "right"] (spD K 3 (tfLinked (n + 1))) := by
  refine okD F scLinked rfl fun cdv A outer s H E hr => ?_
  refine ⟨_, _, (pss_cons (ps_if (pt_cmpR op_gt (pe_op op_add (pe_call Umany_in.ok (hr.mono (by omega)) rfl Umany_in.m Umany_in.kp Umany_in.b .nil pass0 (pa_cons (pv 0) pa_nil)) pe_int) (pe_op op_mul pe_int (pe_op op_add (pe_call Umany_in.ok (hr.mono (by omega)) rfl Umany_in.m Umany_in.kp Umany_in.b .nil pass0 (pa_cons (pv 2) pa_nil)) pe_int)) (nomark _)) (pss_one (ps_ret (pe_call Uturned_right.ok (hr.mono (by omega)) rfl Uturned_right.m Uturned_right.kp Uturned_right.b .nil pass0 (pa_cons (pe_call Ulinked.ok (hr.mono (by omega)) rfl Ulinked.m Ulinked.kp Ulinked.b .nil pass0 (pa_cons (pe_ix ix_tup (pv 0) pe_int (fun _ _ => rfl)) (pa_cons (pv 1) (pa_cons (pv 2) pa_nil)))) (pa_cons (pv 0) pa_nil))))) pss_nil)
    (pss_cons (ps_if (pt_cmpR op_gt (pe_op op_add (pe_call Umany_in.ok (hr.mono (by omega)) rfl Umany_in.m Umany_in.kp Umany_in.b .nil pass0 (pa_cons (pv 2) pa_nil)) pe_int) (pe_op op_mul pe_int (pe_op op_add (pe_call Umany_in.ok (hr.mono (by omega)) rfl Umany_in.m Umany_in.kp Umany_in.b .nil pass0 (pa_cons (pv 0) pa_nil)) pe_int)) (nomark _)) (pss_one (ps_ret (pe_call Uturned_left.ok (hr.mono (by omega)) rfl Uturned_left.m Uturned_left.kp Uturned_left.b .nil pass0 (pa_cons (pe_call Ulinked.ok (hr.mono (by omega)) rfl Ulinked.m Ulinked.kp Ulinked.b .nil pass0 (pa_cons (pv 0) (pa_cons (pv 1) (pa_cons (pe_ix ix_tup (pv 2) pe_int (fun _ _ => rfl)) pa_nil)))) (pa_cons (pv 2) pa_nil))))) pss_nil)
    (pss_one (ps_ret (pe_call Uknit.ok (hr.mono (by omega)) rfl Uknit.m Uknit.kp Uknit.b .nil pass0 (pa_cons (pv 0) (pa_cons (pv 1) (pa_cons (pv 2) pa_nil)))))))),
    (ss_cons (ss_if (st_test (se_op so_gt (se_op so_add (se_call (sa_cons se_nm sa_nil)) se_int) (se_op so_mul se_int (se_op so_add (se_call (sa_cons se_nm sa_nil)) se_int)))) (ss_ret (se_call (sa_cons (se_call (sa_cons (se_op so_ixT se_nm se_int) (sa_cons se_nm (sa_cons se_nm sa_nil)))) (sa_cons se_nm sa_nil)))) ss_nil)
    (ss_cons (ss_if (st_test (se_op so_gt (se_op so_add (se_call (sa_cons se_nm sa_nil)) se_int) (se_op so_mul se_int (se_op so_add (se_call (sa_cons se_nm sa_nil)) se_int)))) (ss_ret (se_call (sa_cons (se_call (sa_cons se_nm (sa_cons se_nm (sa_cons (se_op so_ixT se_nm se_int) sa_nil)))) (sa_cons se_nm sa_nil)))) ss_nil)
    (ss_ret (se_call (sa_cons se_nm (sa_cons se_nm (sa_cons se_nm sa_nil))))))), fun ws M R RX hl h => ?_⟩
  match ws, h with
  | [a, .d it, c], h =>
    obtain ⟨l, rfl, r, rfl, ⟨hd, hEl, hEr, hz⟩, h2⟩ := h
    rw [link_s] at h2
    simp only [start0, len_c, len_n, map_c, map_n, app_c, app_n, rep_0, rep_s, Nat.reduceAdd, Nat.reduceSub]
    decreasing_trivial_pre_omega
    refine IfB.d (fun c1 => ?_) (fun c1 => ?_)
    · rw [if_pos (by omega)] at h2
      cases l with
      | nil => exfalso; rw [sz] at c1; omega
      | node a y b =>
        obtain ⟨hb, ha, hb2⟩ := hEl
        rw [hg] at hd
        rw [sz] at hz c1
        obtain ⟨e, _, ev, _⟩ := link_ok (n := n) (x := it) (l := b) (r := r) (by omega) hb2 hEr
        rw [show toD (node a y b) = .tuple [toD a, y, toD b, .int ((sz a : Int) + 1 + (sz b : Nat))] from rfl]
        decreasing_trivial_pre_omega
        exact ⟨⟨ev, ⟨hb, ha, hb2⟩, by omega, by rw [sz]; omega, a, y, b, sz r, rfl, by rw [sz]; omega, by omega, by omega⟩, h2⟩
    · rw [if_neg (by omega)] at h2
      decreasing_trivial_pre_omega
      refine IfB.d (fun c2 => ?_) (fun c2 => ?_)
      · rw [if_pos (by omega)] at h2
        cases r with
        | nil => exfalso; rw [sz] at c2; omega
        | node a y b =>
          obtain ⟨hb, ha, hb2⟩ := hEr
          rw [hg] at hd
          rw [sz] at hz c2
          obtain ⟨e, _, ev, _⟩ := link_ok (n := n) (x := it) (l := l) (r := a) (by omega) hEl ha
          rw [show toD (node a y b) = .tuple [toD a, y, toD b, .int ((sz a : Int) + 1 + (sz b : Nat))] from rfl]
          decreasing_trivial_pre_omega
          exact ⟨⟨ev, ⟨hb, ha, hb2⟩, by omega, by rw [sz]; omega, a, y, b, sz l, rfl, by rw [sz]; omega, by omega, by omega⟩, h2⟩
      · rw [if_neg (by omega)] at h2
        decreasing_trivial_pre_omega
        exact h2
theorem ok_linked {f : Addr} {fd : FuncData} {j : Nat} (F : Fun K "linked" "linked" sLinked f fd) (mF : mg "linked" = some (.ref f)) (Umany_in : Use P w K mg base "many_in" ["tie"] j (spD K 1 tfMany)) (Uknit : Use P w K mg base "knit" ["left", "item", "right"] j (spD K 3 tfKnit)) (Uturned_right : Use P w K mg base "turned_right" ["heavy", "top"] j (spD K 2 tfTurnR)) (Uturned_left : Use P w K mg base "turned_left" ["heavy", "top"] j (spD K 2 tfTurnL)) (T : Bl mg) : ∀ n, FnOk P w K mg base CX0 (j + n) f fd ["left", "item", "right"] (spD K 3 (tfLinked n))
  | 0 => no0 fun ws M R RX h => by
    match ws, h with
    | [a, .d it, c], h =>
      obtain ⟨l, rfl, r, rfl, ⟨h, _⟩, _⟩ := h
      omega
  | n + 1 => ok_linked1 F ⟨f, fd, ok_linked F mF Umany_in Uknit Uturned_right Uturned_left T n, mF, F.kp, F.binds (ps := ["left", "item", "right"]) fun _ _ _ _ _ _ us hl => match us, hl with | [_, _, _], _ => rfl⟩ Umany_in Uknit Uturned_right Uturned_left T
end
end Tl
set_option Elab.async false
set_option linter.all false
set_option maxRecDepth 100000
set_option maxHeartbeats 8000000
namespace Tl
open PySem L2 RZ Tie
local macro_rules
  | `(tactic| decreasing_trivial) => `(tactic| ((with_reducible (conv => whnf)); (repeat ((first | (with_reducible refine gTie_i ?_) | (with_reducible refine gTie_n ?_) | (with_reducible refine gTie_4 ?_) | (with_reducible refine gDs_c ?_) | (with_reducible refine gDs_n ?_) | (with_reducible refine gNs_c ?_) | (with_reducible refine gNs_n ?_) | (with_reducible refine gO_i tyAny_lt ?_) | (with_reducible refine gIs_c ?_) | (with_reducible refine gIs_n ?_) | (with_reducible refine gBs_c ?_) | (with_reducible refine gBs_n ?_) | (with_reducible refine gSs_c ?_) | (with_reducible refine gSs_n ?_) | (with_reducible refine gO_i tyIs_int ?_) | (with_reducible refine gO_i tyIs_bool ?_) | (with_reducible refine gO_i tyIs_str ?_) | (with_reducible refine gO_i tyIs_tuple ?_) | (with_reducible refine gO_i tyIs_list ?_) | (with_reducible refine gDs_i ?_) | (with_reducible refine gO_i (Eq.refl _) ?_) | (with_reducible refine gO_i (by assumption) ?_) | (with_reducible refine gO_i at_0 ?_) | (with_reducible refine gO_i at_m0 ?_) | (with_reducible refine gO_i at_1 ?_) | (with_reducible refine gO_i at_m1 ?_) | (with_reducible refine gO_i at_2 ?_) | (with_reducible refine gO_i at_m2 ?_) | (with_reducible refine gO_i at_3 ?_) | (with_reducible refine gO_i at_m3 ?_) | (with_reducible refine gO_i at_4 ?_) | (with_reducible refine gO_i at_m4 ?_) | (with_reducible refine gO_i at_5 ?_) | (with_reducible refine gO_i at_m5 ?_) | (with_reducible refine gO_i at_6 ?_) | (with_reducible refine gO_i at_m6 ?_) | (with_reducible refine gO_i at_7 ?_) | (with_reducible refine gO_i at_m7 ?_) | (with_reducible refine IfB.ngf ?_) | (with_reducible refine IfB.ngt ?_) | (with_reducible refine IfB.not ?_) | (with_reducible refine IfB.nil ?_) | (with_reducible refine IfB.nilT ?_) | (with_reducible refine IfB.f isE_c ?_) | (with_reducible refine IfB.t isE_n ?_) | (with_reducible refine IfB.t ?gha ?_; (case gha => rfl)) | (with_reducible refine IfB.f ?gha ?_; (case gha => rfl)) | (with_reducible refine IfB.t ?gha ?_; (case gha => assumption)) | (with_reducible refine IfB.f ?gha ?_; (case gha => assumption)) | (with_reducible refine IfB.yes (Eq.refl _) ?_) | (with_reducible refine IfB.yes ?gha ?_; (case gha => (first | omega | (simp only [len_c, len_n, List.length_map]; omega)))) | (with_reducible refine IfB.no ?gha ?_; (case gha => (first | omega | (simp only [len_c, len_n, List.length_map]; omega)))) | (with_reducible refine IfB.t ?gha ?_; (case gha => decide +kernel)) | (with_reducible refine IfB.f ?gha ?_; (case gha => decide +kernel))); (with_reducible (conv => whnf))))))
local macro_rules
  | `(tactic| decreasing_trivial_pre_omega) => `(tactic| (decreasing_trivial; (repeat ((first | ((with_reducible refine And.intro ?gha ?_); (case gha => (first | assumption | omega | exact rfl | (exact mset_same) | (exact ⟨_, mset_same⟩) | (exact Exists.intro _ (by first | exact mset_same | assumption | (rw [mset_ne (by assumption)]; first | exact mset_same | assumption))) | (exact sm_of (by omega) (by omega)) | (exact sz1000 (by first | omega | (simp; done) | (simp; omega))) | (exact Or.inl ⟨by decide, by decide⟩) | decide | (simp; done) | (refine ⟨?_, ?_⟩ <;> (first | assumption | omega | exact rfl | (exact mset_same) | (exact ⟨_, mset_same⟩) | (exact Exists.intro _ (by first | exact mset_same | assumption | (rw [mset_ne (by assumption)]; first | exact mset_same | assumption))) | (exact sm_of (by omega) (by omega)) | (exact sz1000 (by first | omega | (simp; done) | (simp; omega))) | (exact Or.inl ⟨by decide, by decide⟩) | decide | (simp; done))) | (refine ⟨?_, ?_, ?_⟩ <;> (first | assumption | omega | exact rfl | (exact mset_same) | (exact ⟨_, mset_same⟩) | (exact Exists.intro _ (by first | exact mset_same | assumption | (rw [mset_ne (by assumption)]; first | exact mset_same | assumption))) | (exact sm_of (by omega) (by omega)) | (exact sz1000 (by first | omega | (simp; done) | (simp; omega))) | (exact Or.inl ⟨by decide, by decide⟩) | decide | (simp; done))) | (refine ⟨?_, ?_, ?_, ?_⟩ <;> (first | assumption | omega | exact rfl | (exact mset_same) | (exact ⟨_, mset_same⟩) | (exact Exists.intro _ (by first | exact mset_same | assumption | (rw [mset_ne (by assumption)]; first | exact mset_same | assumption))) | (exact sm_of (by omega) (by omega)) | (exact sz1000 (by first | omega | (simp; done) | (simp; omega))) | (exact Or.inl ⟨by decide, by decide⟩) | decide | (simp; done)))))) | (with_reducible refine exW (by first | exact mset_same | assumption | (rw [mset_ne (by assumption)]; first | exact mset_same | assumption)) ?_)); decreasing_trivial))))
@[reducible] def tfNth (n : Nat) : TF := fun ws M R _ => g2 ws fun x y => gTie x fun t => gI y fun i => (hg t < n ∧ 0 ≤ i ∧ i < sz t) ∧ ∀ d, (its t)[i.toNat]? = some d → R (.d d) M
@[reducible] def tfWith (n : Nat) : TF := fun ws M R _ => match ws with | [a, b, .d it] => gTie a fun t => gI b fun i => (hg t < n ∧ Ev t ∧ 0 ≤ i ∧ i ≤ sz t ∧ sz t < 1000) ∧ ∀ t', Is t' (insAt (its t) i.toNat it) → Ad t t' (5 * hg t + 1) → R (.d (toD t')) M | _ => False
@[reducible] def tfWo (n : Nat) : TF := fun ws M R _ => g2 ws fun x y => gTie x fun t => gI y fun i => (hg t < n ∧ Ev t ∧ 0 ≤ i ∧ i < sz t ∧ sz t ≤ 1000) ∧ ∀ t', Is t' (outAt (its t) i.toNat) → Ad t t' (5 * hg t) → R (.d (toD t')) M
/-- what joining two ties costs -/
def AdB (a b t' : Tie) : Prop := (∀ Kn, Cl Kn → ∀ w, sz a + 1 ≤ w → sz b + 1 ≤ w → cost Kn t' ≤ cost Kn a + cost Kn b + 5 * hg b + 1 + 2 * stp w) ∧ (sz a + 1 ≤ 3 * (sz b + 1) → sz b + 1 ≤ 3 * (sz a + 1) → ∀ Kn, Cl Kn → cost Kn t' ≤ cost Kn a + cost Kn b + 5 * hg b + 5)
@[reducible] def tfBoth (n : Nat) : TF := fun ws M R _ => g2 ws fun x y => gTie x fun a => gTie y fun b => (hg b < n ∧ Ev a ∧ Ev b ∧ sz a + sz b ≤ 1000) ∧ ∀ t', Is t' (its a ++ its b) → AdB a b t' → R (.d (toD t')) M
def AdH (t p : Tie) : Prop := Ad t p (3 * hg t + 2 * stp (sz p + 1))
@[reducible] def tfHalves (n : Nat) : TF := fun ws M R _ => g2 ws fun x y => gTie x fun t => gI y fun i => (hg t < n ∧ Ev t ∧ 0 ≤ i ∧ i ≤ sz t ∧ sz t ≤ 1000) ∧ ∀ a b, Is a ((its t).take i.toNat) → Is b ((its t).drop i.toNat) → AdH t a → AdH t b → R (.d (.tuple [toD a, toD b])) M
theorem link_is {l r : Tie} {x : PyData} (hl : Ev l) (hr : Ev r) (h : hg l + hg r < 60) : Is (link 60 l x r) (its l ++ x :: its r) ∧ sz (link 60 l x r) = sz l + 1 + sz r := by
  obtain ⟨h1, h2, h3, _⟩ := link_ok (n := 60) (x := x) h hl hr
  exact ⟨⟨h3, h2⟩, h1⟩
theorem toD_node (l r : Tie) (y : PyData) : toD (node l y r) = .tuple [toD l, y, toD r, .int ((sz l : Int) + 1 + (sz r : Nat))] := rfl
theorem cut3 (l r : Tie) (y : PyData) : cut [toD l, y, toD r, PyData.int ((sz l : Int) + 1 + (sz r : Nat))] none (some 3) = [toD l, y, toD r] := cut_to (k := 3)
theorem flat_of {t : Tie} (h : Ev t) (hs : sz t ≤ 1000) : hg t ≤ 24 := hg_le h hs
section
variable {P : Program} {w : World} {K : PySem.W.Frag} {mg : Str → Option Value} {base : Heap}
abbrev sNth : Stmt := top 15
theorem scNth : FnScope ["tie", "at", "left", "item", "right"] ["tie", "at"] (defScope sNth) := ⟨rfl, rfl, rfl, by decide +kernel, rfl, by decide +kernel, by decide +kernel⟩
theorem ok_nth1 {f : Addr} {fd : FuncData} {n j : Nat} (F : Fun K "nth" "nth" sNth f fd) (Unth : Use P w K mg base "nth" ["tie", "at"] (j + n) (spD K 2 (tfNth n))) (Umany_in : Use P w K mg base "many_in" ["tie"] j (spD K 1 tfMany)) (T : Bl mg) :
    FnOk P w K mg base CX0 (j + n + 1) f fd ["tie", "at"] (spD K 2 (tfNth (n + 1))) := by
  refine okD F scNth rfl fun cdv A outer s H E hr => ?_
  refine ⟨_, _, (pss_cons (ps_asg (pe_slice sl_tupA (pv 0) po_none (po_some pe_int)) (pg_tup rfl (pgs_cons (pg_name (i := 2) scNth.nd rfl (.inl rfl)) (pgs_cons (pg_name (i := 3) scNth.nd rfl (.inl rfl)) (pgs_cons (pg_name (i := 4) scNth.nd rfl (.inl rfl)) pgs_nil)))))
    (pss_cons (ps_if (pt_cmpR op_lt (pv 1) (pe_call Umany_in.ok (hr.mono (by omega)) rfl Umany_in.m Umany_in.kp Umany_in.b .nil pass0 (pa_cons (pv 2) pa_nil)) (nomark _)) (pss_one (ps_ret (pe_call Unth.ok (hr.mono (by omega)) rfl Unth.m Unth.kp Unth.b .nil pass0 (pa_cons (pv 2) (pa_cons (pv 1) pa_nil))))) pss_nil)
    (pss_cons (ps_if (pt_cmpR op_eq (pv 1) (pe_call Umany_in.ok (hr.mono (by omega)) rfl Umany_in.m Umany_in.kp Umany_in.b .nil pass0 (pa_cons (pv 2) pa_nil)) (nomark _)) (pss_one (ps_ret (pv 3))) pss_nil)
    (pss_one (ps_ret (pe_call Unth.ok (hr.mono (by omega)) rfl Unth.m Unth.kp Unth.b .nil pass0 (pa_cons (pv 4) (pa_cons (pe_op op_sub (pe_op op_sub (pv 1) (pe_call Umany_in.ok (hr.mono (by omega)) rfl Umany_in.m Umany_in.kp Umany_in.b .nil pass0 (pa_cons (pv 2) pa_nil))) pe_int) pa_nil)))))))),
    (ss_cons (ss_unp sg_tup3 (se_sl sl_T se_nm sp_no (sp_some se_int)))
    (ss_cons (ss_if (st_test (se_op so_lt se_nm (se_call (sa_cons se_nm sa_nil)))) (ss_ret (se_call (sa_cons se_nm (sa_cons se_nm sa_nil)))) ss_nil)
    (ss_cons (ss_if (st_test (se_op so_eqS se_nm (se_call (sa_cons se_nm sa_nil)))) (ss_ret se_nm) ss_nil)
    (ss_ret (se_call (sa_cons se_nm (sa_cons (se_op so_sub (se_op so_sub se_nm (se_call (sa_cons se_nm sa_nil))) se_int) sa_nil))))))), fun ws M R RX hl h => ?_⟩
  obtain ⟨x, y, rfl, h1⟩ := g2_of h
  obtain ⟨t, rfl, h1⟩ := h1
  obtain ⟨i, rfl, ⟨hd, i0, i1⟩, h2⟩ := gI_of h1
  cases t with
  | nil => exfalso; rw [sz] at i1; omega
  | node l y r =>
    rw [hg] at hd
    rw [sz] at i1
    rw [its] at h2
    have hl := its_len l
    rw [toD_node]
    simp only [start0, len_c, len_n, map_c, map_n, app_c, app_n, rep_0, rep_s, Nat.reduceAdd, Nat.reduceSub]
    decreasing_trivial_pre_omega
    rw [cut3]
    decreasing_trivial_pre_omega
    refine IfB.d (fun c => ?_) (fun c => ?_)
    · decreasing_trivial_pre_omega
      intro d hd2
      exact h2 d (by rw [List.getElem?_append_left (by omega)]; exact hd2)
    · decreasing_trivial_pre_omega
      refine IfB.d (fun c2 => ?_) (fun c2 => ?_)
      · decreasing_trivial_pre_omega
        exact h2 y (by rw [List.getElem?_append_right (by omega), show i.toNat - (its l).length = 0 by omega]; rfl)
      · decreasing_trivial_pre_omega
        intro d hd2
        exact h2 d (by rw [List.getElem?_append_right (by omega), show i.toNat - (its l).length = (i - (sz l : Nat) - 1).toNat + 1 by omega]; exact hd2)
theorem ok_nth {f : Addr} {fd : FuncData} {j : Nat} (F : Fun K "nth" "nth" sNth f fd) (mF : mg "nth" = some (.ref f)) (Umany_in : Use P w K mg base "many_in" ["tie"] j (spD K 1 tfMany)) (T : Bl mg) : ∀ n, FnOk P w K mg base CX0 (j + n) f fd ["tie", "at"] (spD K 2 (tfNth n))
  | 0 => no0 fun ws M R RX h => by
    obtain ⟨x, y, rfl, h1⟩ := g2_of h
    obtain ⟨t, rfl, h1⟩ := h1
    obtain ⟨i, rfl, ⟨hd, i0, i1⟩, h2⟩ := gI_of h1
    omega
  | n + 1 => ok_nth1 F ⟨f, fd, ok_nth F mF Umany_in T n, mF, F.kp, F.binds (ps := ["tie", "at"]) fun _ _ _ _ _ _ us hl => match us, hl with | [_, _], _ => rfl⟩ Umany_in T
abbrev sWithI : Stmt := top 17
theorem scWithI : FnScope ["tie", "at", "item", "left", "own", "right"] ["tie", "at", "item"] (defScope sWithI) := ⟨rfl, rfl, rfl, by decide +kernel, rfl, by decide +kernel, by decide +kernel⟩
theorem ok_withI1 {f : Addr} {fd : FuncData} {n j : Nat} (F : Fun K "with_item" "with_item" sWithI f fd) (Uwith_item : Use P w K mg base "with_item" ["tie", "at", "item"] (j + n) (spD K 3 (tfWith n))) (Umany_in : Use P w K mg base "many_in" ["tie"] j (spD K 1 tfMany)) (Usingle : Use P w K mg base "single" ["item"] j (spD K 1 tfSingle)) (Ulinked : Use P w K mg base "linked" ["left", "item", "right"] j (spD K 3 (tfLinked 60))) (T : Bl mg) :
    FnOk P w K mg base CX0 (j + n + 1) f fd ["tie", "at", "item"] (spD K 3 (tfWith (n + 1))) := by
  refine okD F scWithI rfl fun cdv A outer s H E hr => ?_
  refine ⟨_, _, (pss_cons (ps_if (pt_cmpR op_isN (pv 0) pe_non (nomark _)) (pss_one (ps_ret (pe_call Usingle.ok (hr.mono (by omega)) rfl Usingle.m Usingle.kp Usingle.b .nil pass0 (pa_cons (pv 2) pa_nil)))) pss_nil)
    (pss_cons (ps_asg (pe_slice sl_tupA (pv 0) po_none (po_some pe_int)) (pg_tup rfl (pgs_cons (pg_name (i := 3) scWithI.nd rfl (.inl rfl)) (pgs_cons (pg_name (i := 4) scWithI.nd rfl (.inl rfl)) (pgs_cons (pg_name (i := 5) scWithI.nd rfl (.inl rfl)) pgs_nil)))))
    (pss_cons (ps_if (pt_cmpR op_le (pv 1) (pe_call Umany_in.ok (hr.mono (by omega)) rfl Umany_in.m Umany_in.kp Umany_in.b .nil pass0 (pa_cons (pv 3) pa_nil)) (nomark _)) (pss_one (ps_ret (pe_call Ulinked.ok (hr.mono (by omega)) rfl Ulinked.m Ulinked.kp Ulinked.b .nil pass0 (pa_cons (pe_call Uwith_item.ok (hr.mono (by omega)) rfl Uwith_item.m Uwith_item.kp Uwith_item.b .nil pass0 (pa_cons (pv 3) (pa_cons (pv 1) (pa_cons (pv 2) pa_nil)))) (pa_cons (pv 4) (pa_cons (pv 5) pa_nil)))))) pss_nil)
    (pss_one (ps_ret (pe_call Ulinked.ok (hr.mono (by omega)) rfl Ulinked.m Ulinked.kp Ulinked.b .nil pass0 (pa_cons (pv 3) (pa_cons (pv 4) (pa_cons (pe_call Uwith_item.ok (hr.mono (by omega)) rfl Uwith_item.m Uwith_item.kp Uwith_item.b .nil pass0 (pa_cons (pv 5) (pa_cons (pe_op op_sub (pe_op op_sub (pv 1) (pe_call Umany_in.ok (hr.mono (by omega)) rfl Umany_in.m Umany_in.kp Umany_in.b .nil pass0 (pa_cons (pv 3) pa_nil))) pe_int) (pa_cons (pv 2) pa_nil)))) pa_nil))))))))),
    (ss_cons (ss_if (st_test (se_op so_isN se_nm se_non)) (ss_ret (se_call (sa_cons se_nm sa_nil))) ss_nil)
    (ss_cons (ss_unp sg_tup3 (se_sl sl_T se_nm sp_no (sp_some se_int)))
    (ss_cons (ss_if (st_test (se_op so_le se_nm (se_call (sa_cons se_nm sa_nil)))) (ss_ret (se_call (sa_cons (se_call (sa_cons se_nm (sa_cons se_nm (sa_cons se_nm sa_nil)))) (sa_cons se_nm (sa_cons se_nm sa_nil))))) ss_nil)
    (ss_ret (se_call (sa_cons se_nm (sa_cons se_nm (sa_cons (se_call (sa_cons se_nm (sa_cons (se_op so_sub (se_op so_sub se_nm (se_call (sa_cons se_nm sa_nil))) se_int) (sa_cons se_nm sa_nil)))) sa_nil)))))))), fun ws M R RX hl h => ?_⟩
  match ws, h with
  | [a, b, .d it], h =>
  obtain ⟨t, rfl, h1⟩ := h
  obtain ⟨i, rfl, ⟨hd, he, i0, i1, hz⟩, h2⟩ := gI_of h1
  cases t with
  | nil =>
    rw [sz] at i1
    simp only [start0, len_c, len_n, map_c, map_n, app_c, app_n, rep_0, rep_s, Nat.reduceAdd, Nat.reduceSub]
    decreasing_trivial_pre_omega
    exact h2 _ ⟨⟨⟨by decide, by decide⟩, trivial, trivial⟩, by rw [show i.toNat = 0 by omega]; rfl⟩ (fun Kn C => Nat.le_trans (cost_node (Kn := Kn) nil nil it) (by show 0 + 0 + 1 ≤ 0 + (5 * 0 + 1); omega))
  | node l y r =>
    obtain ⟨hb, hl, hr'⟩ := he
    obtain ⟨hb1, hb2⟩ := hb
    rw [hg] at hd
    rw [sz] at i1 hz
    rw [its] at h2
    have ln := its_len l
    have rn := its_len r
    have fl := flat_of hl (by omega)
    have fr := flat_of hr' (by omega)
    rw [toD_node]
    simp only [start0, len_c, len_n, map_c, map_n, app_c, app_n, rep_0, rep_s, Nat.reduceAdd, Nat.reduceSub]
    decreasing_trivial_pre_omega
    rw [cut3]
    decreasing_trivial_pre_omega
    refine IfB.d (fun c => ?_) (fun c => ?_)
    · decreasing_trivial_pre_omega
      intro t' ht had
      have e := ht.sz
      rw [insAt_len (by omega)] at e
      have ft := flat_of ht.ev (by omega)
      have hev := ht.ev
      decreasing_trivial_pre_omega
      obtain ⟨q1, q2⟩ := link_is (x := y) hev hr' (by omega)
      rw [ht.its] at q1
      exact h2 _ (by rw [insAt_left (by omega)]; exact q1) ((ad_l (x := y) (n := 60) had hev hr' (by omega) (by omega)).le (by rw [hg]; omega))
    · decreasing_trivial_pre_omega
      intro t' ht had
      have e := ht.sz
      rw [insAt_len (by omega)] at e
      have ft := flat_of ht.ev (by omega)
      have hev := ht.ev
      decreasing_trivial_pre_omega
      obtain ⟨q1, q2⟩ := link_is (x := y) hl hev (by omega)
      rw [ht.its] at q1
      exact h2 _ (by rw [insAt_right (by omega), ln, show i.toNat - sz l - 1 = (i - (sz l : Nat) - 1).toNat by omega]; exact q1) ((ad_r (x := y) (n := 60) had hl hev (by omega) (by omega)).le (by rw [hg]; omega))
theorem ok_withI {f : Addr} {fd : FuncData} {j : Nat} (F : Fun K "with_item" "with_item" sWithI f fd) (mF : mg "with_item" = some (.ref f)) (Umany_in : Use P w K mg base "many_in" ["tie"] j (spD K 1 tfMany)) (Usingle : Use P w K mg base "single" ["item"] j (spD K 1 tfSingle)) (Ulinked : Use P w K mg base "linked" ["left", "item", "right"] j (spD K 3 (tfLinked 60))) (T : Bl mg) : ∀ n, FnOk P w K mg base CX0 (j + n) f fd ["tie", "at", "item"] (spD K 3 (tfWith n))
  | 0 => no0 fun ws M R RX h => by
    match ws, h with
    | [a, b, .d it], h =>
    obtain ⟨t, rfl, h1⟩ := h
    obtain ⟨i, rfl, ⟨hd, _⟩, h2⟩ := gI_of h1
    omega
  | n + 1 => ok_withI1 F ⟨f, fd, ok_withI F mF Umany_in Usingle Ulinked T n, mF, F.kp, F.binds (ps := ["tie", "at", "item"]) fun _ _ _ _ _ _ us hl => match us, hl with | [_, _, _], _ => rfl⟩ Umany_in Usingle Ulinked T
abbrev sBoth : Stmt := top 19
theorem scBoth : FnScope ["one", "other"] ["one", "other"] (defScope sBoth) := ⟨rfl, rfl, rfl, by decide +kernel, rfl, by decide +kernel, by decide +kernel⟩
theorem ok_both1 {f : Addr} {fd : FuncData} {n j : Nat} (F : Fun K "both_of" "both_of" sBoth f fd) (Uwithout_item : Use P w K mg base "without_item" ["tie", "at"] j (spD K 2 (tfWo n))) (Unth : Use P w K mg base "nth" ["tie", "at"] j (spD K 2 (tfNth 30))) (Ulinked : Use P w K mg base "linked" ["left", "item", "right"] j (spD K 3 (tfLinked 60))) (T : Bl mg) :
    FnOk P w K mg base CX0 (j + 1) f fd ["one", "other"] (spD K 2 (tfBoth n)) := by
  refine okD F scBoth rfl fun cdv A outer s H E hr => ?_
  refine ⟨_, _, (pss_cons (ps_if (pt_cmpR op_isN (pv 1) pe_non (nomark _)) (pss_one (ps_ret (pv 0))) pss_nil)
    (pss_one (ps_ret (pe_call Ulinked.ok (hr.mono (by omega)) rfl Ulinked.m Ulinked.kp Ulinked.b .nil pass0 (pa_cons (pv 0) (pa_cons (pe_call Unth.ok (hr.mono (by omega)) rfl Unth.m Unth.kp Unth.b .nil pass0 (pa_cons (pv 1) (pa_cons pe_int pa_nil))) (pa_cons (pe_call Uwithout_item.ok (hr.mono (by omega)) rfl Uwithout_item.m Uwithout_item.kp Uwithout_item.b .nil pass0 (pa_cons (pv 1) (pa_cons pe_int pa_nil))) pa_nil))))))),
    (ss_cons (ss_if (st_test (se_op so_isN se_nm se_non)) (ss_ret se_nm) ss_nil)
    (ss_ret (se_call (sa_cons se_nm (sa_cons (se_call (sa_cons se_nm (sa_cons se_int sa_nil))) (sa_cons (se_call (sa_cons se_nm (sa_cons se_int sa_nil))) sa_nil)))))), fun ws M R RX hl h => ?_⟩
  obtain ⟨x, y, rfl, h1⟩ := g2_of h
  obtain ⟨a, rfl, b, rfl, ⟨hd, ha, hb, hz⟩, h2⟩ := h1
  cases b with
  | nil =>
    simp only [start0, len_c, len_n, map_c, map_n, app_c, app_n, rep_0, rep_s, Nat.reduceAdd, Nat.reduceSub]
    decreasing_trivial_pre_omega
    exact h2 a ⟨ha, by rw [its, List.append_nil]⟩ ⟨fun Kn C w _ _ => by omega, fun _ _ Kn C => by omega⟩
  | node l y r =>
    have hb' := hb
    obtain ⟨_, hl, hr'⟩ := hb'
    have fa := flat_of ha (by omega)
    have fb := flat_of hb (by omega)
    have nn : 0 < sz (node l y r) := by rw [sz]; omega
    have bn := its_len (node l y r)
    simp only [start0, len_c, len_n, map_c, map_n, app_c, app_n, rep_0, rep_s, Nat.reduceAdd, Nat.reduceSub]
    refine ⟨rfl, gO_i (a := false) rfl ?_⟩
    decreasing_trivial_pre_omega
    intro d hd0
    decreasing_trivial_pre_omega
    intro t' ht had
    have e := ht.sz
    have ol := outAt_len (xs := its (node l y r)) (k := 0) (by omega)
    have ft := flat_of ht.ev (by rw [show (0 : Int).toNat = 0 from rfl] at e; omega)
    have hev := ht.ev
    rw [show (0 : Int).toNat = 0 from rfl] at e ht hd0
    decreasing_trivial_pre_omega
    obtain ⟨ht2, q2⟩ := link_is (x := d) ha hev (by omega)
    refine h2 _ ?_ ⟨fun Kn C w w1 w2 => ?_, fun w1 w2 Kn C => ?_⟩
    · obtain ⟨xs, hxs⟩ : ∃ xs, its (node l y r) = d :: xs := by
        cases q : its (node l y r) with
        | nil => rw [q] at hd0; cases hd0
        | cons z zs => rw [q] at hd0; cases hd0; exact ⟨zs, rfl⟩
      rw [ht.its, hxs, out_0] at ht2
      rw [hxs]
      exact ht2
    · have k1 := link_cost C 60 a t' d
      have k2 := had Kn C
      have k3 := dsc_max (n := 60) ha hev w1 (show sz t' + 1 ≤ w by omega)
      omega
    · have k1 := link_near C (n := 60) (x := d) ha hev (by omega) (by omega)
      have k2 := had Kn C
      omega
abbrev sWo : Stmt := top 18
theorem scWo : FnScope ["tie", "at", "left", "own", "right"] ["tie", "at"] (defScope sWo) := ⟨rfl, rfl, rfl, by decide +kernel, rfl, by decide +kernel, by decide +kernel⟩
theorem ok_wo1 {f : Addr} {fd : FuncData} {n j jm : Nat} (F : Fun K "without_item" "without_item" sWo f fd) (Uwithout_item : Use P w K mg base "without_item" ["tie", "at"] j (spD K 2 (tfWo n))) (Uboth_of : Use P w K mg base "both_of" ["one", "other"] j (spD K 2 (tfBoth n))) (Umany_in : Use P w K mg base "many_in" ["tie"] jm (spD K 1 tfMany)) (Ulinked : Use P w K mg base "linked" ["left", "item", "right"] jm (spD K 3 (tfLinked 60))) (hjm : jm ≤ j) (T : Bl mg) :
    FnOk P w K mg base CX0 (j + 1) f fd ["tie", "at"] (spD K 2 (tfWo (n + 1))) := by
  refine okD F scWo rfl fun cdv A outer s H E hr => ?_
  refine ⟨_, _, (pss_cons (ps_asg (pe_slice sl_tupA (pv 0) po_none (po_some pe_int)) (pg_tup rfl (pgs_cons (pg_name (i := 2) scWo.nd rfl (.inl rfl)) (pgs_cons (pg_name (i := 3) scWo.nd rfl (.inl rfl)) (pgs_cons (pg_name (i := 4) scWo.nd rfl (.inl rfl)) pgs_nil)))))
    (pss_cons (ps_if (pt_cmpR op_lt (pv 1) (pe_call Umany_in.ok (hr.mono (by omega)) rfl Umany_in.m Umany_in.kp Umany_in.b .nil pass0 (pa_cons (pv 2) pa_nil)) (nomark _)) (pss_one (ps_ret (pe_call Ulinked.ok (hr.mono (by omega)) rfl Ulinked.m Ulinked.kp Ulinked.b .nil pass0 (pa_cons (pe_call Uwithout_item.ok (hr.mono (by omega)) rfl Uwithout_item.m Uwithout_item.kp Uwithout_item.b .nil pass0 (pa_cons (pv 2) (pa_cons (pv 1) pa_nil))) (pa_cons (pv 3) (pa_cons (pv 4) pa_nil)))))) pss_nil)
    (pss_cons (ps_if (pt_cmpR op_gt (pv 1) (pe_call Umany_in.ok (hr.mono (by omega)) rfl Umany_in.m Umany_in.kp Umany_in.b .nil pass0 (pa_cons (pv 2) pa_nil)) (nomark _)) (pss_one (ps_ret (pe_call Ulinked.ok (hr.mono (by omega)) rfl Ulinked.m Ulinked.kp Ulinked.b .nil pass0 (pa_cons (pv 2) (pa_cons (pv 3) (pa_cons (pe_call Uwithout_item.ok (hr.mono (by omega)) rfl Uwithout_item.m Uwithout_item.kp Uwithout_item.b .nil pass0 (pa_cons (pv 4) (pa_cons (pe_op op_sub (pe_op op_sub (pv 1) (pe_call Umany_in.ok (hr.mono (by omega)) rfl Umany_in.m Umany_in.kp Umany_in.b .nil pass0 (pa_cons (pv 2) pa_nil))) pe_int) pa_nil))) pa_nil)))))) pss_nil)
    (pss_one (ps_ret (pe_call Uboth_of.ok (hr.mono (by omega)) rfl Uboth_of.m Uboth_of.kp Uboth_of.b .nil pass0 (pa_cons (pv 2) (pa_cons (pv 4) pa_nil)))))))),
    (ss_cons (ss_unp sg_tup3 (se_sl sl_T se_nm sp_no (sp_some se_int)))
    (ss_cons (ss_if (st_test (se_op so_lt se_nm (se_call (sa_cons se_nm sa_nil)))) (ss_ret (se_call (sa_cons (se_call (sa_cons se_nm (sa_cons se_nm sa_nil))) (sa_cons se_nm (sa_cons se_nm sa_nil))))) ss_nil)
    (ss_cons (ss_if (st_test (se_op so_gt se_nm (se_call (sa_cons se_nm sa_nil)))) (ss_ret (se_call (sa_cons se_nm (sa_cons se_nm (sa_cons (se_call (sa_cons se_nm (sa_cons (se_op so_sub (se_op so_sub se_nm (se_call (sa_cons se_nm sa_nil))) se_int) sa_nil))) sa_nil))))) ss_nil)
    (ss_ret (se_call (sa_cons se_nm (sa_cons se_nm sa_nil))))))), fun ws M R RX hl h => ?_⟩
  obtain ⟨x, y, rfl, h1⟩ := g2_of h
  obtain ⟨t, rfl, h1⟩ := h1
  obtain ⟨i, rfl, ⟨hd, he, i0, i1, hz⟩, h2⟩ := gI_of h1
  cases t with
  | nil => exfalso; rw [sz] at i1; omega
  | node l y r =>
    obtain ⟨hb, hl, hr'⟩ := he
    obtain ⟨hb1, hb2⟩ := hb
    rw [hg] at hd
    rw [sz] at i1 hz
    rw [its] at h2
    have ln := its_len l
    have rn := its_len r
    have fl := flat_of hl (by omega)
    have fr := flat_of hr' (by omega)
    rw [toD_node]
    simp only [start0, len_c, len_n, map_c, map_n, app_c, app_n, rep_0, rep_s, Nat.reduceAdd, Nat.reduceSub]
    decreasing_trivial_pre_omega
    rw [cut3]
    decreasing_trivial_pre_omega
    refine IfB.d (fun c => ?_) (fun c => ?_)
    · decreasing_trivial_pre_omega
      intro t' ht had
      have e := ht.sz
      have ol := outAt_len (xs := its l) (k := i.toNat) (by omega)
      have ft := flat_of ht.ev (by omega)
      have hev := ht.ev
      decreasing_trivial_pre_omega
      obtain ⟨q1, q2⟩ := link_is (x := y) hev hr' (by omega)
      rw [ht.its] at q1
      exact h2 _ (by rw [outAt_left (by omega)]; exact q1) ((ad_l (x := y) (n := 60) had hev hr' (by omega) (by omega)).le (by rw [hg]; omega))
    · decreasing_trivial_pre_omega
      refine IfB.d (fun c2 => ?_) (fun c2 => ?_)
      · decreasing_trivial_pre_omega
        intro t' ht had
        have e := ht.sz
        have ol := outAt_len (xs := its r) (k := (i - (sz l : Nat) - 1).toNat) (by omega)
        have ft := flat_of ht.ev (by omega)
        have hev := ht.ev
        decreasing_trivial_pre_omega
        obtain ⟨q1, q2⟩ := link_is (x := y) hl hev (by omega)
        rw [ht.its] at q1
        exact h2 _ (by rw [outAt_right (by omega), ln, show i.toNat - sz l - 1 = (i - (sz l : Nat) - 1).toNat by omega]; exact q1) ((ad_r (x := y) (n := 60) had hl hev (by omega) (by omega)).le (by rw [hg]; omega))
      · decreasing_trivial_pre_omega
        intro t2 ht2 had
        refine h2 t2 (by rw [show i.toNat = (its l).length by omega, outAt_mid]; exact ht2) (fun Kn C => ?_)
        have k1 := had.2 (by omega) (by omega) Kn C
        have k2 := cost_kids C l r y
        rw [hg]
        omega
theorem ok_wo {f fb : Addr} {fd fdb : FuncData} {j : Nat} (F : Fun K "without_item" "without_item" sWo f fd) (mF : mg "without_item" = some (.ref f)) (Fb : Fun K "both_of" "both_of" sBoth fb fdb) (mFb : mg "both_of" = some (.ref fb)) (Unth : Use P w K mg base "nth" ["tie", "at"] j (spD K 2 (tfNth 30))) (Umany_in : Use P w K mg base "many_in" ["tie"] j (spD K 1 tfMany)) (Ulinked : Use P w K mg base "linked" ["left", "item", "right"] j (spD K 3 (tfLinked 60))) (T : Bl mg) : ∀ n, FnOk P w K mg base CX0 (j + 2 * n) f fd ["tie", "at"] (spD K 2 (tfWo n))
  | 0 => no0 fun ws M R RX h => by
    obtain ⟨x, y, rfl, h1⟩ := g2_of h
    obtain ⟨t, rfl, h1⟩ := h1
    obtain ⟨i, rfl, ⟨hd, _⟩, h2⟩ := gI_of h1
    omega
  | n + 1 =>
    let u1 : Use P w K mg base "without_item" ["tie", "at"] (j + 2 * n) (spD K 2 (tfWo n)) := ⟨f, fd, ok_wo F mF Fb mFb Unth Umany_in Ulinked T n, mF, F.kp, F.binds (ps := ["tie", "at"]) fun _ _ _ _ _ _ us hl => match us, hl with | [_, _], _ => rfl⟩
    let u2 : Use P w K mg base "both_of" ["one", "other"] (j + 2 * n + 1) (spD K 2 (tfBoth n)) := ⟨fb, fdb, ok_both1 Fb u1 (Unth.up (by omega)) (Ulinked.up (by omega)) T, mFb, Fb.kp, Fb.binds (ps := ["one", "other"]) fun _ _ _ _ _ _ us hl => match us, hl with | [_, _], _ => rfl⟩
    ok_wo1 (j := j + 2 * n + 1) F (u1.up (by omega)) u2 Umany_in Ulinked (by omega) T
abbrev sHalves : Stmt := top 20
theorem scHalves : FnScope ["tie", "at", "left", "item", "right", "first", "rest"] ["tie", "at"] (defScope sHalves) := ⟨rfl, rfl, rfl, by decide +kernel, rfl, by decide +kernel, by decide +kernel⟩
theorem ok_halves1 {f : Addr} {fd : FuncData} {n j : Nat} (F : Fun K "halves" "halves" sHalves f fd) (Uhalves : Use P w K mg base "halves" ["tie", "at"] (j + n) (spD K 2 (tfHalves n))) (Umany_in : Use P w K mg base "many_in" ["tie"] j (spD K 1 tfMany)) (Ulinked : Use P w K mg base "linked" ["left", "item", "right"] j (spD K 3 (tfLinked 60))) (T : Bl mg) :
    FnOk P w K mg base CX0 (j + n + 1) f fd ["tie", "at"] (spD K 2 (tfHalves (n + 1))) := by
  refine okD F scHalves rfl fun cdv A outer s H E hr => ?_
  refine ⟨_, _, (pss_cons (ps_if (pt_cmpR op_eq (pv 1) pe_int (nomark _)) (pss_one (ps_ret (pe_tup (pa_cons pe_non (pa_cons (pv 0) pa_nil))))) pss_nil)
    (pss_cons (ps_if (pt_cmpR op_eq (pv 1) (pe_call Umany_in.ok (hr.mono (by omega)) rfl Umany_in.m Umany_in.kp Umany_in.b .nil pass0 (pa_cons (pv 0) pa_nil)) (nomark _)) (pss_one (ps_ret (pe_tup (pa_cons (pv 0) (pa_cons pe_non pa_nil))))) pss_nil)
    (pss_cons (ps_asg (pe_slice sl_tupA (pv 0) po_none (po_some pe_int)) (pg_tup rfl (pgs_cons (pg_name (i := 2) scHalves.nd rfl (.inl rfl)) (pgs_cons (pg_name (i := 3) scHalves.nd rfl (.inl rfl)) (pgs_cons (pg_name (i := 4) scHalves.nd rfl (.inl rfl)) pgs_nil)))))
    (pss_cons (ps_if (pt_cmpR op_le (pv 1) (pe_call Umany_in.ok (hr.mono (by omega)) rfl Umany_in.m Umany_in.kp Umany_in.b .nil pass0 (pa_cons (pv 2) pa_nil)) (nomark _)) (pss_cons (ps_asg (pe_call Uhalves.ok (hr.mono (by omega)) rfl Uhalves.m Uhalves.kp Uhalves.b .nil pass0 (pa_cons (pv 2) (pa_cons (pv 1) pa_nil))) (pg_tup rfl (pgs_cons (pg_name (i := 5) scHalves.nd rfl (.inl rfl)) (pgs_cons (pg_name (i := 6) scHalves.nd rfl (.inl rfl)) pgs_nil))))
      (pss_one (ps_ret (pe_tup (pa_cons (pv 5) (pa_cons (pe_call Ulinked.ok (hr.mono (by omega)) rfl Ulinked.m Ulinked.kp Ulinked.b .nil pass0 (pa_cons (pv 6) (pa_cons (pv 3) (pa_cons (pv 4) pa_nil)))) pa_nil)))))) pss_nil)
    (pss_cons (ps_asg (pe_call Uhalves.ok (hr.mono (by omega)) rfl Uhalves.m Uhalves.kp Uhalves.b .nil pass0 (pa_cons (pv 4) (pa_cons (pe_op op_sub (pe_op op_sub (pv 1) (pe_call Umany_in.ok (hr.mono (by omega)) rfl Umany_in.m Umany_in.kp Umany_in.b .nil pass0 (pa_cons (pv 2) pa_nil))) pe_int) pa_nil))) (pg_tup rfl (pgs_cons (pg_name (i := 5) scHalves.nd rfl (.inl rfl)) (pgs_cons (pg_name (i := 6) scHalves.nd rfl (.inl rfl)) pgs_nil))))
    (pss_one (ps_ret (pe_tup (pa_cons (pe_call Ulinked.ok (hr.mono (by omega)) rfl Ulinked.m Ulinked.kp Ulinked.b .nil pass0 (pa_cons (pv 2) (pa_cons (pv 3) (pa_cons (pv 5) pa_nil)))) (pa_cons (pv 6) pa_nil)))))))))),
    (ss_cons (ss_if (st_test (se_op so_eqS se_nm se_int)) (ss_ret (se_tup (sa_cons se_non (sa_cons se_nm sa_nil)))) ss_nil)
    (ss_cons (ss_if (st_test (se_op so_eqS se_nm (se_call (sa_cons se_nm sa_nil)))) (ss_ret (se_tup (sa_cons se_nm (sa_cons se_non sa_nil)))) ss_nil)
    (ss_cons (ss_unp sg_tup3 (se_sl sl_T se_nm sp_no (sp_some se_int)))
    (ss_cons (ss_if (st_test (se_op so_le se_nm (se_call (sa_cons se_nm sa_nil)))) (ss_cons (ss_unp sg_tup2 (se_call (sa_cons se_nm (sa_cons se_nm sa_nil))))
      (ss_ret (se_tup (sa_cons se_nm (sa_cons (se_call (sa_cons se_nm (sa_cons se_nm (sa_cons se_nm sa_nil)))) sa_nil))))) ss_nil)
    (ss_cons (ss_unp sg_tup2 (se_call (sa_cons se_nm (sa_cons (se_op so_sub (se_op so_sub se_nm (se_call (sa_cons se_nm sa_nil))) se_int) sa_nil))))
    (ss_ret (se_tup (sa_cons (se_call (sa_cons se_nm (sa_cons se_nm (sa_cons se_nm sa_nil)))) (sa_cons se_nm sa_nil))))))))), fun ws M R RX hl h => ?_⟩
  obtain ⟨x, y, rfl, h1⟩ := g2_of h
  obtain ⟨t, rfl, h1⟩ := h1
  obtain ⟨i, rfl, ⟨hd, he, i0, i1, hz⟩, h2⟩ := gI_of h1
  simp only [start0, len_c, len_n, map_c, map_n, app_c, app_n, rep_0, rep_s, Nat.reduceAdd, Nat.reduceSub]
  decreasing_trivial_pre_omega
  refine IfB.d (fun c0 => ?_) (fun c0 => ?_)
  · decreasing_trivial_pre_omega
    exact h2 nil t ⟨trivial, by rw [show i.toNat = 0 by omega]; rfl⟩ ⟨he, by rw [show i.toNat = 0 by omega]; rfl⟩ ((ad_nil t).le (Nat.zero_le _)) ((ad_self t).le (Nat.zero_le _))
  · decreasing_trivial_pre_omega
    have tn := its_len t
    refine IfB.d (fun c1 => ?_) (fun c1 => ?_)
    · decreasing_trivial_pre_omega
      exact h2 t nil ⟨he, by rw [List.take_of_length_le (by omega)]⟩ ⟨trivial, by rw [List.drop_of_length_le (by omega)]; rfl⟩ ((ad_self t).le (Nat.zero_le _)) ((ad_nil t).le (Nat.zero_le _))
    · cases t with
      | nil => exfalso; rw [sz] at i1; omega
      | node l y r =>
        obtain ⟨hb, hl, hr'⟩ := he
        obtain ⟨hb1, hb2⟩ := hb
        rw [hg] at hd
        rw [sz] at i1 hz c1
        rw [its] at h2
        have ln := its_len l
        have rn := its_len r
        have fl := flat_of hl (by omega)
        have fr := flat_of hr' (by omega)
        rw [toD_node]
        decreasing_trivial_pre_omega
        rw [cut3]
        decreasing_trivial_pre_omega
        refine IfB.d (fun c => ?_) (fun c => ?_)
        · decreasing_trivial_pre_omega
          intro a b ha hb2 ad1 ad2
          have e2 := hb2.sz
          rw [List.length_drop] at e2
          have fb := flat_of hb2.ev (by omega)
          have hev := hb2.ev
          decreasing_trivial_pre_omega
          obtain ⟨ht2, q2⟩ := link_is (x := y) hev hr' (by omega)
          rw [hb2.its] at ht2
          refine h2 a _ ⟨ha.ev, by rw [take_left (by omega)]; exact ha.its⟩ (by rw [drop_left (by omega)]; exact ht2) ((ad_kid_l ad1).le ?_) ((ad_rest ad2 hev hr' (by omega) q2).le ?_)
          · rw [hg]; omega
          · rw [hg]; omega
        · decreasing_trivial_pre_omega
          intro a b ha hb2 ad1 ad2
          have e2 := ha.sz
          rw [List.length_take] at e2
          have fb := flat_of ha.ev (by omega)
          have hev := ha.ev
          decreasing_trivial_pre_omega
          obtain ⟨ht2, q2⟩ := link_is (x := y) hl hev (by omega)
          rw [ha.its] at ht2
          decreasing_trivial_pre_omega
          refine h2 _ b ?_ ⟨hb2.ev, ?_⟩ ((ad_first ad1 hev hl (by omega) q2).le ?_) ((ad_kid_r ad2).le ?_)
          · rw [take_right (by omega), ln, show i.toNat - sz l - 1 = (i - (sz l : Nat) - 1).toNat by omega]; exact ht2
          · rw [drop_right (by omega), ln, show i.toNat - sz l - 1 = (i - (sz l : Nat) - 1).toNat by omega]; exact hb2.its
          · rw [hg]; omega
          · rw [hg]; omega
theorem ok_halves {f : Addr} {fd : FuncData} {j : Nat} (F : Fun K "halves" "halves" sHalves f fd) (mF : mg "halves" = some (.ref f)) (Umany_in : Use P w K mg base "many_in" ["tie"] j (spD K 1 tfMany)) (Ulinked : Use P w K mg base "linked" ["left", "item", "right"] j (spD K 3 (tfLinked 60))) (T : Bl mg) : ∀ n, FnOk P w K mg base CX0 (j + n) f fd ["tie", "at"] (spD K 2 (tfHalves n))
  | 0 => no0 fun ws M R RX h => by
    obtain ⟨x, y, rfl, h1⟩ := g2_of h
    obtain ⟨t, rfl, h1⟩ := h1
    obtain ⟨i, rfl, ⟨hd, _⟩, h2⟩ := gI_of h1
    omega
  | n + 1 => ok_halves1 F ⟨f, fd, ok_halves F mF Umany_in Ulinked T n, mF, F.kp, F.binds (ps := ["tie", "at"]) fun _ _ _ _ _ _ us hl => match us, hl with | [_, _], _ => rfl⟩ Umany_in Ulinked T
end
end Tl
set_option Elab.async false
set_option linter.all false
set_option maxRecDepth 100000
set_option maxHeartbeats 8000000
namespace Tl
open PySem L2 RZ Tie
local macro_rules
  | `(tactic| decreasing_trivial) => `(tactic| ((with_reducible (conv => whnf)); (repeat ((first | (with_reducible refine gTie_i ?_) | (with_reducible refine gTie_n ?_) | (with_reducible refine gTie_4 ?_) | (with_reducible refine gDs_c ?_) | (with_reducible refine gDs_n ?_) | (with_reducible refine gNs_c ?_) | (with_reducible refine gNs_n ?_) | (with_reducible refine gO_i tyAny_lt ?_) | (with_reducible refine gIs_c ?_) | (with_reducible refine gIs_n ?_) | (with_reducible refine gBs_c ?_) | (with_reducible refine gBs_n ?_) | (with_reducible refine gSs_c ?_) | (with_reducible refine gSs_n ?_) | (with_reducible refine gO_i tyIs_int ?_) | (with_reducible refine gO_i tyIs_bool ?_) | (with_reducible refine gO_i tyIs_str ?_) | (with_reducible refine gO_i tyIs_tuple ?_) | (with_reducible refine gO_i tyIs_list ?_) | (with_reducible refine gDs_i ?_) | (with_reducible refine gO_i (Eq.refl _) ?_) | (with_reducible refine gO_i (by assumption) ?_) | (with_reducible refine gO_i at_0 ?_) | (with_reducible refine gO_i at_m0 ?_) | (with_reducible refine gO_i at_1 ?_) | (with_reducible refine gO_i at_m1 ?_) | (with_reducible refine gO_i at_2 ?_) | (with_reducible refine gO_i at_m2 ?_) | (with_reducible refine gO_i at_3 ?_) | (with_reducible refine gO_i at_m3 ?_) | (with_reducible refine gO_i at_4 ?_) | (with_reducible refine gO_i at_m4 ?_) | (with_reducible refine gO_i at_5 ?_) | (with_reducible refine gO_i at_m5 ?_) | (with_reducible refine gO_i at_6 ?_) | (with_reducible refine gO_i at_m6 ?_) | (with_reducible refine gO_i at_7 ?_) | (with_reducible refine gO_i at_m7 ?_) | (with_reducible refine IfB.ngf ?_) | (with_reducible refine IfB.ngt ?_) | (with_reducible refine IfB.not ?_) | (with_reducible refine IfB.nil ?_) | (with_reducible refine IfB.nilT ?_) | (with_reducible refine IfB.f isE_c ?_) | (with_reducible refine IfB.t isE_n ?_) | (with_reducible refine IfB.t ?gha ?_; (case gha => rfl)) | (with_reducible refine IfB.f ?gha ?_; (case gha => rfl)) | (with_reducible refine IfB.t ?gha ?_; (case gha => assumption)) | (with_reducible refine IfB.f ?gha ?_; (case gha => assumption)) | (with_reducible refine IfB.yes (Eq.refl _) ?_) | (with_reducible refine IfB.yes ?gha ?_; (case gha => (first | omega | (simp only [len_c, len_n, List.length_map]; omega)))) | (with_reducible refine IfB.no ?gha ?_; (case gha => (first | omega | (simp only [len_c, len_n, List.length_map]; omega)))) | (with_reducible refine IfB.t ?gha ?_; (case gha => decide +kernel)) | (with_reducible refine IfB.f ?gha ?_; (case gha => decide +kernel))); (with_reducible (conv => whnf))))))
local macro_rules
  | `(tactic| decreasing_trivial_pre_omega) => `(tactic| (decreasing_trivial; (repeat ((first | ((with_reducible refine And.intro ?gha ?_); (case gha => (first | assumption | omega | exact rfl | (exact mset_same) | (exact ⟨_, mset_same⟩) | (exact Exists.intro _ (by first | exact mset_same | assumption | (rw [mset_ne (by assumption)]; first | exact mset_same | assumption))) | (exact sm_of (by omega) (by omega)) | (exact sz1000 (by first | omega | (simp; done) | (simp; omega))) | (exact Or.inl ⟨by decide, by decide⟩) | decide | (simp; done) | (refine ⟨?_, ?_⟩ <;> (first | assumption | omega | exact rfl | (exact mset_same) | (exact ⟨_, mset_same⟩) | (exact Exists.intro _ (by first | exact mset_same | assumption | (rw [mset_ne (by assumption)]; first | exact mset_same | assumption))) | (exact sm_of (by omega) (by omega)) | (exact sz1000 (by first | omega | (simp; done) | (simp; omega))) | (exact Or.inl ⟨by decide, by decide⟩) | decide | (simp; done))) | (refine ⟨?_, ?_, ?_⟩ <;> (first | assumption | omega | exact rfl | (exact mset_same) | (exact ⟨_, mset_same⟩) | (exact Exists.intro _ (by first | exact mset_same | assumption | (rw [mset_ne (by assumption)]; first | exact mset_same | assumption))) | (exact sm_of (by omega) (by omega)) | (exact sz1000 (by first | omega | (simp; done) | (simp; omega))) | (exact Or.inl ⟨by decide, by decide⟩) | decide | (simp; done))) | (refine ⟨?_, ?_, ?_, ?_⟩ <;> (first | assumption | omega | exact rfl | (exact mset_same) | (exact ⟨_, mset_same⟩) | (exact Exists.intro _ (by first | exact mset_same | assumption | (rw [mset_ne (by assumption)]; first | exact mset_same | assumption))) | (exact sm_of (by omega) (by omega)) | (exact sz1000 (by first | omega | (simp; done) | (simp; omega))) | (exact Or.inl ⟨by decide, by decide⟩) | decide | (simp; done)))))) | (with_reducible refine exW (by first | exact mset_same | assumption | (rw [mset_ne (by assumption)]; first | exact mset_same | assumption)) ?_)); decreasing_trivial))))
abbrev sI_NoItem : Stmt := inClsN (top 6) 0
theorem scI_NoItem : FnScope ["self", "at"] ["self", "at"] (defScope sI_NoItem) := ⟨rfl, rfl, rfl, by decide +kernel, rfl, by decide +kernel, by decide +kernel⟩
theorem okI_NoItem {P : Program} {w : World} {K : PySem.W.Frag} {mg : Str → Option Value} {base : Heap} {f C : Addr} {fd : FuncData} {k : Nat} (F : Fun K "__init__" "NoItem.__init__" sI_NoItem f fd) (o : OexC K C) (n : PySem.W.findIn K (.ref C) "at" = some none) : FnOk P w K mg base CX0 (k + 1) f fd ["self", "at"] (spInitF K C "at") := by
  refine F.ok scI_NoItem (fun vs H Q E h => ?_) (fun cdv A outer s H vs Q E hr h => ?_)
  · obtain ⟨_, _, rfl, _⟩ := h
    rfl
  obtain ⟨a, v, rfl, ha, q⟩ := h
  exact ⟨_, pss_one (ps_ost (pv 0) (pv 1)), _, rfl, _, rfl, a, C, rfl, o, n, .inl ⟨ha, fun dx h1 h2 => q dx h1 h2⟩⟩
@[reducible] def tfBuiltL (n : Nat) : TF := fun ws M R _ => g1 ws fun x => gL x fun xs => (2 * xs.length + 2 ≤ 2 ^ n ∧ xs.length ≤ 1000) ∧ ∀ t, Is t xs → R (.d (toD t)) M
section
variable {P : Program} {w : World} {K : PySem.W.Frag} {mg : Str → Option Value} {base : Heap}
abbrev sBuilt : Stmt := top 16
theorem scBuilt : FnScope ["items", "middle"] ["items"] (defScope sBuilt) := ⟨rfl, rfl, rfl, by decide +kernel, rfl, by decide +kernel, by decide +kernel⟩
theorem ok_builtL1 {f : Addr} {fd : FuncData} {n j : Nat} (F : Fun K "built" "built" sBuilt f fd) (Ubuilt : Use P w K mg base "built" ["items"] (j + n) (spD K 1 (tfBuiltL n))) (Uknit : Use P w K mg base "knit" ["left", "item", "right"] j (spD K 3 tfKnit)) (T : Bl mg) :
    FnOk P w K mg base CX0 (j + n + 1) f fd ["items"] (spD K 1 (tfBuiltL (n + 1))) := by
  refine okD F scBuilt rfl fun cdv A outer s H E hr => ?_
  refine ⟨_, _, (pss_cons (ps_if (pt_cmpR op_eq (pe_callB call_len_seq (by rfl) T.len PySem.boot_len (pa_cons (pv 0) pa_nil)) pe_int (nomark _)) (pss_one (ps_ret pe_non)) pss_nil)
    (pss_cons (ps_set (i := 1) scBuilt.nd rfl (.inl rfl) (pe_op op_fdivN (pe_callB call_len_seq (by rfl) T.len PySem.boot_len (pa_cons (pv 0) pa_nil)) pe_int))
    (pss_one (ps_ret (pe_call Uknit.ok (hr.mono (by omega)) rfl Uknit.m Uknit.kp Uknit.b .nil pass0 (pa_cons (pe_call Ubuilt.ok (hr.mono (by omega)) rfl Ubuilt.m Ubuilt.kp Ubuilt.b .nil pass0 (pa_cons (pe_slice sl_list (pv 0) po_none (po_some (pv 1))) pa_nil)) (pa_cons (pe_ix ix_list (pv 0) (pv 1) (fun _ _ => rfl)) (pa_cons (pe_call Ubuilt.ok (hr.mono (by omega)) rfl Ubuilt.m Ubuilt.kp Ubuilt.b .nil pass0 (pa_cons (pe_slice sl_list (pv 0) (po_some (pe_op op_add (pv 1) pe_int)) po_none) pa_nil)) pa_nil)))))))),
    (ss_cons (ss_if (st_test (se_op so_eqS (se_cb sc_len (sa_cons se_nm sa_nil)) se_int)) (ss_ret se_non) ss_nil)
    (ss_cons (ss_set (se_op so_div (se_cb sc_len (sa_cons se_nm sa_nil)) se_int))
    (ss_ret (se_call (sa_cons (se_call (sa_cons (se_sl sl_F se_nm sp_no (sp_some se_nm)) sa_nil)) (sa_cons (se_op so_ixL se_nm se_nm) (sa_cons (se_call (sa_cons (se_sl sl_F se_nm (sp_some (se_op so_add se_nm se_int)) sp_no) sa_nil)) sa_nil))))))), fun ws M R RX hl h => ?_⟩
  obtain ⟨x, rfl, h1⟩ := g1_of h
  obtain ⟨xs, rfl, ⟨hn, hl⟩, h2⟩ := gL_of h1
  have hp : n = 0 ∨ ∃ m, 2 ^ n = 2 * m := by
    cases n with
    | zero => exact .inl rfl
    | succ n => exact .inr ⟨2 ^ n, by rw [Nat.pow_succ]; omega⟩
  have hp' : ∀ c : Nat, c ≤ xs.length / 2 → xs.length ≠ 0 → 2 * c + 2 ≤ 2 ^ n := fun c hc h0 => by
    rw [Nat.pow_succ] at hn
    rcases hp with rfl | ⟨m, e⟩
    · rw [Nat.pow_zero] at hn; omega
    · omega
  simp only [start0, len_c, len_n, map_c, map_n, app_c, app_n, rep_0, rep_s, Nat.reduceAdd, Nat.reduceSub]
  decreasing_trivial_pre_omega
  rw [List.length_map]
  refine IfB.d (fun c => ?_) (fun c => ?_)
  · decreasing_trivial_pre_omega
    have : xs = [] := List.eq_nil_of_length_eq_zero (by omega)
    subst this
    exact h2 nil .nil
  · decreasing_trivial_pre_omega
    rw [List.length_map, half, cut_to]
    have hk : xs.length / 2 < xs.length := by omega
    refine ⟨⟨hp' _ (by rw [List.length_take]; omega) (by omega), by rw [List.length_take]; omega⟩, fun a ha => ?_⟩
    decreasing_trivial_pre_omega
    rw [half]
    refine gO_i (a := W.d (xs[xs.length / 2]'hk)) (atI_nat (by rw [List.getElem?_map, List.getElem?_eq_getElem hk]; rfl)) ?_
    decreasing_trivial_pre_omega
    rw [half, cut_from1]
    refine ⟨⟨hp' _ (by rw [List.length_drop]; omega) (by omega), by rw [List.length_drop]; omega⟩, fun b hb => ?_⟩
    decreasing_trivial_pre_omega
    have := Is.node (x := xs[xs.length / 2]'hk) ha hb ⟨by rw [List.length_take, List.length_drop]; omega, by rw [List.length_take, List.length_drop]; omega⟩
    rw [← List.drop_eq_getElem_cons hk, List.take_append_drop] at this
    exact h2 _ this
theorem ok_builtL {f : Addr} {fd : FuncData} {j : Nat} (F : Fun K "built" "built" sBuilt f fd) (mF : mg "built" = some (.ref f)) (Uknit : Use P w K mg base "knit" ["left", "item", "right"] j (spD K 3 tfKnit)) (T : Bl mg) : ∀ n, FnOk P w K mg base CX0 (j + n) f fd ["items"] (spD K 1 (tfBuiltL n))
  | 0 => no0 fun ws M R RX h => by
    obtain ⟨x, rfl, h1⟩ := g1_of h
    obtain ⟨xs, rfl, ⟨hn, hl⟩, h2⟩ := gL_of h1
    rw [Nat.pow_zero] at hn
    omega
  | n + 1 => ok_builtL1 F ⟨f, fd, ok_builtL F mF Uknit T n, mF, F.kp, F.binds (ps := ["items"]) fun _ _ _ _ _ _ us hl => match us, hl with | [_], _ => rfl⟩ Uknit T
abbrev sSeat : Stmt := top 33
theorem scSeat : FnScope ["at", "behind"] ["at", "behind"] (defScope sSeat) := ⟨rfl, rfl, rfl, by decide +kernel, rfl, by decide +kernel, by decide +kernel⟩
@[reducible] def tfSeat (C : Addr) : TF := fun ws M R RX => g2 ws fun x y => gD x fun d => gI y fun b => txt d = true ∧ (isNum (b - 1) d = true → R (.d .none) M) ∧ (isNum (b - 1) d = false → RX ⟨.ref C, [("at", d)]⟩ M)
theorem ok_seat {f C : Addr} {fd : FuncData} {k j : Nat} (F : Fun K "check_seat" "check_seat" sSeat f fd) (XNoItem : ErF K mg "NoItem" "NoItem.__init__" "at" sI_NoItem C) (Uis_number : Use P w K mg base "is_number" ["thing", "most"] j (spD K 2 (tfB2 isNum))) (hj : j ≤ k) (hk : 2 ≤ k) :
    FnOk P w K mg base (L2.CX P w) (k + 1) f fd ["at", "behind"] (spD K 2 (tfSeat C)) := by
  obtain ⟨fiNoItem, fdNoItem, iNoItem, tNoItem, FNoItem⟩ := XNoItem.i
  have okNoItem := okI_NoItem (P := P) (w := w) (mg := mg) (base := base) (k := 0) FNoItem XNoItem.o XNoItem.n
  have bNoItem := FNoItem.binds (ps := ["self", "at"]) fun _ _ _ _ _ _ us hl => match us, hl with | [_, _], _ => rfl
  refine okDX F scSeat rfl fun cdv A outer s H E hr => ?_
  refine ⟨_, fun RE => _, (pss_one (ps_if (pt_not (pt_val (PE.nox (pe_call Uis_number.ok (hr.mono (by omega)) rfl Uis_number.m Uis_number.kp Uis_number.b .nil pass0 (pa_cons (pv 0) (pa_cons (pe_op op_sub (pv 1) pe_int) pa_nil)))))) (pss_one (ps_raise rfl (takes_of (E := E) rfl rfl rfl rfl) (pmk_oex XNoItem.o iNoItem tNoItem okNoItem (hr.mono (by omega)) bNoItem .nil pass0 (by exact rfl) XNoItem.g (pa_cons (pv 0) pa_nil)))) pss_nil)), fun RE => (ss_if (st_not (st_val (se_call (sa_cons se_nm (sa_cons (se_op so_sub se_nm se_int) sa_nil))))) (ss_raiseF (sa_cons se_nm sa_nil)) ss_nil), fun ws M R RX hl h => ?_⟩
  obtain ⟨x, y, rfl, h1⟩ := g2_of h
  obtain ⟨d, rfl, h1⟩ := gD_of h1
  obtain ⟨b, rfl, ht, h2, h3⟩ := gI_of h1
  simp only [start0, len_c, len_n, map_c, map_n, app_c, app_n, rep_0, rep_s, Nat.reduceAdd, Nat.reduceSub]
  decreasing_trivial_pre_omega
  cases c : isNum (b - 1) d
  · decreasing_trivial_pre_omega
    exact h3 c
  · decreasing_trivial_pre_omega
    exact h2 c
structure RefT (C : Addr) (d : PyData) (RX : Ex → Mem → Prop) (M : Mem) (k : Tie → Prop) : Prop where
  x : txt d = true
  dp : d.depth < 70
  no : evenT d = false → RX ⟨.ref C, []⟩ M
  yes : ∀ t, d = toD t → Good t → k t
theorem RefT.ok {C : Addr} {d : PyData} {RX : Ex → Mem → Prop} {M : Mem} {k : Tie → Prop} (h : RefT C d RX M k) {R : Prop} (q : ∀ t, d = toD t → Good t → k t → R) : (txt d = true ∧ d.depth < 70) ∧ (evenT d = true → R) ∧ (evenT d = false → RX ⟨.ref C, []⟩ M) :=
  ⟨⟨h.x, h.dp⟩, fun c => by
    obtain ⟨t, e, g⟩ := even_tie c
    exact q t e g (h.yes t e g), h.no⟩
def seatOk (C : Addr) (a : PyData) (m : Nat) (RX : Ex → Mem → Prop) (M : Mem) (k : Nat → Prop) : Prop := txt a = true ∧ (isNum ((m : Int) - 1) a = false → RX ⟨.ref C, [("at", a)]⟩ M) ∧ ∀ i : Nat, a = .int i → i < m → k i
theorem isNum_of {m : Nat} {a : PyData} (h : isNum ((m : Int) - 1) a = true) : ∃ i : Nat, a = .int i ∧ i < m := by
  cases a with
  | int i =>
    rw [isNum, Bool.and_eq_true, decide_eq_true_eq, decide_eq_true_eq] at h
    exact ⟨i.toNat, by congr 1; omega, by omega⟩
  | _ => simp [isNum] at h
@[reducible] def tfItemAt (C C2 : Addr) : TF := fun ws M R RX => g2 ws fun x y => gD x fun d => gD y fun a => RefT C d RX M fun t => seatOk C2 a (sz t) RX M fun i => ∀ v, (its t)[i]? = some v → R (.d v) M
@[reducible] def tfOutAt (C C2 : Addr) : TF := fun ws M R RX => g2 ws fun x y => gD x fun d => gD y fun a => RefT C d RX M fun t => seatOk C2 a (sz t) RX M fun i => ∀ t', Is t' (outAt (its t) i) → Ad t t' (5 * hg t) → R (.d (toD t')) M
@[reducible] def tfParted (C C2 : Addr) : TF := fun ws M R RX => g2 ws fun x y => gD x fun d => gD y fun a => RefT C d RX M fun t => seatOk C2 a (sz t + 1) RX M fun i => ∀ p q, Is p ((its t).take i) → Is q ((its t).drop i) → AdH t p → AdH t q → R (.d (.tuple [toD p, toD q])) M
@[reducible] def tfPutAt (C C2 : Addr) : TF := fun ws M R RX => match ws with | [.d d, .d a, .d it] => txt it = true ∧ RefT C d RX M fun t => seatOk C2 a (sz t + 1) RX M fun i => ((isItem it = false ∨ sz t = 1000) → RX ⟨.ref C, []⟩ M) ∧ (isItem it = true → sz t ≠ 1000 → ∀ t', Is t' (insAt (its t) i it) → Ad t t' (5 * hg t + 1) → R (.d (toD t')) M) | _ => False
@[reducible] def tfTBoth (C : Addr) : TF := fun ws M R RX => g2 ws fun x y => gD x fun d => gD y fun e => RefT C d RX M fun t => RefT C e RX M fun u => (sz t + sz u > 1000 → RX ⟨.ref C, []⟩ M) ∧ (sz t + sz u ≤ 1000 → ∀ t', Is t' (its t ++ its u) → AdB t u t' → R (.d (toD t')) M)
abbrev sOutAt : Stmt := top 37
theorem scOutAt : FnScope ["tie", "at"] ["tie", "at"] (defScope sOutAt) := ⟨rfl, rfl, rfl, by decide +kernel, rfl, by decide +kernel, by decide +kernel⟩
theorem ok_outAt {f C C2 : Addr} {fd : FuncData} {k j : Nat} (F : Fun K "out_at" "out_at" sOutAt f fd) (Ucheck_tie : UseX P w K mg base "check_tie" ["thing"] j (spD K 1 (tfChkE C))) (Ucheck_seat : UseX P w K mg base "check_seat" ["at", "behind"] j (spD K 2 (tfSeat C2))) (Umany_in : Use P w K mg base "many_in" ["tie"] j (spD K 1 tfMany)) (Uwithout_item : Use P w K mg base "without_item" ["tie", "at"] j (spD K 2 (tfWo 30))) (hj : j ≤ k) :
    FnOk P w K mg base (L2.CX P w) (k + 1) f fd ["tie", "at"] (spD K 2 (tfOutAt C C2)) := by
  refine okDX F scOutAt rfl fun cdv A outer s H E hr => ?_
  refine ⟨_, fun RE => _, (pss_cons (ps_expr (pe_callS Ucheck_tie.ok (hr.mono (by omega)) rfl Ucheck_tie.m Ucheck_tie.kp Ucheck_tie.b (fun σ => passAt (takes_of (E := E) rfl rfl rfl rfl) σ) (pa_cons (pv 0) pa_nil)))
    (pss_cons (ps_expr (pe_callS Ucheck_seat.ok (hr.mono (by omega)) rfl Ucheck_seat.m Ucheck_seat.kp Ucheck_seat.b (fun σ => passAt (takes_of (E := E) rfl rfl rfl rfl) σ) (pa_cons (pv 1) (pa_cons (PE.nox (pe_call Umany_in.ok (hr.mono (by omega)) rfl Umany_in.m Umany_in.kp Umany_in.b .nil pass0 (pa_cons (pv 0) pa_nil))) pa_nil))))
    (pss_one (ps_ret (PE.nox (pe_call Uwithout_item.ok (hr.mono (by omega)) rfl Uwithout_item.m Uwithout_item.kp Uwithout_item.b .nil pass0 (pa_cons (pv 0) (pa_cons (pv 1) pa_nil)))))))), fun RE => (ss_cons (ss_drop (se_callX (sa_cons se_nm sa_nil)))
    (ss_cons (ss_drop (se_callX (sa_cons se_nm (sa_cons (se_call (sa_cons se_nm sa_nil)) sa_nil))))
    (ss_ret (se_call (sa_cons se_nm (sa_cons se_nm sa_nil)))))), fun ws M R RX hl h => ?_⟩
  obtain ⟨x, y, rfl, h1⟩ := g2_of h
  obtain ⟨d, rfl, h3⟩ := gD_of h1
  obtain ⟨a, rfl, h4⟩ := gD_of h3
  clear h h1 h3
  simp only [start0, len_c, len_n, map_c, map_n, app_c, app_n, rep_0, rep_s, Nat.reduceAdd, Nat.reduceSub]
  (with_reducible (conv => whnf))
  refine h4.ok fun t e g h2 => ?_
  subst e
  obtain ⟨ha, hno, hyes⟩ := h2
  have fl := flat_of g.ev g.le
  have hev := g.ev
  have hle := g.le
  decreasing_trivial_pre_omega
  refine ⟨fun c => ?_, hno⟩
  obtain ⟨i, rfl, hi⟩ := isNum_of c
  decreasing_trivial_pre_omega
  intro v hv had
  exact hyes i rfl hi v hv had
abbrev sParted : Stmt := top 38
theorem scParted : FnScope ["tie", "at"] ["tie", "at"] (defScope sParted) := ⟨rfl, rfl, rfl, by decide +kernel, rfl, by decide +kernel, by decide +kernel⟩
theorem ok_parted {f C C2 : Addr} {fd : FuncData} {k j : Nat} (F : Fun K "parted" "parted" sParted f fd) (Ucheck_tie : UseX P w K mg base "check_tie" ["thing"] j (spD K 1 (tfChkE C))) (Ucheck_seat : UseX P w K mg base "check_seat" ["at", "behind"] j (spD K 2 (tfSeat C2))) (Umany_in : Use P w K mg base "many_in" ["tie"] j (spD K 1 tfMany)) (Uhalves : Use P w K mg base "halves" ["tie", "at"] j (spD K 2 (tfHalves 30))) (hj : j ≤ k) :
    FnOk P w K mg base (L2.CX P w) (k + 1) f fd ["tie", "at"] (spD K 2 (tfParted C C2)) := by
  refine okDX F scParted rfl fun cdv A outer s H E hr => ?_
  refine ⟨_, fun RE => _, (pss_cons (ps_expr (pe_callS Ucheck_tie.ok (hr.mono (by omega)) rfl Ucheck_tie.m Ucheck_tie.kp Ucheck_tie.b (fun σ => passAt (takes_of (E := E) rfl rfl rfl rfl) σ) (pa_cons (pv 0) pa_nil)))
    (pss_cons (ps_expr (pe_callS Ucheck_seat.ok (hr.mono (by omega)) rfl Ucheck_seat.m Ucheck_seat.kp Ucheck_seat.b (fun σ => passAt (takes_of (E := E) rfl rfl rfl rfl) σ) (pa_cons (pv 1) (pa_cons (pe_op op_add (PE.nox (pe_call Umany_in.ok (hr.mono (by omega)) rfl Umany_in.m Umany_in.kp Umany_in.b .nil pass0 (pa_cons (pv 0) pa_nil))) pe_int) pa_nil))))
    (pss_one (ps_ret (PE.nox (pe_call Uhalves.ok (hr.mono (by omega)) rfl Uhalves.m Uhalves.kp Uhalves.b .nil pass0 (pa_cons (pv 0) (pa_cons (pv 1) pa_nil)))))))), fun RE => (ss_cons (ss_drop (se_callX (sa_cons se_nm sa_nil)))
    (ss_cons (ss_drop (se_callX (sa_cons se_nm (sa_cons (se_op so_add (se_call (sa_cons se_nm sa_nil)) se_int) sa_nil))))
    (ss_ret (se_call (sa_cons se_nm (sa_cons se_nm sa_nil)))))), fun ws M R RX hl h => ?_⟩
  obtain ⟨x, y, rfl, h1⟩ := g2_of h
  obtain ⟨d, rfl, h3⟩ := gD_of h1
  obtain ⟨a, rfl, h4⟩ := gD_of h3
  clear h h1 h3
  simp only [start0, len_c, len_n, map_c, map_n, app_c, app_n, rep_0, rep_s, Nat.reduceAdd, Nat.reduceSub]
  (with_reducible (conv => whnf))
  refine h4.ok fun t e g h2 => ?_
  subst e
  obtain ⟨ha, hno, hyes⟩ := h2
  have fl := flat_of g.ev g.le
  have hev := g.ev
  have hle := g.le
  decreasing_trivial_pre_omega
  rw [show ((sz t : Nat) : Int) + 1 = ((sz t + 1 : Nat) : Int) by omega]
  refine ⟨fun c => ?_, hno⟩
  obtain ⟨i, rfl, hi⟩ := isNum_of c
  decreasing_trivial_pre_omega
  intro p q hp hq a1 a2
  exact hyes i rfl hi p q hp hq a1 a2
abbrev sPutAt : Stmt := top 36
theorem scPutAt : FnScope ["tie", "at", "item"] ["tie", "at", "item"] (defScope sPutAt) := ⟨rfl, rfl, rfl, by decide +kernel, rfl, by decide +kernel, by decide +kernel⟩
theorem ok_putAt {f C C2 : Addr} {fd : FuncData} {k j : Nat} (F : Fun K "put_at" "put_at" sPutAt f fd) (XNoTie : Er K mg "NoTie" C) (Ucheck_tie : UseX P w K mg base "check_tie" ["thing"] j (spD K 1 (tfChkE C))) (Ucheck_seat : UseX P w K mg base "check_seat" ["at", "behind"] j (spD K 2 (tfSeat C2))) (Umany_in : Use P w K mg base "many_in" ["tie"] j (spD K 1 tfMany)) (Uis_item : Use P w K mg base "is_item" ["thing"] j (spD K 1 (tfB isItem))) (Uwith_item : Use P w K mg base "with_item" ["tie", "at", "item"] j (spD K 3 (tfWith 30))) (hj : j ≤ k) (CT : ∃ t, mg "TIED" = some (.int 1000 t)) :
    FnOk P w K mg base (L2.CX P w) (k + 1) f fd ["tie", "at", "item"] (spD K 3 (tfPutAt C C2)) := by
  refine okDX F scPutAt rfl fun cdv A outer s H E hr => ?_
  refine ⟨_, fun RE => _, (pss_cons (ps_expr (pe_callS Ucheck_tie.ok (hr.mono (by omega)) rfl Ucheck_tie.m Ucheck_tie.kp Ucheck_tie.b (fun σ => passAt (takes_of (E := E) rfl rfl rfl rfl) σ) (pa_cons (pv 0) pa_nil)))
    (pss_cons (ps_expr (pe_callS Ucheck_seat.ok (hr.mono (by omega)) rfl Ucheck_seat.m Ucheck_seat.kp Ucheck_seat.b (fun σ => passAt (takes_of (E := E) rfl rfl rfl rfl) σ) (pa_cons (pv 1) (pa_cons (pe_op op_add (PE.nox (pe_call Umany_in.ok (hr.mono (by omega)) rfl Umany_in.m Umany_in.kp Umany_in.b .nil pass0 (pa_cons (pv 0) pa_nil))) pe_int) pa_nil))))
    (pss_cons (ps_if (PW.pt (pw_or (pt_not (pt_val (PE.nox (pe_call Uis_item.ok (hr.mono (by omega)) rfl Uis_item.m Uis_item.kp Uis_item.b .nil pass0 (pa_cons (pv 2) pa_nil))))) (pw_or1 (pt_cmpR op_eq (PE.nox (pe_call Umany_in.ok (hr.mono (by omega)) rfl Umany_in.m Umany_in.kp Umany_in.b .nil pass0 (pa_cons (pv 0) pa_nil))) (c_int CT) (nomark _))))) (pss_one (ps_raise rfl (takes_of (E := E) rfl rfl rfl rfl) (pmk_own0 PySem.F.excBase_ValueError XNoTie.x XNoTie.g XNoTie.k (raises_own XNoTie.b XNoTie.t) (by exact rfl)))) pss_nil)
    (pss_one (ps_ret (PE.nox (pe_call Uwith_item.ok (hr.mono (by omega)) rfl Uwith_item.m Uwith_item.kp Uwith_item.b .nil pass0 (pa_cons (pv 0) (pa_cons (pv 1) (pa_cons (pv 2) pa_nil)))))))))), fun RE => (ss_cons (ss_drop (se_callX (sa_cons se_nm sa_nil)))
    (ss_cons (ss_drop (se_callX (sa_cons se_nm (sa_cons (se_op so_add (se_call (sa_cons se_nm sa_nil)) se_int) sa_nil))))
    (ss_cons (ss_if (st_or (st_not (st_val (se_call (sa_cons se_nm sa_nil)))) (st_test (se_op so_eqS (se_call (sa_cons se_nm sa_nil)) se_int))) ss_raise0 ss_nil)
    (ss_ret (se_call (sa_cons se_nm (sa_cons se_nm (sa_cons se_nm sa_nil)))))))), fun ws M R RX hl h => ?_⟩
  match ws, h with
  | [.d d, .d a, .d it], h =>
  obtain ⟨hit, h4⟩ := h
  simp only [start0, len_c, len_n, map_c, map_n, app_c, app_n, rep_0, rep_s, Nat.reduceAdd, Nat.reduceSub]
  (with_reducible (conv => whnf))
  refine h4.ok fun t e g h2 => ?_
  subst e
  obtain ⟨ha, hno, hyes⟩ := h2
  have fl := flat_of g.ev g.le
  have hev := g.ev
  have hle := g.le
  decreasing_trivial_pre_omega
  rw [show ((sz t : Nat) : Int) + 1 = ((sz t + 1 : Nat) : Int) by omega]
  refine ⟨fun c => ?_, hno⟩
  obtain ⟨i, rfl, hi⟩ := isNum_of c
  obtain ⟨y1, y2⟩ := hyes i rfl hi
  decreasing_trivial_pre_omega
  cases c1 : isItem it
  · decreasing_trivial_pre_omega
    exact y1 (.inl c1)
  · decreasing_trivial_pre_omega
    refine IfB.d (fun c2 => ?_) (fun c2 => ?_)
    · decreasing_trivial_pre_omega
      exact y1 (.inr (by omega))
    · decreasing_trivial_pre_omega
      intro t' ht' had
      exact y2 c1 (by omega) t' ht' had
abbrev sTBoth : Stmt := top 39
theorem scTBoth : FnScope ["one", "other"] ["one", "other"] (defScope sTBoth) := ⟨rfl, rfl, rfl, by decide +kernel, rfl, by decide +kernel, by decide +kernel⟩
theorem ok_tBoth {f C : Addr} {fd : FuncData} {k j : Nat} (F : Fun K "tied_both" "tied_both" sTBoth f fd) (XNoTie : Er K mg "NoTie" C) (Ucheck_tie : UseX P w K mg base "check_tie" ["thing"] j (spD K 1 (tfChkE C))) (Umany_in : Use P w K mg base "many_in" ["tie"] j (spD K 1 tfMany)) (Uboth_of : Use P w K mg base "both_of" ["one", "other"] j (spD K 2 (tfBoth 30))) (hj : j ≤ k) (CT : ∃ t, mg "TIED" = some (.int 1000 t)) :
    FnOk P w K mg base (L2.CX P w) (k + 1) f fd ["one", "other"] (spD K 2 (tfTBoth C)) := by
  refine okDX F scTBoth rfl fun cdv A outer s H E hr => ?_
  refine ⟨_, fun RE => _, (pss_cons (ps_expr (pe_callS Ucheck_tie.ok (hr.mono (by omega)) rfl Ucheck_tie.m Ucheck_tie.kp Ucheck_tie.b (fun σ => passAt (takes_of (E := E) rfl rfl rfl rfl) σ) (pa_cons (pv 0) pa_nil)))
    (pss_cons (ps_expr (pe_callS Ucheck_tie.ok (hr.mono (by omega)) rfl Ucheck_tie.m Ucheck_tie.kp Ucheck_tie.b (fun σ => passAt (takes_of (E := E) rfl rfl rfl rfl) σ) (pa_cons (pv 1) pa_nil)))
    (pss_cons (ps_if (pt_cmpR op_gt (pe_op op_add (PE.nox (pe_call Umany_in.ok (hr.mono (by omega)) rfl Umany_in.m Umany_in.kp Umany_in.b .nil pass0 (pa_cons (pv 0) pa_nil))) (PE.nox (pe_call Umany_in.ok (hr.mono (by omega)) rfl Umany_in.m Umany_in.kp Umany_in.b .nil pass0 (pa_cons (pv 1) pa_nil)))) (c_int CT) (nomark _)) (pss_one (ps_raise rfl (takes_of (E := E) rfl rfl rfl rfl) (pmk_own0 PySem.F.excBase_ValueError XNoTie.x XNoTie.g XNoTie.k (raises_own XNoTie.b XNoTie.t) (by exact rfl)))) pss_nil)
    (pss_one (ps_ret (PE.nox (pe_call Uboth_of.ok (hr.mono (by omega)) rfl Uboth_of.m Uboth_of.kp Uboth_of.b .nil pass0 (pa_cons (pv 0) (pa_cons (pv 1) pa_nil))))))))), fun RE => (ss_cons (ss_drop (se_callX (sa_cons se_nm sa_nil)))
    (ss_cons (ss_drop (se_callX (sa_cons se_nm sa_nil)))
    (ss_cons (ss_if (st_test (se_op so_gt (se_op so_add (se_call (sa_cons se_nm sa_nil)) (se_call (sa_cons se_nm sa_nil))) se_int)) ss_raise0 ss_nil)
    (ss_ret (se_call (sa_cons se_nm (sa_cons se_nm sa_nil))))))), fun ws M R RX hl h => ?_⟩
  obtain ⟨x, y, rfl, h1⟩ := g2_of h
  obtain ⟨d, rfl, h3⟩ := gD_of h1
  obtain ⟨e, rfl, h4⟩ := gD_of h3
  clear h h1 h3
  simp only [start0, len_c, len_n, map_c, map_n, app_c, app_n, rep_0, rep_s, Nat.reduceAdd, Nat.reduceSub]
  (with_reducible (conv => whnf))
  refine h4.ok fun t e1 g h5 => ?_
  subst e1
  (with_reducible (conv => whnf))
  refine h5.ok fun u e2 g2 h6 => ?_
  subst e2
  obtain ⟨h7, h8⟩ := h6
  have fl := flat_of g.ev g.le
  have hev := g.ev
  have fl2 := flat_of g2.ev g2.le
  have hev2 := g2.ev
  decreasing_trivial_pre_omega
  refine IfB.d (fun c => ?_) (fun c => ?_)
  · decreasing_trivial_pre_omega
    exact h7 (by omega)
  · decreasing_trivial_pre_omega
    intro t' ht' had
    exact h8 (by omega) t' ht' had
end
end Tl
set_option Elab.async false
set_option linter.all false
set_option maxRecDepth 100000
set_option maxHeartbeats 8000000
namespace Tl
open PySem L2 RZ Tie
local macro_rules
  | `(tactic| decreasing_trivial) => `(tactic| ((with_reducible (conv => whnf)); (repeat ((first | (with_reducible refine gTie_i ?_) | (with_reducible refine gTie_n ?_) | (with_reducible refine gTie_4 ?_) | (with_reducible refine gDs_c ?_) | (with_reducible refine gDs_n ?_) | (with_reducible refine gNs_c ?_) | (with_reducible refine gNs_n ?_) | (with_reducible refine gO_i tyAny_lt ?_) | (with_reducible refine gIs_c ?_) | (with_reducible refine gIs_n ?_) | (with_reducible refine gBs_c ?_) | (with_reducible refine gBs_n ?_) | (with_reducible refine gSs_c ?_) | (with_reducible refine gSs_n ?_) | (with_reducible refine gO_i tyIs_int ?_) | (with_reducible refine gO_i tyIs_bool ?_) | (with_reducible refine gO_i tyIs_str ?_) | (with_reducible refine gO_i tyIs_tuple ?_) | (with_reducible refine gO_i tyIs_list ?_) | (with_reducible refine gDs_i ?_) | (with_reducible refine gO_i (Eq.refl _) ?_) | (with_reducible refine gO_i (by assumption) ?_) | (with_reducible refine gO_i at_0 ?_) | (with_reducible refine gO_i at_m0 ?_) | (with_reducible refine gO_i at_1 ?_) | (with_reducible refine gO_i at_m1 ?_) | (with_reducible refine gO_i at_2 ?_) | (with_reducible refine gO_i at_m2 ?_) | (with_reducible refine gO_i at_3 ?_) | (with_reducible refine gO_i at_m3 ?_) | (with_reducible refine gO_i at_4 ?_) | (with_reducible refine gO_i at_m4 ?_) | (with_reducible refine gO_i at_5 ?_) | (with_reducible refine gO_i at_m5 ?_) | (with_reducible refine gO_i at_6 ?_) | (with_reducible refine gO_i at_m6 ?_) | (with_reducible refine gO_i at_7 ?_) | (with_reducible refine gO_i at_m7 ?_) | (with_reducible refine IfB.ngf ?_) | (with_reducible refine IfB.ngt ?_) | (with_reducible refine IfB.not ?_) | (with_reducible refine IfB.nil ?_) | (with_reducible refine IfB.nilT ?_) | (with_reducible refine IfB.f isE_c ?_) | (with_reducible refine IfB.t isE_n ?_) | (with_reducible refine IfB.t ?gha ?_; (case gha => rfl)) | (with_reducible refine IfB.f ?gha ?_; (case gha => rfl)) | (with_reducible refine IfB.t ?gha ?_; (case gha => assumption)) | (with_reducible refine IfB.f ?gha ?_; (case gha => assumption)) | (with_reducible refine IfB.yes (Eq.refl _) ?_) | (with_reducible refine IfB.yes ?gha ?_; (case gha => (first | omega | (simp only [len_c, len_n, List.length_map]; omega)))) | (with_reducible refine IfB.no ?gha ?_; (case gha => (first | omega | (simp only [len_c, len_n, List.length_map]; omega)))) | (with_reducible refine IfB.t ?gha ?_; (case gha => decide +kernel)) | (with_reducible refine IfB.f ?gha ?_; (case gha => decide +kernel))); (with_reducible (conv => whnf))))))
local macro_rules
  | `(tactic| decreasing_trivial_pre_omega) => `(tactic| (decreasing_trivial; (repeat ((first | ((with_reducible refine And.intro ?gha ?_); (case gha => (first | assumption | omega | exact rfl | (exact mset_same) | (exact ⟨_, mset_same⟩) | (exact Exists.intro _ (by first | exact mset_same | assumption | (rw [mset_ne (by assumption)]; first | exact mset_same | assumption))) | (exact sm_of (by omega) (by omega)) | (exact sz1000 (by first | omega | (simp; done) | (simp; omega))) | (exact Or.inl ⟨by decide, by decide⟩) | decide | (simp; done) | (refine ⟨?_, ?_⟩ <;> (first | assumption | omega | exact rfl | (exact mset_same) | (exact ⟨_, mset_same⟩) | (exact Exists.intro _ (by first | exact mset_same | assumption | (rw [mset_ne (by assumption)]; first | exact mset_same | assumption))) | (exact sm_of (by omega) (by omega)) | (exact sz1000 (by first | omega | (simp; done) | (simp; omega))) | (exact Or.inl ⟨by decide, by decide⟩) | decide | (simp; done))) | (refine ⟨?_, ?_, ?_⟩ <;> (first | assumption | omega | exact rfl | (exact mset_same) | (exact ⟨_, mset_same⟩) | (exact Exists.intro _ (by first | exact mset_same | assumption | (rw [mset_ne (by assumption)]; first | exact mset_same | assumption))) | (exact sm_of (by omega) (by omega)) | (exact sz1000 (by first | omega | (simp; done) | (simp; omega))) | (exact Or.inl ⟨by decide, by decide⟩) | decide | (simp; done))) | (refine ⟨?_, ?_, ?_, ?_⟩ <;> (first | assumption | omega | exact rfl | (exact mset_same) | (exact ⟨_, mset_same⟩) | (exact Exists.intro _ (by first | exact mset_same | assumption | (rw [mset_ne (by assumption)]; first | exact mset_same | assumption))) | (exact sm_of (by omega) (by omega)) | (exact sz1000 (by first | omega | (simp; done) | (simp; omega))) | (exact Or.inl ⟨by decide, by decide⟩) | decide | (simp; done)))))) | (with_reducible refine exW (by first | exact mset_same | assumption | (rw [mset_ne (by assumption)]; first | exact mset_same | assumption)) ?_)); decreasing_trivial))))
section
variable {P : Program} {w : World} {K : PySem.W.Frag} {mg : Str → Option Value} {base : Heap}
theorem all_item {xs : List PyData} (h : ∀ x ∈ xs, isItem x = true) : (xs.map isItem).all id = true := by
  rw [List.all_map, List.all_eq_true]
  exact h
abbrev sTied : Stmt := top 34
theorem scTied : FnScope ["items", "item"] ["items"] (defScope sTied) := ⟨rfl, rfl, rfl, by decide +kernel, rfl, by decide +kernel, by decide +kernel⟩
end
end Tl
set_option Elab.async false
set_option linter.all false
set_option maxRecDepth 100000
set_option maxHeartbeats 8000000
namespace Tl
open PySem L2 RZ Tie
local macro_rules
  | `(tactic| decreasing_trivial) => `(tactic| ((with_reducible (conv => whnf)); (repeat ((first | (with_reducible refine gTie_i ?_) | (with_reducible refine gTie_n ?_) | (with_reducible refine gTie_4 ?_) | (with_reducible refine gDs_c ?_) | (with_reducible refine gDs_n ?_) | (with_reducible refine gNs_c ?_) | (with_reducible refine gNs_n ?_) | (with_reducible refine gO_i tyAny_lt ?_) | (with_reducible refine gIs_c ?_) | (with_reducible refine gIs_n ?_) | (with_reducible refine gBs_c ?_) | (with_reducible refine gBs_n ?_) | (with_reducible refine gSs_c ?_) | (with_reducible refine gSs_n ?_) | (with_reducible refine gO_i tyIs_int ?_) | (with_reducible refine gO_i tyIs_bool ?_) | (with_reducible refine gO_i tyIs_str ?_) | (with_reducible refine gO_i tyIs_tuple ?_) | (with_reducible refine gO_i tyIs_list ?_) | (with_reducible refine gDs_i ?_) | (with_reducible refine gO_i (Eq.refl _) ?_) | (with_reducible refine gO_i (by assumption) ?_) | (with_reducible refine gO_i at_0 ?_) | (with_reducible refine gO_i at_m0 ?_) | (with_reducible refine gO_i at_1 ?_) | (with_reducible refine gO_i at_m1 ?_) | (with_reducible refine gO_i at_2 ?_) | (with_reducible refine gO_i at_m2 ?_) | (with_reducible refine gO_i at_3 ?_) | (with_reducible refine gO_i at_m3 ?_) | (with_reducible refine gO_i at_4 ?_) | (with_reducible refine gO_i at_m4 ?_) | (with_reducible refine gO_i at_5 ?_) | (with_reducible refine gO_i at_m5 ?_) | (with_reducible refine gO_i at_6 ?_) | (with_reducible refine gO_i at_m6 ?_) | (with_reducible refine gO_i at_7 ?_) | (with_reducible refine gO_i at_m7 ?_) | (with_reducible refine IfB.ngf ?_) | (with_reducible refine IfB.ngt ?_) | (with_reducible refine IfB.not ?_) | (with_reducible refine IfB.nil ?_) | (with_reducible refine IfB.nilT ?_) | (with_reducible refine IfB.f isE_c ?_) | (with_reducible refine IfB.t isE_n ?_) | (with_reducible refine IfB.t ?gha ?_; (case gha => rfl)) | (with_reducible refine IfB.f ?gha ?_; (case gha => rfl)) | (with_reducible refine IfB.t ?gha ?_; (case gha => assumption)) | (with_reducible refine IfB.f ?gha ?_; (case gha => assumption)) | (with_reducible refine IfB.yes (Eq.refl _) ?_) | (with_reducible refine IfB.yes ?gha ?_; (case gha => (first | omega | (simp only [len_c, len_n, List.length_map]; omega)))) | (with_reducible refine IfB.no ?gha ?_; (case gha => (first | omega | (simp only [len_c, len_n, List.length_map]; omega)))) | (with_reducible refine IfB.t ?gha ?_; (case gha => decide +kernel)) | (with_reducible refine IfB.f ?gha ?_; (case gha => decide +kernel))); (with_reducible (conv => whnf))))))
local macro_rules
  | `(tactic| decreasing_trivial_pre_omega) => `(tactic| (decreasing_trivial; (repeat ((first | ((with_reducible refine And.intro ?gha ?_); (case gha => (first | assumption | omega | exact rfl | (exact mset_same) | (exact ⟨_, mset_same⟩) | (exact Exists.intro _ (by first | exact mset_same | assumption | (rw [mset_ne (by assumption)]; first | exact mset_same | assumption))) | (exact sm_of (by omega) (by omega)) | (exact sz1000 (by first | omega | (simp; done) | (simp; omega))) | (exact Or.inl ⟨by decide, by decide⟩) | decide | (simp; done) | (refine ⟨?_, ?_⟩ <;> (first | assumption | omega | exact rfl | (exact mset_same) | (exact ⟨_, mset_same⟩) | (exact Exists.intro _ (by first | exact mset_same | assumption | (rw [mset_ne (by assumption)]; first | exact mset_same | assumption))) | (exact sm_of (by omega) (by omega)) | (exact sz1000 (by first | omega | (simp; done) | (simp; omega))) | (exact Or.inl ⟨by decide, by decide⟩) | decide | (simp; done))) | (refine ⟨?_, ?_, ?_⟩ <;> (first | assumption | omega | exact rfl | (exact mset_same) | (exact ⟨_, mset_same⟩) | (exact Exists.intro _ (by first | exact mset_same | assumption | (rw [mset_ne (by assumption)]; first | exact mset_same | assumption))) | (exact sm_of (by omega) (by omega)) | (exact sz1000 (by first | omega | (simp; done) | (simp; omega))) | (exact Or.inl ⟨by decide, by decide⟩) | decide | (simp; done))) | (refine ⟨?_, ?_, ?_, ?_⟩ <;> (first | assumption | omega | exact rfl | (exact mset_same) | (exact ⟨_, mset_same⟩) | (exact Exists.intro _ (by first | exact mset_same | assumption | (rw [mset_ne (by assumption)]; first | exact mset_same | assumption))) | (exact sm_of (by omega) (by omega)) | (exact sz1000 (by first | omega | (simp; done) | (simp; omega))) | (exact Or.inl ⟨by decide, by decide⟩) | decide | (simp; done)))))) | (with_reducible refine exW (by first | exact mset_same | assumption | (rw [mset_ne (by assumption)]; first | exact mset_same | assumption)) ?_)); decreasing_trivial))))
@[reducible] def tfSteps : TF := fun ws M R _ => g1 ws fun x => gI x fun n => (0 ≤ n ∧ n ≤ 100000) ∧ R (.d (.int (stp (n.toNat + 1) : Nat))) M
@[reducible] def tfNumW (n : Nat) : TF := fun ws M R _ => g2 ws fun x y => gTie x fun t => gR y fun a => ∃ ks : List PyData, (M a = some (.dT (kwF 0 ks)) ∧ hg t < n ∧ KsOk ks ∧ AllInt t ∧ ks.length + sz t ≤ 9000) ∧ R (.d (.int ((num ks t).2 : Nat))) (mset M a (.dT (kwF 0 (num ks t).1)))
theorem keyT_dp {a b : Nat} {i : Int} : (keyT a (.int i) b).depth ≤ 8 := by simp [keyT, PyData.depth, PyData.depthAll]
section
variable {P : Program} {w : World} {K : PySem.W.Frag} {mg : Str → Option Value} {base : Heap}
abbrev sSteps : Stmt := top 40
theorem scSteps : FnScope ["many", "steps", "weight"] ["many"] (defScope sSteps) := ⟨rfl, rfl, rfl, by decide +kernel, rfl, by decide +kernel, by decide +kernel⟩
theorem ok_steps {f : Addr} {fd : FuncData} {k : Nat} (F : Fun K "steps_of" "steps_of" sSteps f fd) (T : Bl mg) : FnOk P w K mg base CX0 (k + 1) f fd ["many"] (spD K 1 tfSteps) := by
  refine okD F scSteps rfl fun cdv A outer s H E hr => ?_
  refine ⟨_, _, (pss_cons (ps_set (i := 1) scSteps.nd rfl (.inl rfl) pe_int)
    (pss_cons (ps_set (i := 2) scSteps.nd rfl (.inl rfl) (pe_op op_add (pv 0) pe_int))
    (pss_cons (ps_while PassesOwn.never (pt_cmpR op_ge (pv 2) pe_int (nomark _)) (pss_cons (ps_set (i := 2) scSteps.nd rfl (.inl rfl) (pe_op op_fdivN (pe_op op_mul (pv 2) pe_int) pe_int))
      (pss_one (ps_aug (i := 1) scSteps.nd rfl (.inl rfl) pe_int ip_add))))
    (pss_one (ps_ret (pv 1)))))),
    (ss_cons (ss_set se_int)
    (ss_cons (ss_set (se_op so_add se_nm se_int))
    (ss_cons (ss_while (st_test (se_op so_ge se_nm se_int)) (ss_cons (ss_set (se_op so_div (se_op so_mul se_nm se_int) se_int))
      (ss_augI se_int)))
    (ss_ret se_nm)))), fun ws M R RX hl h => ?_⟩
  obtain ⟨x, rfl, h1⟩ := g1_of h
  obtain ⟨n, rfl, ⟨n0, n1⟩, h2⟩ := gI_of h1
  simp only [start0, len_c, len_n, map_c, map_n, app_c, app_n, rep_0, rep_s, Nat.reduceAdd, Nat.reduceSub]
  decreasing_trivial_pre_omega
  refine ⟨fun m ρ' M' => M' = M ∧ ∃ wt s : Nat, m = wt ∧ wt ≤ 100001 ∧ s + stp wt = 1 + stp (n.toNat + 1) ∧ ρ' = [some (.d (.int n)), some (.d (.int (s : Nat))), some (.d (.int (wt : Nat)))], ⟨_, rfl, n.toNat + 1, 1, rfl, by omega, by omega, by rw [show ((n.toNat + 1 : Nat) : Int) = n + 1 by omega]; rfl⟩, fun m ρ' M' p => ?_⟩
  obtain ⟨rfl, wt, s0, rfl, hwt, e, rfl⟩ := p
  decreasing_trivial_pre_omega
  refine IfB.d (fun c => ?_) (fun c => ?_)
  · decreasing_trivial_pre_omega
    have e2 := stp_up (w := m) (by omega)
    refine ⟨.inl ⟨by omega, by omega⟩, ?_⟩
    decreasing_trivial_pre_omega
    refine ⟨m * 3 / 4, by omega, ?_⟩
    refine ⟨rfl, m * 3 / 4, s0 + 1, rfl, by omega, by omega, ?_⟩
    rw [show ((m * 3 / 4 : Nat) : Int) = (m : Int) * 3 / 4 by omega, show ((s0 + 1 : Nat) : Int) = (s0 : Int) + 1 by omega]
  · have e2 := stp_lo (w := m) (by omega)
    decreasing_trivial_pre_omega
    rw [show s0 = stp (n.toNat + 1) by omega]
    exact h2
abbrev sNumW : Stmt := top 42
theorem scNumW : FnScope ["tie", "numbers", "key"] ["tie", "numbers"] (defScope sNumW) := ⟨rfl, rfl, rfl, by decide +kernel, rfl, by decide +kernel, by decide +kernel⟩
theorem ok_numW1 {f : Addr} {fd : FuncData} {n : Nat} (F : Fun K "number_within" "number_within" sNumW f fd) (Unumber_within : Use P w K mg base "number_within" ["tie", "numbers"] n (spD K 2 (tfNumW n))) (T : Bl mg) :
    FnOk P w K mg base CX0 (n + 1) f fd ["tie", "numbers"] (spD K 2 (tfNumW (n + 1))) := by
  refine okD F scNumW rfl fun cdv A outer s H E hr => ?_
  refine ⟨_, _, (pss_cons (ps_if (pt_cmpR op_isN (pv 0) pe_non (nomark _)) (pss_one (ps_ret pe_int)) pss_nil)
    (pss_cons (ps_set (i := 2) scNumW.nd rfl (.inl rfl) (pe_tup (pa_cons (pe_call Unumber_within.ok (hr.mono (by omega)) rfl Unumber_within.m Unumber_within.kp Unumber_within.b .nil pass0 (pa_cons (pe_ix ix_tup (pv 0) pe_int (fun _ _ => rfl)) (pa_cons (pv 1) pa_nil))) (pa_cons (pe_ix ix_tup (pv 0) pe_int (fun _ _ => rfl)) (pa_cons (pe_call Unumber_within.ok (hr.mono (by omega)) rfl Unumber_within.m Unumber_within.kp Unumber_within.b .nil pass0 (pa_cons (pe_ix ix_tup (pv 0) pe_int (fun _ _ => rfl)) (pa_cons (pv 1) pa_nil))) pa_nil)))))
    (pss_cons (ps_if (pt_cmpR (op_notInU (hu20 hr)) (pv 2) (pv 1) (by rfl)) (pss_one (ps_asg (pe_op op_add (pe_callB call_lenU (by rfl) T.len PySem.boot_len (pa_cons (pv 1) pa_nil)) pe_int) (pg_sub (pv 1) (pv 2) (set_U (hu20 hr))))) pss_nil)
    (pss_one (ps_ret (pe_uget (hu20 hr) (pv 1) (pv 2) (fun _ _ => rfl))))))),
    (ss_cons (ss_if (st_test (se_op so_isN se_nm se_non)) (ss_ret se_int) ss_nil)
    (ss_cons (ss_set (se_tup (sa_cons (se_call (sa_cons (se_op so_ixT se_nm se_int) (sa_cons se_nm sa_nil))) (sa_cons (se_op so_ixT se_nm se_int) (sa_cons (se_call (sa_cons (se_op so_ixT se_nm se_int) (sa_cons se_nm sa_nil))) sa_nil)))))
    (ss_cons (ss_if (st_test (se_op so_ninU se_nm se_nm)) (ss_setU (se_op so_add (se_cb sc_lenU (sa_cons se_nm sa_nil)) se_int) se_nm se_nm) ss_nil)
    (ss_ret (se_getU se_nm se_nm))))), fun ws M R RX hl h => ?_⟩
  obtain ⟨x, y, rfl, h1⟩ := g2_of h
  obtain ⟨t, rfl, h1⟩ := h1
  obtain ⟨a, rfl, ks, ⟨hM, hd, hks, hi, hz⟩, h2⟩ := gR_of h1
  clear h h1
  simp only [start0, len_c, len_n, map_c, map_n, app_c, app_n, rep_0, rep_s, Nat.reduceAdd, Nat.reduceSub]
  cases t with
  | nil =>
    decreasing_trivial_pre_omega
    rw [num, mset_id hM] at h2
    exact h2
  | node l x r =>
    rw [show toD (node l x r) = .tuple [toD l, x, toD r, .int ((sz l : Int) + 1 + (sz r : Nat))] from rfl]
    rw [hg] at hd
    rw [sz] at hz
    obtain ⟨il, ix, ir⟩ := hi.kids
    have k1 := num_sz l ks
    have k2 := num_sz r (num ks l).1
    have o1 := num_ks hks il
    have o2 := num_ks o1 ir
    have ok := keyT_ok (a := (num ks l).2) (b := (num (num ks l).1 r).2) ix
    decreasing_trivial_pre_omega
    refine ⟨ks, ⟨hM, by omega, hks, il, by omega⟩, ?_⟩
    decreasing_trivial_pre_omega
    refine ⟨(num ks l).1, ⟨mset_same, by omega, o1, ir, by omega⟩, ?_⟩
    rw [mset_mset]
    rw [num] at h2
    obtain ⟨i, rfl⟩ := ix
    generalize num (num ks l).1 r = q2 at *
    generalize num ks l = q1 at *
    decreasing_trivial_pre_omega
    refine ⟨⟨ok, keyT_dp⟩, kwF 0 q2.1, mset_same, ?_⟩
    have ev := valU_kwF ok 0 q2.1 o2
    unfold numK at h2
    have ln := kwF_len 0 q2.1
    cases c : ixK q2.1 (keyT q1.2 (.int i) q2.2) with
    | some v =>
      rw [c] at ev h2
      unfold keyT at ev c ok
      decreasing_trivial_pre_omega
      rw [ev]
      refine IfB.t rfl ?_
      decreasing_trivial_pre_omega
      refine ⟨⟨ok, keyT_dp⟩, kwF 0 q2.1, mset_same, ?_⟩
      rw [ev]
      refine gO_i rfl ?_
      show R (W.d (.int ((0 + v : Nat) : Int))) _
      rw [Nat.zero_add]
      exact h2
    | none =>
      rw [c] at ev h2
      have pu := kwF_put ok o2 c
      have o3 : KsOk (q2.1 ++ [keyT q1.2 (.int i) q2.2]) := fun y hy => (List.mem_append.mp hy).elim (o2 y) fun z => by rw [List.mem_singleton.mp z]; exact ok
      have av := valU_kwF ok 0 _ o3
      rw [ixK_new c] at av
      unfold keyT at ev c ok pu av h2
      decreasing_trivial_pre_omega
      rw [ev]
      refine IfB.f rfl ?_
      decreasing_trivial_pre_omega
      refine ⟨kwF 0 q2.1, mset_same, ?_⟩
      decreasing_trivial_pre_omega
      refine ⟨⟨ok, keyT_dp⟩, kwF 0 q2.1, mset_same, ?_, ?_⟩
      · rw [ln]
        have := sizeLine_eq
        omega
      · rw [mset_mset, ln]
        dsimp only
        rw [show ((q2.1.length : Nat) : Int) + 1 = ((q2.1.length + 1 : Nat) : Int) by omega, pu]
        decreasing_trivial_pre_omega
        refine ⟨⟨ok, keyT_dp⟩, _, mset_same, ?_⟩
        rw [av]
        refine gO_i rfl ?_
        show R (W.d (.int ((0 + (q2.1.length + 1) : Nat) : Int))) _
        rw [Nat.zero_add]
        exact h2
theorem ok_numW {f : Addr} {fd : FuncData} (F : Fun K "number_within" "number_within" sNumW f fd) (mF : mg "number_within" = some (.ref f)) (T : Bl mg) : ∀ n, FnOk P w K mg base CX0 n f fd ["tie", "numbers"] (spD K 2 (tfNumW n))
  | 0 => no0 fun ws M R RX h => by
    obtain ⟨x, y, rfl, h1⟩ := g2_of h
    obtain ⟨t, rfl, h1⟩ := h1
    obtain ⟨a, rfl, ks, ⟨_, hd, _⟩, h2⟩ := gR_of h1
    omega
  | n + 1 => ok_numW1 F ⟨f, fd, ok_numW F mF T n, mF, F.kp, F.binds (ps := ["tie", "numbers"]) fun _ _ _ _ _ _ us hl => match us, hl with | [_, _], _ => rfl⟩ T
end
end Tl
set_option Elab.async false
set_option linter.all false
set_option maxRecDepth 100000
set_option maxHeartbeats 8000000
namespace Tl
open PySem L2 RZ Tie
/-- a tie of numbers -/
structure TieN (t : Tie) : Prop where
  ev : Ev t
  le : sz t ≤ 1000
  it : ∀ x ∈ its t, ∃ i : Int, x = .int i ∧ 0 ≤ i ∧ i ≤ 6000
theorem TieN.all {t : Tie} (h : TieN t) : AllInt t := fun x hx => (h.it x hx).elim fun i q => ⟨i, q.1⟩
theorem TieN.o {t : Tie} (h : TieN t) : IsO t (its t) := ⟨⟨h.ev, rfl⟩, fun x hx => by
  obtain ⟨i, rfl, i0, i1⟩ := h.it x hx
  exact ⟨rfl, (gk_i (by omega) (by omega)).mono (by decide) (Nat.le_refl _)⟩, by rw [its_len]; exact h.le⟩
theorem TieN.even {t : Tie} (h : TieN t) : evenT (toD t) = true := h.o.even
theorem TieN.hg {t : Tie} (h : TieN t) : Tie.hg t ≤ 24 := h.o.hg
theorem szs_le : ∀ {ts : List Tie}, (∀ u ∈ ts, TieN u) → szs ts ≤ 1000 * ts.length
  | [], _ => Nat.zero_le _
  | t :: r, h => by
    have := szs_le (ts := r) fun u hu => h u (.tail _ hu)
    have := (h t (.head _)).le
    rw [szs, List.length_cons]
    omega
theorem nums_take {ts : List Tie} {i : Nat} {u : Tie} (h : ts[i]? = some u) : nums [] (ts.take (i + 1)) = (num (nums [] (ts.take i)) u).1 := by
  rw [List.take_add_one, h]
  exact nums_mid _ _ _
theorem new_sub {ts : List Tie} {t : Tie} : (((num (nums [] ts) t).1.length : Nat) : Int) - (((nums [] ts).length : Nat) : Int) = ((newN ts t : Nat) : Int) := by
  obtain ⟨e, h, _⟩ := num_ok t (nums [] ts)
  unfold newN
  rw [h, List.length_append]
  omega
theorem take_nn {ts : List Tie} (h : ∀ u ∈ ts, TieN u) (i : Nat) : ∀ u ∈ ts.take i, TieN u := fun u hu => h u (List.mem_of_mem_take hu)
theorem nums_small {ts : List Tie} (h : ∀ u ∈ ts, TieN u) (hl : ts.length ≤ 2) (i : Nat) : (nums [] (ts.take i)).length ≤ 2000 ∧ KsOk (nums [] (ts.take i)) := by
  have h1 := nums_sz (ts.take i) []
  have h2 := szs_le (take_nn h i)
  rw [List.length_take] at h2
  rw [List.length_nil] at h1
  exact ⟨by omega, nums_ks (fun x hx => by cases hx) fun u hu => (take_nn h i u hu).all⟩
end Tl
set_option Elab.async false
set_option linter.all false
set_option maxRecDepth 100000
set_option maxHeartbeats 4000000
/-! sorted: of data that are alike (tuples may be empty), of any length. -/
set_option Elab.async false
set_option linter.all false
set_option maxRecDepth 100000
set_option maxHeartbeats 4000000
/-! x is True, x is not True, of truths. -/
set_option Elab.async false
set_option linter.all false
set_option maxRecDepth 100000
set_option maxHeartbeats 4000000
/-! Errors that leave a def and are caught by a suite that raises itself: the def's promise under L2N.CX. -/
namespace Tl
open PySem PySem.Spec PyProof.Rows L2
section
variable {P : Program} {w : World} {K : PySem.W.Frag} {mg : Str → Option Value} {base : Heap}
theorem ok_ofN {k : Nat} {f : Addr} {fd : FuncData} {ps : List Str} {sp : Sp} (F : FnOk P w K mg base (L2N.CX P w) k f fd ps sp) : FnOk P w K mg base (L2.CX P w) k f fd ps sp :=
  ⟨F.len, fun A outer s H args us vs Q E hr he hb hv hs => codeAny_mono (F.run A outer s H args us vs Q E hr he hb hv hs) fun r s' h => by
    cases r with
    | ok fl => cases fl <;> exact h
    | error e =>
      obtain ⟨a, B, H', cls, d, e1, fl, z⟩ := h
      exact ⟨a, B, H', cls, d, e1, L2H.flyingZ_imp (fun _ => L2N.Zn.zc) fl, z⟩⟩
structure UseN (P : Program) (w : World) (K : PySem.W.Frag) (mg : Str → Option Value) (base : Heap) (x : Str) (ps : List Str) (k : Nat) (sp : Sp) where
  f : Addr
  fd : FuncData
  ok : FnOk P w K mg base (L2N.CX P w) k f fd ps sp
  m : mg x = some (.ref f)
  kp : PySem.W.keepIn K (.ref f) = true
  b : Binds K fd ps []
def UseN.up {x : Str} {ps : List Str} {j k : Nat} {sp : Sp} (U : UseN P w K mg base x ps j sp) (h : j ≤ k) : UseN P w K mg base x ps k sp := ⟨U.f, U.fd, U.ok.mono h, U.m, U.kp, U.b⟩
def UseN.x {x : Str} {ps : List Str} {k : Nat} {sp : Sp} (U : UseN P w K mg base x ps k sp) : UseX P w K mg base x ps k sp := ⟨U.f, U.fd, ok_ofN U.ok, U.m, U.kp, U.b⟩
end
end Tl
set_option Elab.async false
set_option linter.all false
set_option maxRecDepth 100000
set_option maxHeartbeats 4000000
/-! count and index of True in a list of truths; a held error's field, whatever its class. -/
namespace Tl
open PySem PySem.Spec PyProof.Rows L2
/-! ### xs.count(True), xs.index(True) -/
section
variable {K : PySem.W.Frag} {Wx : WX} {RE : REx}
/-- e.n within the suite, of whatever class -/
def tXfA (K : PySem.W.Frag) (a : Addr) (cls : Value) (d : Option Addr) (f : Str) (te : TE) : TE := fun σ H Q => ∃ C, (XfC K C ∧ PySem.W.findIn K (.ref C) f = some none) ∧ tXf a cls d C f te σ H Q
theorem pe_xfA {X : Cx} {a : Addr} {oe : Obj} {cls : Value} {d : Option Addr} {pn : List (Addr × Obj)} {e : Expr} {te : TE} {pos : Pos} {n : Str} (hz : Zc cls d oe) (hf : ∃ vs, oe.data = .fields vs) (he : PE (X.suite a ((a, oe) :: pn)) e te) (hb : attributeBase e n X.env (eval e X.env) = eval e X.env := by rfl) :
    PE (X.suite a ((a, oe) :: pn)) (.Attribute e n pos) (tXfA X.K a cls d n te) := ⟨fun pins s σ H Q I ⟨C, ⟨h1, h2⟩, h⟩ => (pe_xf h1 h2 hz hf he hb).run pins s σ H Q I h⟩
@[reducible] def xfA (K : PySem.W.Frag) (a : Addr) (cls : Value) (d : Option Addr) (n : Str) (i : Nat) : TDE := fun ρ M R => nmT i ρ M fun x M1 => match x with | .x a' C dd fs => (a' = a ∧ cls = .ref C ∧ dd = d ∧ XfC K C ∧ PySem.W.findIn K (.ref C) n = some none) ∧ gO (fs.lookup n) fun y => R (.d y) M1 | _ => False
theorem se_xfA {a : Addr} {cls : Value} {d : Option Addr} {n : Str} {i : Nat} : SE K Wx RE (tXfA K a cls d n (tVar i)) (xfA K a cls d n i) := fun F H M σ ρ R Q hr hx hs ht k => by
  unfold xfA nmT at ht
  cases c : slot ρ i with
  | none => rw [c] at ht; exact ht.elim
  | some x =>
    rw [c] at ht
    obtain ⟨v, hv, rx⟩ := hs.at_ i x c
    cases x with
    | x a' C dd fs =>
      obtain ⟨⟨rfl, h2, rfl, h3, h3'⟩, h4⟩ := ht
      obtain ⟨y, h5, h6⟩ := gO_of h4
      cases rx with
      | x fx =>
        cases dd with
        | none =>
          have fx : fs = [] := fx
          rw [fx] at h5
          cases h5
        | some dd =>
          obtain ⟨fv, e1, e2, e3⟩ := fx
          obtain ⟨u, hu, du⟩ := dx_lookup e2 e3 h5
          exact ⟨C, ⟨h3, h3'⟩, .ref a', hv, rfl, h2, dd, fv, u, rfl, hr.fh _ _ e1, hu, k _ H F M _ hr .refl (.d du) h6⟩
    | d _ => exact ht.elim
    | r _ => exact ht.elim
    | o _ => exact ht.elim
end
end Tl
set_option Elab.async false
set_option linter.all false
set_option maxRecDepth 100000
set_option maxHeartbeats 4000000
/-! sorted(xs) of data: the rule and its reading; the law's source made by a def that hands back [script, 0, 0, 0]. -/
namespace Tl
open PySem L2 PyProof.Rows
open PySem.W (alike alikeAll AllAlike dataLe dataLt SortsAt EachIs keyToks)
section
variable {K : PySem.W.Frag} {Wx : WX} {RE : REx}
theorem DxL.zip {F : Hp} : ∀ {vs : List V} {ds : List PyData}, DxL K F vs ds → ∃ zs : List (V × PyData), zs.map (·.1) = vs ∧ zs.map (·.2) = ds ∧ ∀ z ∈ zs, Dx K F z.1 z.2
  | _, _, .nil => ⟨[], rfl, rfl, fun _ h => by cases h⟩
  | _, _, .cons (v := v) (d := d) a b => by
    obtain ⟨zs, h1, h2, h3⟩ := DxL.zip b
    refine ⟨(v, d) :: zs, by rw [List.map_cons, h1], by rw [List.map_cons, h2], fun z hz => ?_⟩
    rcases List.mem_cons.mp hz with e | e
    · rw [e]; exact a
    · exact h3 z e
end
end Tl
set_option Elab.async false
set_option linter.all false
set_option maxRecDepth 100000
set_option maxHeartbeats 4000000
/-! A lambda made by a def: what stands behind its making; a lambda of one name called on a tuple, at the heap alone. -/
namespace Tl
open PySem PySem.Spec L2 PyProof.Rows
open PySem.W (KeyPure)
/-- the table at P has a code object more, or none -/
def TabStep (H : Hp) (P : Addr) (q : Str) (H1 : Hp) : Prop := H1 = H ∨ ∃ (ps more : Array Value) (b : Addr), H P = some (.tbl ps) ∧ H b = none ∧ TriplesOk (ps ++ more).toList ∧
  (∀ (z : Pos) (x : Value), codeAmong z (ps ++ more).toList = some x → codeAmong z ps.toList = some x ∨ x = .ref b) ∧ H1 = upd (upd H P (.tbl (ps ++ more))) b (LamX.CodeO b q)
theorem TabStep.ext {H H1 : Hp} {P : Addr} {q : Str} (t : TabStep H P q H1) {a : Addr} {u : HO} (h : H a = some u) (n : ∀ ps, u ≠ .tbl ps) : H1 a = some u := by
  rcases t with rfl | ⟨ps, more, b, h1, h2, _, _, rfl⟩
  · exact h
  · rw [upd_ne (ne_of_none h h2), upd_ne (fun z => n ps (Option.some.inj (h.symm.trans (by rw [z]; exact h1))))]
    exact h
theorem TabStep.none {H H1 : Hp} {P : Addr} {q : Str} (t : TabStep H P q H1) {a : Addr} (h : H1 a = none) : H a = none := by
  rcases t with rfl | ⟨ps, more, b, h1, h2, _, _, rfl⟩
  · exact h
  · by_cases e : a = b
    · rw [e]; exact h2
    · rw [upd_ne e] at h
      by_cases e2 : a = P
      · rw [e2, upd_same] at h; cases h
      · rw [upd_ne e2] at h; exact h
theorem TabStep.sqL {K : PySem.W.Frag} {H H1 : Hp} {P : Addr} {q : Str} (t : TabStep H P q H1) {a : Addr} {xs : List V} (h : SqL K H a xs) : SqL K H1 a xs := by
  rcases h with h | h
  · rcases h with h | ⟨o, h⟩
    · exact .inl (.inl (t.ext h fun ps z => by cases z))
    · exact .inl (.inr ⟨o, t.ext h fun ps z => by cases z⟩)
  · exact .inr h
section
variable {X : Cx} {pins : List (Addr × Obj)} {σ : L2.St} {H : Hp} {s : Shared}
/-- the lambda is made -/
theorem lam_make3 {c P : Addr} {q : Str} {params : Arguments} {body : Expr} {scope : Scope} {pos : Pos} {E : Value → Shared → Prop} {Q : Value → Shared → Prop} (I : Inv X pins σ H s) (TB : LamX.TabB X.base X.mg c P) (cd : X.env.code = .ref c) (eq : X.env.qual ++ "<lambda>" = q)
    (hT : LamX.TabS H P q) (df : defaultsOf params X.env = ([], [])) (fr : ∀ y ∈ scope.names, y.2 = .free → ∃ c, X.env.cells.lookup y.1 = some c)
    (go : ∀ (f b : Addr) (pm ctv : Value) (H1 : Hp) (s1 : Shared), Inv X pins σ H1 s1 → TabStep H P q H1 → s1.heap.get? f = some (PySem.W.kla_obj "<lambda>" q params body scope (cloFrom X.env.cells scope.names []) pm b ctv) → H1 f = none → f ∉ frs X.stack → H1 b = some (LamX.CodeO b q) → Q (.ref f) s1) :
    wpAny (model X.prog X.w) X.A (eval (.Lambda params body scope pos) X.env) Q E s := by
  subst eq
  obtain ⟨ps, e1, ht, ha⟩ := hT
  have fl : ∀ f, s.heap.objs.size ≤ f → f ∉ frs X.stack := fun f hf z => by
    rcases List.mem_cons.mp (I.stkSub f z) with e | e
    · rw [e] at hf; exact absurd I.lt (Nat.not_lt.mpr hf)
    · exact absurd e (I.nofs hf)
  have hP : s.heap.get? P = some { cls := .none, data := .fields ps } := I.hok P _ e1
  have bm := TB.bm.keeps I.bk
  refine PySem.W.kla_eval df ?_
  rcases hc : codeAmong pos ps.toList with _ | cv
  · refine PySem.W.kla_makeFunction (mg := X.mg) (c := c) (P := P) (ps := ps) (closure_ok fr) I.ok.glob (I.mod.glob.keeps I.bk) cd (TB.code.keeps I.bk) hP ht hc TB.gP bm fun b ctv g tk hx hge hlt hrec htb => ?_
    obtain ⟨b2, oc, vs, t, eb, hoc, hd, hv⟩ := hrec
    cases eb
    have nb : H b = none := I.hok.fresh hge
    have z0 : s.heap.objs.size ≤ g.objs.size := Nat.le_trans hge (Nat.le_of_lt hlt)
    have J := LamX.inv_table (t' := tk) (more := #[rawInt pos.line, rawInt pos.col, .ref b]) (h' := g.push (PySem.W.kla_obj "<lambda>" (X.env.qual ++ "<lambda>") params body scope (cloFrom X.env.cells scope.names []) ((X.mg "__name__").getD .none) b ctv)) I e1
      (fun a o ne e => Heap.get?_push_of_some _ (hx a o ne e)) (Heap.get?_push_of_some _ htb) hge ⟨oc, vs, t, Heap.get?_push_of_some _ hoc, hd, hv⟩
    have eL : (ps ++ #[rawInt pos.line, rawInt pos.col, .ref b]).toList = ps.toList ++ [rawInt pos.line, rawInt pos.col, .ref b] := by simp
    refine go g.objs.size b _ ctv _ _ J (.inr ⟨ps, _, b, e1, nb, by rw [eL]; exact PySem.TriplesOk_snoc _ _ _ _ ht, fun z x hz => ?_, rfl⟩) (Heap.get?_push_size _ rfl) ?_ (fl _ z0) upd_same
    · rw [eL] at hz
      exact LamX.among_app _ ht hz
    · rw [upd_ne (Nat.ne_of_gt hlt), upd_ne (Nat.ne_of_gt (Nat.lt_of_lt_of_le (Heap.lt_size hP) z0))]
      exact I.hok.fresh z0
  · obtain ⟨b, rfl, hco⟩ := ha pos cv hc
    refine PySem.W.kla_makeFunctionHit (mg := X.mg) (c := c) (P := P) (ps := ps) (closure_ok fr) I.ok.glob (I.mod.glob.keeps I.bk) cd (TB.code.keeps I.bk) hP ht hc bm fun ctv g tk hx z0 => ?_
    exact go g.objs.size b _ ctv H _ (I.kept fun a o e => Heap.get?_push_of_some _ (hx a o e)) (.inl rfl) (Heap.get?_push_size _ rfl) (I.hok.fresh z0) (fl _ z0) hco
end
end Tl
set_option Elab.async false
set_option linter.all false
set_option maxRecDepth 100000
set_option maxHeartbeats 4000000
/-! Two lambdas over pairs (number, path): p[1] + (i,) and (len(p[1]), p[1]). -/
namespace Tl
open PySem PySem.Spec L2 PyProof.Rows
open PySem.W (KeyPure)
/-- the pair (number, path) and what its path holds -/
structure PairAt (h : Heap) (v : Value) (ds : List PyData) : Prop where
  ex : ∃ (a c : Addr) (n : Value) (its : List Value), v = .ref a ∧ IsTup h a [n, .ref c].toArray ∧ IsTup h c its.toArray ∧ ReadsAll h its ds []
theorem isTup_keep {h g : Heap} (k : ∀ a o, h.get? a = some o → g.get? a = some o) {a : Addr} {xs : Array Value} (t : IsTup h a xs) : IsTup g a xs := by
  obtain ⟨o, h1, h2, n, h3⟩ := t
  exact ⟨o, k _ _ h1, h2, n, h3⟩
theorem PairAt.keep {h g : Heap} (k : ∀ a o, h.get? a = some o → g.get? a = some o) {v : Value} {ds : List PyData} (p : PairAt h v ds) : PairAt g v ds := by
  obtain ⟨a, c, n, its, h1, h2, h3, h4⟩ := p.ex
  exact ⟨a, c, n, its, h1, isTup_keep k h2, isTup_keep k h3, PyProof.Rows.ReadsAll.keeps k h4⟩
end Tl
set_option Elab.async false
set_option linter.all false
set_option maxRecDepth 100000
set_option maxHeartbeats 4000000
/-! sorted(xs, key=len), xs tuples: stably by their lengths. -/
set_option Elab.async false
set_option linter.all false
set_option maxRecDepth 100000
set_option maxHeartbeats 4000000
/-! Deeds on trees that are data; trees of lists that may change. -/
namespace Tl
open PySem L2
/-! ### trees that are data -/
/-- deeds -/
inductive Deed where
  | name (q : List Nat) (t : Str)
  | put (q : List Nat) (n : Nat) (e : PyData)
  | out (q : List Nat)
  | move (q o : List Nat) (n : Nat)
  | swap (q o : List Nat)
  | wrap (q : List Nat) (n m : Nat) (t : Str)
  | unwrap (q : List Nat)
def Deed.d : Deed → PyData
  | .name q t => .tuple [.str "name", pathD q, .str t]
  | .put q n e => .tuple [.str "put", pathD q, .int n, e]
  | .out q => .tuple [.str "out", pathD q]
  | .move q o n => .tuple [.str "move", pathD q, pathD o, .int n]
  | .swap q o => .tuple [.str "swap", pathD q, pathD o]
  | .wrap q n m t => .tuple [.str "wrap", pathD q, .int n, .int m, .str t]
  | .unwrap q => .tuple [.str "unwrap", pathD q]
/-! ### trees of lists that may change -/
/-- a: the list of number, tag and kids; b: the list of kids -/
inductive AT where
  | node (a b : Addr) (n : Int) (t : PyData) (ks : List AT)
def AT.root : AT → Addr
  | .node a _ _ _ _ => a
def AT.box : AT → Addr
  | .node _ b _ _ _ => b
def AT.kids : AT → List AT
  | .node _ _ _ _ ks => ks
def AT.num : AT → Int
  | .node _ _ n _ _ => n
def AT.tag : AT → PyData
  | .node _ _ _ t _ => t
variable {fl : Int → PyData → PyData}
mutual
def AT.adr : AT → List Addr
  | .node a b _ _ ks => a :: b :: adrs ks
def adrs : List AT → List Addr
  | [] => []
  | k :: ks => k.adr ++ adrs ks
end
def rootsW (ks : List AT) : List W := ks.map fun k => .r k.root
mutual
def AT.ok (M : Mem) : AT → Prop
  | .node a b n t ks => M a = some (.lst [.d (.int n), .d t, .r b]) ∧ M b = some (.lst (rootsW ks)) ∧ oks M ks
def oks (M : Mem) : List AT → Prop
  | [] => True
  | k :: ks => k.ok M ∧ oks M ks
end
mutual
theorem AT.ok.same {M M' : Mem} : ∀ {T : AT}, T.ok M → (∀ x ∈ T.adr, M' x = M x) → T.ok M'
  | .node a b n t ks, h, e => by
    rw [AT.ok] at h ⊢
    rw [AT.adr] at e
    exact ⟨by rw [e a (.head _)]; exact h.1, by rw [e b (.tail _ (.head _))]; exact h.2.1, oks_same h.2.2 fun x hx => e x (.tail _ (.tail _ hx))⟩
theorem oks_same {M M' : Mem} : ∀ {ks : List AT}, oks M ks → (∀ x ∈ adrs ks, M' x = M x) → oks M' ks
  | [], _, _ => by rw [oks]; trivial
  | k :: ks, h, e => by
    rw [oks] at h ⊢
    rw [adrs] at e
    exact ⟨AT.ok.same h.1 fun x hx => e x (List.mem_append.mpr (.inl hx)), oks_same h.2 fun x hx => e x (List.mem_append.mpr (.inr hx))⟩
end
/-- the tree at a place -/
def AT.at_ : List Nat → AT → Option AT
  | [], T => some T
  | i :: q, T => match T.kids[i]? with
    | some k => k.at_ q
    | none => none
def AT.withKids (T : AT) (ks : List AT) : AT := .node T.root T.box T.num T.tag ks
/-- another tree at a place -/
def AT.put : List Nat → AT → AT → AT
  | [], _, s => s
  | i :: q, T, s => match T.kids[i]? with
    | some k => T.withKids (T.kids.take i ++ [k.put q s] ++ T.kids.drop (i + 1))
    | none => T
theorem at_nil (T : AT) : T.at_ [] = some T := by rw [AT.at_]
theorem at_cons {i : Nat} {q : List Nat} {T s : AT} : T.at_ (i :: q) = some s ↔ ∃ k, T.kids[i]? = some k ∧ k.at_ q = some s := by
  rw [AT.at_]
  cases c : T.kids[i]? with
  | none => exact ⟨fun h => (by cases h), fun ⟨k, h, _⟩ => (by cases h)⟩
  | some k => exact ⟨fun h => ⟨k, rfl, h⟩, fun ⟨z, h, q⟩ => (by cases h; exact q)⟩
theorem put_at : ∀ {q : List Nat} {T s u : AT}, T.at_ q = some u → (T.put q s).at_ q = some s
  | [], T, s, u, _ => by rw [AT.put, at_nil]
  | i :: q, T, s, u, h => by
    obtain ⟨k, h1, h2⟩ := at_cons.mp h
    have hi : i < T.kids.length := (List.getElem?_eq_some_iff.mp h1).1
    rw [AT.put, h1]
    refine at_cons.mpr ⟨k.put q s, ?_, put_at h2⟩
    show (T.kids.take i ++ [k.put q s] ++ T.kids.drop (i + 1))[i]? = _
    rw [List.append_assoc, List.getElem?_append_right (by rw [List.length_take]; omega), List.length_take, Nat.min_eq_left (by omega), Nat.sub_self]
    rfl
end Tl
set_option Elab.async false
set_option linter.all false
set_option maxRecDepth 100000
set_option maxHeartbeats 4000000
/-! Trees of lists that may change: changed in place. -/
namespace Tl
open PySem L2
/-- alike but for the kids -/
structure Alk (a b : AT) : Prop where
  r : a.root = b.root
  x : a.box = b.box
  n : a.num = b.num
  t : a.tag = b.tag
theorem Alk.refl (a : AT) : Alk a a := ⟨rfl, rfl, rfl, rfl⟩
end Tl
set_option Elab.async false
set_option linter.all false
set_option maxRecDepth 100000
set_option maxHeartbeats 4000000
/-! Trees of lists that may change: parts moved and swapped in place. -/
set_option Elab.async false
set_option linter.all false
set_option maxRecDepth 100000
set_option maxHeartbeats 4000000
/-! Paths as data; what a deed needs; what refuses it. -/
namespace Tl
open PySem L2
/-! ### what a deed is made of -/
def pathOk (q : List Nat) : Prop := q.length < 12 ∧ ∀ i ∈ q, i ≤ 59
def Deed.Ok : Deed → Prop
  | .name q t => pathOk q ∧ isTag (.str t) = true
  | .put q n e => pathOk q ∧ n ≤ 60 ∧ TrT 12 e ∧ nn e ≤ 60
  | .out q => pathOk q
  | .move q o n => pathOk q ∧ pathOk o ∧ n ≤ 60
  | .swap q o => pathOk q ∧ pathOk o
  | .wrap q n m t => pathOk q ∧ n ≤ 60 ∧ m ≤ 60 ∧ isTag (.str t) = true
  | .unwrap q => pathOk q
def Deed.root : Deed → Bool
  | .out q => q.isEmpty
  | .unwrap q => q.isEmpty
  | .move q _ _ => q.isEmpty
  | .swap q o => q.isEmpty || o.isEmpty
  | _ => false
end Tl
set_option Elab.async false
set_option linter.all false
set_option maxRecDepth 100000
set_option maxHeartbeats 4000000
/-! Trees behind deeds: their levels, places. -/
set_option Elab.async false
set_option linter.all false
set_option maxRecDepth 100000
set_option maxHeartbeats 4000000
/-! sorted(xs, key=lambda p: ..), xs pairs (number, path). -/
namespace Tl
open PySem PySem.Spec L2 PyProof.Rows
open PySem.W (KeyPure AllAlike Sortable dataLe dataLt SortsAt EachIs keyToks)
theorem TabStep.sqT {K : PySem.W.Frag} {H H1 : Hp} {P : Addr} {q : Str} (t : TabStep H P q H1) {a : Addr} {xs : List V} (h : SqT K H a xs) : SqT K H1 a xs := by
  rcases h with h | h
  · rcases h with h | ⟨o, h⟩
    · exact .inl (.inl (t.ext h fun ps z => by cases z))
    · exact .inl (.inr ⟨o, t.ext h fun ps z => by cases z⟩)
  · exact .inr h
mutual
theorem TabStep.dp {K : PySem.W.Frag} {H H1 : Hp} {P : Addr} {q : Str} (t : TabStep H P q H1) : ∀ (d : PyData) (v : V), Dp K H v d → Dp K H1 v d
  | .none, _, h => by cases h; exact .non
  | .bool b, _, h => by cases h; exact .bl b
  | .int i, _, h => by cases h; exact .int i
  | .str x, _, h => by cases h; exact .str x
  | .list ds, _, h => by
    cases h with
    | lst hs ha => exact .lst (t.sqL hs) (TabStep.dps t ds _ ha)
  | .tuple ds, _, h => by
    cases h with
    | tup hs ha => exact .tup (t.sqT hs) (TabStep.dps t ds _ ha)
  | .dict _, _, h => by cases h
theorem TabStep.dps {K : PySem.W.Frag} {H H1 : Hp} {P : Addr} {q : Str} (t : TabStep H P q H1) : ∀ (ds : List PyData) (vs : List V), DpAll K H vs ds → DpAll K H1 vs ds
  | [], _, h => by cases h; exact .nil
  | d :: ds, _, h => by
    cases h with
    | cons h1 h2 => exact .cons (TabStep.dp t d _ h1) (TabStep.dps t ds _ h2)
end
/-- the table grows, all else stays -/
theorem rl_tab {K : PySem.W.Frag} {F H H1 : Hp} {M : Mem} {P : Addr} {q : Str} (hr : Rl K F H M) (hp : M P = some (.tab q)) (t : TabStep H P q H1) : ∃ F1, Rl K F1 H1 M ∧ Gr F H M F1 H1 M := by
  rcases t with rfl | ⟨ps, more, b, e1, e2, e3, e4, rfl⟩
  · exact ⟨F, hr, .refl⟩
  obtain ⟨u, u1, ps0, u2, u3, u4⟩ := hr.at_ P _ hp
  subst u2
  rw [e1] at u1
  cases u1
  have fb : F b = none := hr.fh.free e2
  have mb : M b = none := hr.new e2
  have fp : F P = none := hr.mf P _ hp
  have pb : P ≠ b := fun z => by rw [z, e2] at e1; cases e1
  have ff : Same F (upd F b (LamX.CodeO b q)) := same_new fb
  refine ⟨upd F b (LamX.CodeO b q), ⟨fun c u h => ?_, fun a o h => ?_, fun a o h => ?_⟩, ⟨ff, fun c u h n => ?_, fun c u h n f => ?_⟩⟩
  · by_cases z : c = b
    · subst z
      rw [upd_same] at h
      rw [upd_same]
      exact h
    · rw [upd_ne z] at h
      rw [upd_ne z, upd_ne (fun y => by rw [y, fp] at h; cases h)]
      exact hr.fh c u h
  · rw [upd_ne (fun z => by rw [z, mb] at h; cases h)]
    exact hr.mf a o h
  · have ab : a ≠ b := fun z => by rw [z, mb] at h; cases h
    by_cases z : a = P
    · subst z
      rw [hp] at h
      cases h
      refine ⟨_, by rw [upd_ne ab, upd_same], _, rfl, e3, fun y x hx => ?_⟩
      rcases e4 y x hx with h2 | h2
      · obtain ⟨d, d1, d2⟩ := u4 y x h2
        exact ⟨d, d1, ff _ _ d2⟩
      · exact ⟨b, h2, upd_same⟩
    · rw [upd_ne ab, upd_ne z]
      obtain ⟨u, g1, g2⟩ := hr.at_ a o h
      exact ⟨u, g1, g2.mono ff⟩
  · rw [upd_ne (ne_of_none h e2), upd_ne (fun z => by rw [z, hp] at n; cases n)]
    exact ⟨h, n⟩
  · rw [upd_ne (ne_of_none h e2)]
    exact f
theorem rl_tabS {K : PySem.W.Frag} {F H : Hp} {M : Mem} {P : Addr} {q : Str} (hr : Rl K F H M) (hp : M P = some (.tab q)) : LamX.TabS H P q := by
  obtain ⟨u, u1, ps, u2, u3, u4⟩ := hr.at_ P _ hp
  subst u2
  refine ⟨ps, u1, u3, fun y x hx => ?_⟩
  obtain ⟨b, b1, b2⟩ := u4 y x hx
  exact ⟨b, b1, hr.fh _ _ b2⟩
end Tl
set_option Elab.async false
set_option linter.all false
set_option maxRecDepth 100000
set_option maxHeartbeats 4000000
/-! A def whose own table of code is known; a law with such a def: its first state, its end. -/
namespace Tl
open PySem PySem.Spec L2 PyProof.Rows
section
variable {P : Program} {w : World} {K : PySem.W.Frag} {mg : Str → Option Value} {base : Heap}
/-- a def that lets nothing out, its code object known -/
theorem okDC {f c : Addr} {fd : FuncData} {k n : Nat} {x qual : Str} {st : Stmt} {N ps : List Str} {tf : TF} (F : Fun K x qual st f fd) (S : FnScope N ps (defScope st)) (hp : ps.length = n) (hc : fd.code = .ref c)
    (hb : ∀ (A : Around) (outer : List Env) (s : Shared) (H : Hp) (E : XK), Room k (A.deeper (PyProof.Rows.envOfC qual (defScope st) s.heap.objs.size f (.ref c))) →
      ∃ (t : TS) (T : TDS), PSs (cxOf CX0 P w K mg base N qual (defScope st) f (.ref c) A outer s H E).nox (defBody st) t ∧ SSt K (fun _ _ _ _ => False) (fun _ _ _ => False) t T ∧
        ∀ ws M R RX, ws.length = n → tf ws M R RX → T (endD R) (start0 N.length ws) M) : FnOk P w K mg base CX0 (k + 1) f fd ps (spD K n tf) := by
  obtain ⟨oc, od, kV, doc, pm, an, cdv, ct, osl, rfl, lk, hcd⟩ := F.ex
  obtain rfl : cdv = .ref c := hc
  refine fn_of lk hcd S (fun vs H Q E h => ?_) fun A outer s H vs Q E hr h => ?_
  · obtain ⟨F0, M, ws, R, RX, r, rs, hl, _⟩ := h
    rw [rs.len, hl, hp]
  · obtain ⟨F0, M, ws, R, RX, r, rs, hl, hf, hk, _⟩ := h
    obtain ⟨t, T, h1, h2, h3⟩ := hb A outer s H E hr
    exact ⟨t, h1.nox, h2 F0 H M _ _ _ _ r (fun F' H' M' σ ρ cls d x _ _ _ _ z => z) (rel_start rs) (h3 ws M R RX hl hf) (ek_def hk)⟩
end
/-- as a law begins: the script, locked, and empty tables -/
def withTabs (a : Addr) (u : Option HO) (ts : List Addr) : Hp := fun b => if b ∈ ts then some (.tbl #[]) else if b = a then u else none
theorem end_atT {P : Program} {w : World} {K : PySem.W.Frag} {mg mb : Str → Option Value} {fa a : Addr} {s₁ : Shared} {vs : List Value} {ns : List Int} {cs : List (Addr × Addr)}
    (KX : K.In s₁.heap) (gl : s₁.heap.Ns mainGlobals mg) (hmb : s₁.heap.Ns builtinsNs mb) (hbb : ∀ x : Str, x ≠ "__name__" → mb x = bootBuiltins x) (nl : s₁.heap.NoLimit) (ge : s₁.gens = #[])
    (tb : ∀ p ∈ cs, s₁.heap.get? p.2 = some { cls := .none, data := .fields #[] }) (tn : ∀ p ∈ cs, K.lookup p.2 = none) (tc : ∀ p ∈ cs, PySem.W.CodeHd s₁.heap p.1 p.2)
    (bm : ∃ (m : Addr) (o : Obj), mg "__builtins__" = some (.ref m) ∧ m ≠ builtinsNs ∧ s₁.heap.get? m = some o ∧ o.cls = .type "module" ∧ o.dict = some builtinsNs ∧ o.data = .plain)
    (ha : s₁.heap.get? a = some { cls := .type "list", data := .seq vs.toArray }) (hi : IntsAre vs ns) (hl : ns.length ≤ sizeLine)
    (run : ∀ (base : Heap) (H : Hp), K.In base → base.Ns mainGlobals mg → SqL K H a (ns.map V.int) → (∀ p ∈ cs, H p.2 = some (.tbl #[])) → (∀ p ∈ cs, LamX.TabB base mg p.1 p.2) → Env0 P w K mg base callerA [] s₁ H →
      codeAny (model P w) callerA (.call (.ref fa) ⟨[.ref a], []⟩) (CR CX0 [] P w H s₁ (fun v _ => v = V.bl true) fun _ _ _ => False) s₁) :
    codeAny (model P w) callerA (.call (.ref fa) ⟨[.ref a], []⟩) (fun r s2 => r = .ok (.ret (.bool true)) ∧ OldK s₁.heap s2.heap ∧ s2.os = s₁.os ∧ AllBare s2.gens) s₁ := by
  have rv := vals_ints hi
  have lv := hi.length
  have memT : ∀ p ∈ cs, p.2 ∈ cs.map (·.2) := fun p hp => List.mem_map.mpr ⟨p, hp, rfl⟩
  have isT : ∀ b ∈ cs.map (·.2), s₁.heap.get? b = some { cls := .none, data := .fields #[] } ∧ K.lookup b = none := fun b hb => by
    obtain ⟨p, hp, rfl⟩ := List.mem_map.mp hb
    exact ⟨tb p hp, tn p hp⟩
  have na : a ∉ cs.map (·.2) := fun z => by
    have q := (isT a z).1
    rw [ha] at q
    have : Data.seq vs.toArray 0 = Data.fields #[] := congrArg Obj.data (Option.some.inj q)
    cases this
  have go : ∀ u : Option HO, (∀ o, u = some o → o = .frz { cls := .type "list", data := .seq vs.toArray } (.lst (ns.map V.int)) ∧ K.lookup a = none) → SqL K (withTabs a u (cs.map (·.2))) a (ns.map V.int) →
      codeAny (model P w) callerA (.call (.ref fa) ⟨[.ref a], []⟩) (fun r s2 => r = .ok (.ret (.bool true)) ∧ OldK s₁.heap s2.heap ∧ s2.os = s₁.os ∧ AllBare s2.gens) s₁ := by
    intro u hu hS
    generalize eH : withTabs a u (cs.map (·.2)) = H at hS
    have kinds : ∀ b o, H b = some o → (b ∈ cs.map (·.2) ∧ o = .tbl #[]) ∨ (b = a ∧ u = some o) := fun b o h => by
      rw [← eH] at h
      unfold withTabs at h
      split at h
      · rename_i m; cases h; exact .inl ⟨m, rfl⟩
      · split at h
        · rename_i m; exact .inr ⟨m, h⟩
        · cases h
    have tabH : ∀ p ∈ cs, H p.2 = some (.tbl #[]) := fun p hp => by
      rw [← eH]
      exact if_pos (memT p hp)
    have free : ∀ {b : Addr} {o : Obj}, s₁.heap.get? b = some o → (∀ x n, o.data ≠ .seq x n) → o.data ≠ .fields #[] → H b = none := fun {b o} h n1 n2 => by
      cases z : H b with
      | none => rfl
      | some y =>
        rcases kinds b y z with ⟨m, _⟩ | ⟨rfl, _⟩
        · rw [(isT b m).1] at h
          cases h
          exact absurd rfl n2
        · rw [ha] at h
          cases h
          exact absurd rfl (n1 _ _)
    have lo : ∀ {b : Addr} {o : Obj}, s₁.heap.get? b = some o → H b = none → (hidT s₁.heap H).get? b = some o := fun q n => hidT_get q n
    have nsK : ∀ {b : Addr} {m : Str → Option Value}, s₁.heap.Ns b m → (hidT s₁.heap H).Ns b m := fun {b m} ⟨o, es, ep, q, d, r⟩ =>
      ⟨o, es, ep, lo q (free q (fun x n z => by rw [d] at z; cases z) (fun z => by rw [d] at z; cases z)), d, r⟩
    have kb : K.In (hidT s₁.heap H) := fun b o q => lo (KX b o q) (by
      cases z : H b with
      | none => rfl
      | some y =>
        rcases kinds b y z with ⟨m, _⟩ | ⟨rfl, h⟩
        · rw [(isT b m).2] at q; cases q
        · rw [(hu y h).2] at q; cases q)
    have hM : Mod K mg (hidT s₁.heap H) := ⟨kb, nsK gl, ⟨mb, nsK hmb, hbb⟩, by
      obtain ⟨mc, l1, l2⟩ := nl
      exact ⟨mc, nsK l1, l2⟩⟩
    have hok : HOk P w H s₁.heap := fun b o h => by
      rcases kinds b o h with ⟨m, rfl⟩ | ⟨rfl, h2⟩
      · exact (isT b m).1
      · rw [(hu o h2).1]
        exact ⟨ha, by rw [List.length_map]; exact hl, vs, _, rv, ha⟩
    have TB : ∀ p ∈ cs, LamX.TabB (hidT s₁.heap H) mg p.1 p.2 := fun p hp => by
      have ht := tb p hp
      refine ⟨?_, ?_, fun z => ?_⟩
      · obtain ⟨o, us, x1, x2, x3, x4, x5, x6, x7, e1, r1, r2, r3, r4⟩ := tc p hp
        exact ⟨o, us, x1, x2, x3, x4, x5, x6, x7, lo e1 (free e1 (fun x n z => by rw [r2] at z; cases z) (fun z => by rw [r2] at z; cases z; simp at r3)), r1, r2, r3, r4⟩
      · obtain ⟨m, o, b1, b2, b3, b4, b5, b6⟩ := bm
        refine ⟨m, o, b1, b2, fun q => ?_, fun q => ?_, lo b3 (free b3 (fun x n z => by rw [b6] at z; cases z) (fun z => by rw [b6] at z; cases z)), b4, b5, b6⟩
        · obtain ⟨o2, es, ep, e, hd, _⟩ := gl
          rw [q, e] at b3
          cases b3
          rw [hd] at b6
          cases b6
        · rw [q, ht] at b3
          cases b3
          cases b6
      · obtain ⟨o2, es, ep, e, hd, _⟩ := gl
        rw [z, ht] at e
        cases e
        cases hd
    have e0 : Env0 P w K mg (hidT s₁.heap H) callerA [] s₁ H :=
      ⟨rfl, hM, fun b o q => of_hidT q, Nat.le_of_eq (hidT_size _ _), trivial, fun b hb => absurd (show b ∈ ([] : List Addr) from hb) (by simp), hok, .of_eq ge⟩
    refine codeAny_mono (run _ H kb (nsK gl) hS tabH TB e0) fun r s2 h => ?_
    cases r with
    | error e => exact h.elim
    | ok fl =>
      cases fl with
      | next => exact h.elim
      | brk => exact h.elim
      | cont => exact h.elim
      | ret y =>
        obtain ⟨v, H2, os, bare, un, hok2, ry, q⟩ := h
        obtain rfl : v = .bl true := q
        obtain rfl : y = Value.bool true := ry
        have tabs2 : ∀ p ∈ cs, ∃ more : Array Value, s2.heap.get? p.2 = some { cls := .none, data := .fields more } := fun p hp => by
          obtain ⟨more, z⟩ := un.tbls p.2 #[] (tabH p hp)
          exact ⟨_, hok2 p.2 _ z⟩
        have old : ∀ b o, b ∉ cs.map (·.2) → s₁.heap.get? b = some o → s2.heap.get? b = some o := fun b o nb e => by
          cases z : H b with
          | none => exact un.keep b o e z (fun y => absurd (show b ∈ ([] : List Addr) from y) (by simp)) (by simp)
          | some y =>
            rcases kinds b y z with ⟨m, _⟩ | ⟨rfl, h2⟩
            · exact absurd m nb
            · rw [(hu y h2).1] at z
              have z2 := un.frzs b _ _ z
              have k1 := (hok b _ z).1
              have k2 := (hok2 b _ z2).1
              rw [e] at k1
              cases k1
              exact k2
        refine ⟨rfl, ⟨fun b o e => ?_, fun b o e => ?_⟩, os, bare⟩
        · by_cases m : b ∈ cs.map (·.2)
          · obtain ⟨p, hp, rfl⟩ := List.mem_map.mp m
            obtain ⟨more, h3⟩ := tabs2 p hp
            rw [tb p hp] at e
            cases e
            exact .inr (.inl ⟨((tc p hp).tab (tb p hp)).isCodeTable, rfl, #[], more, rfl, by simpa using h3⟩)
          · exact .inl (old b o m e)
        · by_cases m : b ∈ cs.map (·.2)
          · obtain ⟨p, hp, rfl⟩ := List.mem_map.mp m
            obtain ⟨more, h3⟩ := tabs2 p hp
            exact ⟨_, h3⟩
          · exact ⟨o, old b o m e⟩
  cases hk : K.lookup a with
  | some o =>
    have e := KX a o hk
    rw [ha] at e
    cases e
    exact go none (fun o h => by cases h) (.inr ⟨_, vs.toArray, _, hk, rfl, rfl, rfl, by rw [List.size_toArray, lv]; exact hl, by simpa using rv⟩)
  | none => exact go (some (.frz { cls := .type "list", data := .seq vs.toArray } (.lst (ns.map V.int)))) (fun o h => ⟨(Option.some.inj h).symm, hk⟩) (.inl (.inr ⟨_, by unfold withTabs; rw [if_neg na, if_pos rfl]⟩))
/-- defs of the law whose tables are known -/
def TabsK (q : Program) (K : Params → PySem.W.Frag) : List (Str × Addr × Addr) → Prop
  | [] => True
  | t :: r => ((∃ d, (PyProof.Rows.recsOf q).find? (fun e => e.name == t.1) = some d) ∧ ∀ w : World, PySem.W.tabIn (K w.params) t.1 = some t.2 ∧ (K w.params).lookup t.2.2 = none) ∧ TabsK q K r
theorem TabsK.mem {q : Program} {K : Params → PySem.W.Frag} : ∀ {ts : List (Str × Addr × Addr)}, TabsK q K ts → ∀ t ∈ ts, (∃ d, (PyProof.Rows.recsOf q).find? (fun e => e.name == t.1) = some d) ∧ ∀ w : World, PySem.W.tabIn (K w.params) t.1 = some t.2 ∧ (K w.params).lookup t.2.2 = none
  | _ :: _, h, t, m => by
    rcases List.mem_cons.mp m with e | m
    · rw [e]; exact h.1
    · exact TabsK.mem h.2 t m
theorem walk_at_topT {l : PySem.W.OpenLaw} {n : Nat} {q : Program} {loose : List Str} {XP : (Str → Option Value) → Heap → Prop} {YP : World → Heap → Prop} {d : DefRec} {K : Params → PySem.W.Frag} {ts : List (Str × Addr × Addr)}
    (hn : l.most = some n) (hn2 : n ≤ sizeLine) (hdf : d.params.defaults = []) (hY : ∀ (w : World) (h : Heap), YP w h → (K w.params).In h) (ht : TabsK q K ts)
    (F : ∀ (w : World) (mg : Str → Option Value) (fa : Addr) (h : Heap), (K w.params).In h → h.Ns mainGlobals mg → mg d.name = some (.ref fa) →
      ∀ (s₁ : Shared) (base : Heap) (H : Hp) (a : Addr) (ns : List Int), ns.length ≤ n → (K w.params).In base → base.Ns mainGlobals mg → SqL (K w.params) H a (ns.map V.int) → (∀ t ∈ ts, H t.2.2 = some (.tbl #[])) → (∀ t ∈ ts, LamX.TabB base mg t.2.1 t.2.2) → (∀ t ∈ ts, PySem.W.tabIn (K w.params) t.1 = some t.2) → Env0 l.prog w (K w.params) mg base callerA [] s₁ H →
        codeAny (model l.prog w) callerA (.call (.ref fa) ⟨[.ref a], []⟩) (CR CX0 [] l.prog w H s₁ (fun v _ => v = V.bl true) fun _ _ _ => False) s₁) :
    PySem.W.WalkO q loose XP YP l.row.toRowW d [] (fun f vs => PySem.call f vs) := by
  refine Att.attach_call hn hdf fun w s₀ s₁ mg mb fa o pm cd doc a vs ns G Y ho hd hcd hmg hobj hints hlen hg => ?_
  have KX := hY w _ Y
  have tt : ∀ t ∈ ts, PySem.W.CodeHd s₁.heap t.2.1 t.2.2 ∧ s₁.heap.get? t.2.2 = some (PySem.W.tabObj #[]) := fun t m => by
    obtain ⟨⟨d2, h1⟩, h2⟩ := ht.mem t m
    exact PySem.W.tab_of G.T KX h1 (h2 w).1
  have mm : ∀ {A : (Addr × Addr) → Prop}, (∀ t ∈ ts, A t.2) → ∀ p ∈ ts.map (·.2), A p := fun h p hp => by
    obtain ⟨t, m, rfl⟩ := List.mem_map.mp hp
    exact h t m
  exact end_atT (cs := ts.map (·.2)) KX G.T.g G.T.b G.T.builtins G.T.nolimit hg (mm fun t m => (tt t m).2) (mm fun t m => ((ht.mem t m).2 w).2) (mm fun t m => (tt t m).1) G.T.bmain hobj hints (Nat.le_trans hlen hn2)
    fun base H h1 h2 h3 h4 h5 h6 => F w mg fa _ KX G.T.g hmg s₁ base H a ns hlen h1 h2 h3 (fun t m => h4 t.2 (List.mem_map.mpr ⟨t, m, rfl⟩)) (fun t m => h5 t.2 (List.mem_map.mpr ⟨t, m, rfl⟩)) (fun t m => ((ht.mem t m).2 w).1) h6
theorem tabIn_mk {K : PySem.W.Frag} {x : Str} {f c P : Addr} {v1 v2 : Value} {o1 o2 : Option Addr} {s1 s2 : Array (Option Value)} {fd : FuncData} {vs : Array Value} (h1 : PySem.W.nsIn K mainGlobals x = some (some (.ref f))) (h2 : K.lookup f = some ⟨v1, o1, .func fd, s1⟩) (h3 : fd.code = .ref c) (h4 : K.lookup c = some ⟨v2, o2, .fields vs, s2⟩) (h5 : vs[11]? = some (.ref P)) : PySem.W.tabIn K x = some (c, P) := by
  unfold PySem.W.tabIn
  rw [h1]
  dsimp only
  rw [h2]
  dsimp only
  rw [h3]
  dsimp only
  rw [h4]
  dsimp only
  rw [h5]
/-- the code object of a def whose table is known -/
theorem code_of {K : PySem.W.Frag} {h : Heap} {mg : Str → Option Value} {x qual : Str} {st : Stmt} {f c P : Addr} {fd : FuncData} (X : K.In h) (G : h.Ns mainGlobals mg) (F : Fun K x qual st f fd) (hm : mg x = some (.ref f)) (ht : PySem.W.tabIn K x = some (c, P)) : fd.code = .ref c := by
  obtain ⟨oc, od, kV, doc, pm, an, cdv, ct, osl, rfl, lk, hcd⟩ := F.ex
  exact PySem.W.law_code X G ht hm (X _ _ lk) rfl
section
variable {P : Program} {w : World} {K : PySem.W.Frag} {mg : Str → Option Value} {base : Heap}
theorem tab0 {F : Hp} (q : Str) : TabO F (.tbl #[]) q := ⟨#[], rfl, True.intro, fun z x h => by
  have h2 : codeAmong z [] = some x := h
  simp [codeAmong] at h2⟩
end
end Tl
set_option Elab.async false
set_option linter.all false
set_option maxRecDepth 100000
set_option maxHeartbeats 4000000
/-! A lambda without parameters handed to a def that calls it: x(lambda: e). -/
namespace Tl
open PySem PySem.Spec L2 PyProof.Rows
open LamX (LamS lamCx lamEnv CodeO TabS TabB)
/-- the call of what was handed over, told by what stands in slot 0 -/
def tAct (f c' : Addr) (q : Str) (W : WX) (tl : XK → Hp → VK → Prop) : TE := fun σZ HZ Q => σZ[0]? = some (some (.ref f)) ∧ HZ c' = some (CodeO c' q) ∧ tl (fun cls d H => W cls d σZ H) HZ Q
section
variable {X : Cx} {pins : List (Addr × Obj)} {σ : L2.St} {H : Hp} {s : Shared}
theorem pe_actS {Ng : List Str} {qg : Str} {sg : Scope} {g f c' : Addr} {cdg pm ctv : Value} {params : Arguments} {body : Expr} {scope : Scope} {k : Nat} {a : Str} {pn : List (Addr × Obj)} {xe : Value → Shared → Prop} {W : WX} {t : XK → TE} {p1 p2 : Pos}
    (I : Inv X pins σ H s) (L : LamS X.env.scope scope) (hf : s.heap.get? f = some (PySem.W.kla_obj "<lambda>" (X.env.qual ++ "<lambda>") params body scope (cloFrom X.env.cells scope.names []) pm c' ctv)) (hfn : H f = none) (hfr : f ∉ frs X.stack)
    (hbind : bindArgs (PySem.W.kla_fn "<lambda>" (X.env.qual ++ "<lambda>") params body scope (cloFrom X.env.cells scope.names []) pm (.ref c') ctv) ⟨[], []⟩ = pure [])
    (tk : Takes ((cxOf C8.CX0 X.prog X.w X.K X.mg X.base Ng qg sg g cdg X.A X.stack s H C8.E0).tr pn xe) W) (hr : Room (k + 1) (X.A.deeper (envOfC qg sg s.heap.objs.size g cdg)))
    (hbody : ∀ (A : Around) (outer : List Env) (s : Shared) (H : Hp) (E : XK), Room k (A.deeper (lamEnv X scope s.heap.objs.size f c')) → PE (lamCx X A outer s H E scope f c') body (t E))
    (hN : Ng[0]? = some a) (hv : Vis sg a) (hd : (a == ("__debug__" : Str)) = false) (hcd : (a == ("__classdict__" : Str)) = false) :
    PE ((cxOf C8.CX0 X.prog X.w X.K X.mg X.base Ng qg sg g cdg X.A X.stack s H C8.E0).tr pn xe) (.Call (.Name a p1) [] [] p2) (tAct f c' (X.env.qual ++ "<lambda>") W fun E HZ Q => t E σ HZ Q) := by
  refine ⟨fun pinsZ sZ σZ HZ Q IZ ⟨hs, hc, ht⟩ => ?_⟩
  refine wpAny_Call_Name_kw (thn ((pe_var (pos := p1) hN hv hd hcd).run pinsZ sZ σZ HZ (fun v H1 => v = .ref f ∧ H1 = HZ) IZ ⟨.ref f, hs, rfl, rfl⟩) fun u s1 got => ?_)
  obtain ⟨v, H1, I1, r1, rfl, rfl⟩ := got
  obtain rfl : u = Value.ref f := r1
  have ho := I1.base.keep f _ hf hfn hfr (fun z => nomatch (show f ∈ ([] : List Addr) from z))
  refine PySem.W.callWith_F0 ⟨_, _, _, _, ho⟩ ?_
  obtain ⟨⟨oc, vs, t0, e1, e2, e3⟩, _, _⟩ := I1.hok c' _ hc
  have run : codeAny (model X.prog X.w) (X.A.deeper (envOfC qg sg s.heap.objs.size g cdg)) (.call (.ref f) ⟨[], []⟩) (CR (L2.CX X.prog X.w) (envOfC qg sg s.heap.objs.size g cdg :: X.stack) X.prog X.w H1 s1 Q (fun cls d H => W cls d σZ H)) s1 := by
    refine PySem.W.kla_callFunE hr.depth ho rfl L.co L.gen rfl ⟨c', oc, vs, t0, rfl, e1, e2, e3⟩ ?_
    rw [hbind]
    refine wpAny_pure (wpAny_newFunctionEnv (fun y hy => (L.own y hy).2) (fun y hy => absurd hy (by simp)) (fun h₁ hns hsb => ⟨I1.nolimit.fresh _ hsb, ?_⟩) L.kind)
    show codeAny _ _ (.expr body (lamEnv X scope s1.heap.objs.size f c')) _ _
    have kp : ∀ b o, s1.heap.get? b = some o → h₁.get? b = some o := fun b o e => hsb.extBut b o (Nat.ne_of_lt (Heap.lt_size e)) (Heap.get?_push_of_some _ e)
    have un : Un (frs X.stack) [] H H1 s.heap s1.heap := I1.base
    have J : Inv (lamCx X (X.A.deeper (envOfC qg sg s.heap.objs.size g cdg)) (envOfC qg sg s.heap.objs.size g cdg :: X.stack) s1 H1 (fun cls d H => W cls d σZ H) scope f c') [] σ H1 { s1 with heap := h₁, toks := s1.toks + ([] : List (Str × Value)).length } :=
      LamX.lam_start2 I L I1.env0 hr.hd un hns kp
    refine PySem.W.kla_codeExpr (wpAny_mono ((hbody _ _ s1 H1 _ (hr.deeper _)).run [] _ _ H1 Q J ht) (fun v s' got => ?_) fun _ _ z => z)
    obtain ⟨w', H', J', rv, q⟩ := got
    exact ⟨w', H', J'.os, J'.bare, J'.base, J'.hok, rv, q⟩
  refine wpAny_call (codeAny_mono run fun r s' got => ?_)
  cases r with
  | error e => exact passAt tk σZ pinsZ H1 s1 e s' I1 got
  | ok fl =>
    cases fl with
    | ret u => exact I1.after got
    | next => exact False.elim got
    | brk => exact False.elim got
    | cont => exact False.elim got
end
/-- what the def makes of the reading of what it was handed -/
def GivesT (X : Cx) (Ng : List Str) (x : Str) (sg : Scope) (g : Addr) (cdg : Value) (bg : List Stmt) (a : Str) (q : Str) (TT : (XK → Hp → VK → Prop) → Hp → VK → Prop) : Prop :=
  ∀ (f c' : Addr) (s : Shared) (H : Hp) (Q : VK) (tl : XK → Hp → VK → Prop),
    (∀ (W : WX) (pn : List (Addr × Obj)) (xe : Value → Shared → Prop) (p1 p2 : Pos), Takes ((cxOf C8.CX0 X.prog X.w X.K X.mg X.base Ng x sg g cdg X.A X.stack s H C8.E0).tr pn xe) W →
      PE ((cxOf C8.CX0 X.prog X.w X.K X.mg X.base Ng x sg g cdg X.A X.stack s H C8.E0).tr pn xe) (.Call (.Name a p1) [] [] p2) (tAct f c' q W tl)) →
    Room 1 (X.A.deeper (envOfC x sg s.heap.objs.size g cdg)) → H c' = some (CodeO c' q) → TT tl H Q →
    ∃ t, PSs (cxOf C8.CX0 X.prog X.w X.K X.mg X.base Ng x sg g cdg X.A X.stack s H C8.E0).nox bg t ∧ t { nx := fun _ H' => Q .non H', rt := Q } (L2.start Ng [.ref f]) H
def tLamT (P : Addr) (q : Str) (TT : (XK → Hp → VK → Prop) → Hp → VK → Prop) (t : XK → TE) : TE := fun σ H Q => TabS H P q ∧ ∀ H1 c', TabStep H P q H1 → H1 c' = some (CodeO c' q) → TT (fun E H' Q' => t E σ H' Q') H1 Q
section
variable {X : Cx}
/-- x(lambda: e) -/
theorem pe_lamT {TT : (XK → Hp → VK → Prop) → Hp → VK → Prop} {x a q : Str} {g c P : Addr} {k : Nat} {pg : Arguments} {bg : List Stmt} {sg : Scope} {dV kV doc pm cdv ct oc : Value} {an od : Option Addr} {osl : Array (Option Value)} {Ng : List Str}
    {params : Arguments} {body : Expr} {scope : Scope} {t : XK → TE} {p lpos pos : Pos} (hg : Gl X x) (hm : X.mg x = some (.ref g)) (hk : PySem.W.keepIn X.K (.ref g) = true)
    (lk : X.K.lookup g = some ⟨oc, od, .func (PySem.W.fnOf x x pg bg sg dV kV doc pm an cdv ct), osl⟩) (hcg : PySem.W.codeIn X.K cdv x = true) (hb : L2.Binds X.K (PySem.W.fnOf x x pg bg sg dV kV doc pm an cdv ct) [a] []) (Sg : FnScope Ng [a] sg) (hNg : Ng[0]? = some a) (hva : Vis sg a)
    (hG : GivesT X Ng x sg g cdv bg a q TT) (TB : TabB X.base X.mg c P) (cd : X.env.code = .ref c) (eq : X.env.qual ++ "<lambda>" = q) (hr : Room (k + 2) X.A) (L : LamS X.env.scope scope) (df : defaultsOf params X.env = ([], []))
    (hbind : ∀ (q : Str) (cl : List (Str × Addr)) (pm cv ctv : Value), bindArgs (PySem.W.kla_fn "<lambda>" q params body scope cl pm cv ctv) ⟨[], []⟩ = pure [])
    (hbody : ∀ (A : Around) (outer : List Env) (s : Shared) (H : Hp) (E : XK) (f c' : Addr), Room k (A.deeper (lamEnv X scope s.heap.objs.size f c')) → PE (lamCx X A outer s H E scope f c') body (t E))
    (hdb : (x == ("__debug__" : Str)) = false := by decide) (hd : (a == ("__debug__" : Str)) = false := by decide) (hcd : (a == ("__classdict__" : Str)) = false := by decide) :
    PE X (.Call (.Name x p) [.Lambda params body scope lpos] [] pos) (tLamT P q TT t) := by
  subst eq
  refine ⟨fun pins s σ H Q I ⟨hT, h⟩ => ?_⟩
  refine wpAny_Call_Name_kw (ld_glob I hg hm (PySem.W.callWith_K (h₀ := X.base) I.ok.mod.kin hk ?_ (by rfl) (by rfl)) hdb)
  show wpAny _ _ (spliced ((false, eval (.Lambda params body scope lpos) X.env) :: backTo pos (starEach [] X.env))) _ _ s
  refine Calls.spliced_cons (lam_make3 I TB cd rfl hT df (L.has I.ok) fun f b pm' ctv H1 s1 I1 ts ho hf hfr hb2 => Calls.spliced_nil ⟨I1.kIn, ?_⟩)
  have hr2 : Room (k + 1 + 1) X.A := hr
  have run : codeAny (model X.prog X.w) X.A (.call (.ref g) ⟨[.ref f], []⟩) (CR C8.CX0 X.stack X.prog X.w H1 s1 Q C8.E0) s1 := by
    refine LamX.run_ofS (N := Ng) (ps := [a]) (us := [.ref f]) (vs := [.ref f]) lk hcg Sg hr2 I1.env0 (hb s1 [.ref f] I1.kIn rfl) (.cons rfl .nil) rfl fun hr' => ?_
    suffices z : ∃ t', PSs (cxOf C8.CX0 X.prog X.w X.K X.mg X.base Ng x sg g cdv X.A X.stack s1 H1 C8.E0).nox bg t' ∧ t' { nx := fun _ H' => Q .non H', rt := Q } (L2.start Ng [.ref f]) H1 by
      obtain ⟨t', z1, z2⟩ := z
      exact ⟨t', z1.nox, z2⟩
    refine hG f b s1 H1 Q (fun E H' Q' => t E σ H' Q') (fun W pn xe p1 p2 tk => ?_) (hr'.mono (by omega)) hb2 (h H1 b ts hb2)
    exact pe_actS I1 L ho hf hfr (hbind _ _ _ _ _) tk hr' (fun A outer s H E hr3 => hbody A outer s H E f b hr3) hNg hva hd hcd
  refine wpAny_call (codeAny_mono run fun r s2 got => ?_)
  cases r with
  | error e => exact (show False from got).elim
  | ok fl =>
    cases fl with
    | ret u => exact I1.after got
    | next => exact False.elim got
    | brk => exact False.elim got
    | cont => exact False.elim got
end
end Tl
set_option Elab.async false
set_option linter.all false
set_option maxRecDepth 100000
set_option maxHeartbeats 4000000
/-! x(lambda: e) at the second layer: the def that is handed the lambda, what it makes of its reading. -/
namespace Tl
open PySem PySem.Spec L2 PyProof.Rows
open LamX (LamS lamCx lamEnv CodeO TabS TabB)
/-- the reading of what is handed over: where it raises, where it is done -/
abbrev CLR := (Ex → Mem → Prop) → Mem → (W → Mem → Prop) → Prop
def ClOk (K : PySem.W.Frag) (F H : Hp) (M : Mem) (tl : XK → Hp → VK → Prop) (CB : CLR) : Prop := ∀ (F' H' : Hp) (M' : Mem) (R' : W → Mem → Prop) (Q' : VK) (E : XK) (RE : Ex → Mem → Prop), Gr F H M F' H' M' → Rl K F' H' M' → CB RE M' R' →
  (∀ F2 H2 M2 cls d x, Gr F' H' M' F2 H2 M2 → Rl K F2 H2 M2 → XRel K F2 cls d x → RE x M2 → E cls d H2) → Kt K F' H' M' R' Q' → tl E H' Q'
/-- the same, where more is wished for than is told -/
def upC (CB : CLR) : CLR := fun RE M R => ∃ (RE0 : Ex → Mem → Prop) (R0 : W → Mem → Prop), CB RE0 M R0 ∧ (∀ x M', RE0 x M' → RE x M') ∧ ∀ v M', R0 v M' → R v M'
theorem ClOk.up {K : PySem.W.Frag} {F H : Hp} {M : Mem} {tl : XK → Hp → VK → Prop} {CB : CLR} (h : ClOk K F H M tl CB) : ClOk K F H M tl (upC CB) := fun F' H' M' R' Q' E RE g r ⟨RE0, R0, cb, h1, h2⟩ hE k =>
  h F' H' M' R0 Q' E RE0 g r cb (fun F2 H2 M2 cls d x g2 r2 xr q => hE F2 H2 M2 cls d x g2 r2 xr (h1 _ _ q)) fun v H2 F2 M2 x r2 g2 rx q => k v H2 F2 M2 x r2 g2 rx (h2 _ _ q)
def TTw (K : PySem.W.Frag) (G : CLR → (W → Mem → Prop) → Mem → Prop) : (XK → Hp → VK → Prop) → Hp → VK → Prop := fun tl H Q => ∃ (F : Hp) (M : Mem) (R : W → Mem → Prop) (CB : CLR), Rl K F H M ∧ Kt K F H M R Q ∧ ClOk K F H M tl CB ∧ G CB R M
@[reducible] def lamT (P : Addr) (q : Str) (G : CLR → (W → Mem → Prop) → Mem → Prop) (TB : REx → TDE) : TDE := fun ρ M R => M P = some (.tab q) ∧ G (fun RE M' R' => TB (fun x _ M2 => RE x M2) ρ M' R') R M
theorem se_lamT {K : PySem.W.Frag} {Wx : WX} {RE : REx} {P : Addr} {q : Str} {G : CLR → (W → Mem → Prop) → Mem → Prop} {t : XK → TE} {TB : REx → TDE} (hb : ∀ (E : XK) (RE' : REx), SE K (fun cls d _ H => E cls d H) RE' (t E) (TB RE')) : SE K Wx RE (tLamT P q (TTw K G) t) (lamT P q G TB) := fun F H M σ ρ R Q hr hx hs ht k => by
  obtain ⟨hp, hg⟩ := ht
  refine ⟨rl_tabS hr hp, fun H1 c' ts _ => ?_⟩
  obtain ⟨F1, r1, g1⟩ := rl_tab hr hp ts
  refine ⟨F1, M, R, _, r1, fun v H' F' M' x r g => k v H' F' M' x r (g1.trans g), fun F' H' M' R' Q' E RE' g r cb hE k' => ?_, hg⟩
  exact hb E (fun x _ M2 => RE' x M2) F' H' M' σ ρ R' Q' r (fun F2 H2 M2 _ _ cls d x g2 r2 _ xr q2 => hE F2 H2 M2 cls d x g2 r2 xr q2) (hs.mono (g1.trans g).ff) cb k'
/-! ### the def, at its start -/
/-- as SSt, at one state -/
def SSA (K : PySem.W.Frag) (F H : Hp) (M : Mem) (Wx : WX) (RE : REx) (t : TS) (T : TDS) : Prop := ∀ σ ρ D E, XOk K F H M Wx RE → RelS K F σ ρ → T D ρ M → EK K F H M D E → t E σ H
@[reducible] def clT (f : Addr) (CB : CLR) (RE : REx) : TDE := fun ρ M R => slot ρ 0 = some (.o (.ref f)) ∧ CB (fun x M' => RE x ρ M') M R
section
variable {K : PySem.W.Frag} {F H : Hp} {M : Mem} {Wx : WX} {RE : REx}
theorem ssA_act {f c' : Addr} {q : Str} {tl : XK → Hp → VK → Prop} {CB : CLR} (hr : Rl K F H M) (hc : H c' = some (CodeO c' q)) (cl : ClOk K F H M tl CB) : SSA K F H M Wx RE (tDrop (tAct f c' q Wx tl)) (dropS (clT f CB RE)) := fun σ ρ D E hx hs ht k => by
  obtain ⟨h0, hb⟩ := ht
  obtain ⟨v, h1, h2⟩ := hs.at_ 0 _ h0
  cases h2
  refine ⟨h1, hc, cl F H M _ _ _ _ .refl hr hb (fun F2 H2 M2 cls d x g r xr q => hx F2 H2 M2 σ ρ cls d x g r (hs.mono g.ff) xr q) fun v H1 F1 M1 x r1 g1 rx q => k.nx σ H1 F1 M1 ρ r1 g1 (hs.mono g1.ff) q⟩
theorem ssA_cons {t u : TS} {T U : TDS} (h1 : SSA K F H M Wx RE t T) (h2 : SSt K Wx RE u U) : SSA K F H M Wx RE (tSeq t u) (seqS T U) := fun σ ρ D E hx hs ht k =>
  h1 σ ρ { D with nx := U D } { E with nx := u E } hx hs ht ⟨fun σ' H' F' M' ρ' r g s q => h2 F' H' M' σ' ρ' D E r (hx.mono g) s q (k.mono g), k.rt, k.bk, k.ct⟩
theorem ssA_tryB2 {Wout : WX} {c c2 : Value} {i : Nat} {ts ts2 : Addr → Value → Option Addr → TS} {TU TU2 : Addr → Value → Option Addr → TDS} {tb : WX → TS} {TB : REx → TDS} (hb : ∀ Wx RE, SSA K F H M Wx RE (tb Wx) (TB RE)) (hu : ∀ a cls d, SSt K (fun _ _ _ _ => False) (fun _ _ _ => False) (ts a cls d) (TU a cls d)) (hu2 : ∀ a cls d, SSt K (fun _ _ _ _ => False) (fun _ _ _ => False) (ts2 a cls d) (TU2 a cls d)) :
    SSA K F H M Wout RE (fun D σ H => tb (wAsL K i Wout D [(c, ts), (c2, ts2)]) D σ H) (tryB2 K c c2 i TB TU TU2 RE) := fun σ ρ D E hx hs ht k => by
  refine hb _ _ σ ρ D E (fun F' H' M' σ' ρ' cls d x g r s xr hre => ?_) hs ht k
  have one : ∀ {ts : Addr → Value → Option Addr → TS} {TU : Addr → Value → Option Addr → TDS}, (∀ a cls d, SSt K (fun _ _ _ _ => False) (fun _ _ _ => False) (ts a cls d) (TU a cls d)) →
      (match x.cls with | .ref C => ∀ a dd, TU a (.ref C) dd ⟨fun ρ2 M2 => D.nx (put ρ2 i none) M2, D.rt, fun ρ2 M2 => D.bk (put ρ2 i none) M2, fun ρ2 M2 => D.ct (put ρ2 i none) M2⟩ (put ρ' i (some (.x a C dd x.fs))) M' | _ => False) →
      ∀ a, H' a = none → ts a cls d { nx := fun σ' H' => E.nx (σ'.set i none) H', rt := E.rt, bk := fun σ' H' => E.bk (σ'.set i none) H', ct := fun σ' H' => E.ct (σ'.set i none) H' } (σ'.set i (some (.ref a))) H' := fun {ts TU} hu h2 a ha => by
    cases hC : x.cls with
    | ref C =>
      rw [hC] at h2
      have hcls : cls = .ref C := xr.1.trans hC
      subst hcls
      refine hu a (.ref C) d F' H' M' _ _ _ _ r (fun _ _ _ _ _ _ _ _ _ _ _ _ z => z) (s.set (.x (a := a) (C := C) xr.2) i) (h2 a d) ⟨fun σ2 H2 F2 M2 ρ2 r2 g2 s2 q => ?_, fun v H2 F2 M2 x2 r2 g2 => k.rt v H2 F2 M2 x2 r2 (g.trans g2), fun σ2 H2 F2 M2 ρ2 r2 g2 s2 q => ?_, fun σ2 H2 F2 M2 ρ2 r2 g2 s2 q => ?_⟩
      · exact k.nx _ H2 F2 M2 _ r2 (g.trans g2) (s2.del i none) q
      · exact k.bk _ H2 F2 M2 _ r2 (g.trans g2) (s2.del i none) q
      · exact k.ct _ H2 F2 M2 _ r2 (g.trans g2) (s2.del i none) q
    | _ => rw [hC] at h2; exact h2.elim
  obtain ⟨yes, h1, h2⟩ := gO_of hre
  have h2 := h2.ite
  refine ⟨yes, by rw [xr.1]; exact h1, fun hy => ?_, fun hn => ?_⟩
  · rw [if_pos hy] at h2
    exact one hu h2
  · rw [hn, if_neg Bool.false_ne_true] at h2
    obtain ⟨yes2, h3, h4⟩ := gO_of h2
    have h4 := h4.ite
    refine ⟨yes2, by rw [xr.1]; exact h3, fun hy => ?_, fun hn => hx F' H' M' σ' ρ' cls d x g r s xr (by rw [hn, if_neg Bool.false_ne_true] at h4; exact h4)⟩
    rw [if_pos hy] at h4
    exact one hu2 h4
end
/-- a def that is handed a lambda: G tells what it makes of it -/
structure UseT (P : Program) (w : World) (K : PySem.W.Frag) (mg : Str → Option Value) (base : Heap) (x a : Str) (G : CLR → (W → Mem → Prop) → Mem → Prop) : Prop where
  ex : ∃ (st : Stmt) (g : Addr) (N : List Str) (oc : Value) (od : Option Addr) (dV kV doc pm : Value) (an : Option Addr) (cdv ct : Value) (osl : Array (Option Value)),
    mg x = some (.ref g) ∧ PySem.W.keepIn K (.ref g) = true ∧ K.lookup g = some ⟨oc, od, .func (PySem.W.fnOf x x (defArgs st) (defBody st) (defScope st) dV kV doc pm an cdv ct), osl⟩ ∧ PySem.W.codeIn K cdv x = true ∧
    L2.Binds K (PySem.W.fnOf x x (defArgs st) (defBody st) (defScope st) dV kV doc pm an cdv ct) [a] [] ∧ FnScope N [a] (defScope st) ∧ N[0]? = some a ∧ Vis (defScope st) a ∧
    ∀ (A : Around) (outer : List Env) (q : Str) (f c' : Addr) (s : Shared) (H : Hp) (Q : VK) (tl : XK → Hp → VK → Prop),
      (∀ (W : WX) (pn : List (Addr × Obj)) (xe : Value → Shared → Prop) (p1 p2 : Pos), Takes ((cxOf C8.CX0 P w K mg base N x (defScope st) g cdv A outer s H C8.E0).tr pn xe) W →
        PE ((cxOf C8.CX0 P w K mg base N x (defScope st) g cdv A outer s H C8.E0).tr pn xe) (.Call (.Name a p1) [] [] p2) (tAct f c' q W tl)) →
      Room 1 (A.deeper (envOfC x (defScope st) s.heap.objs.size g cdv)) → H c' = some (CodeO c' q) → TTw K G tl H Q →
      ∃ t, PSs (cxOf C8.CX0 P w K mg base N x (defScope st) g cdv A outer s H C8.E0).nox (defBody st) t ∧ t { nx := fun _ H' => Q .non H', rt := Q } (L2.start N [.ref f]) H
theorem okT {P : Program} {w : World} {K : PySem.W.Frag} {mg : Str → Option Value} {base : Heap} {x a : Str} {st : Stmt} {g : Addr} {fd : FuncData} {N : List Str} {G : CLR → (W → Mem → Prop) → Mem → Prop} (F : Fun K x x st g fd) (S : FnScope N [a] (defScope st)) (hm : mg x = some (.ref g)) (hk : PySem.W.keepIn K (.ref g) = true) (hb : L2.Binds K fd [a] []) (hN : N[0]? = some a) (hv : Vis (defScope st) a)
    (go : ∀ (cdv : Value) (A : Around) (outer : List Env) (s : Shared) (H : Hp), Room 1 (A.deeper (envOfC x (defScope st) s.heap.objs.size g cdv)) → ∀ (q : Str) (f c' : Addr) (tl : XK → Hp → VK → Prop),
      (∀ (W : WX) (pn : List (Addr × Obj)) (xe : Value → Shared → Prop) (p1 p2 : Pos), Takes ((cxOf C8.CX0 P w K mg base N x (defScope st) g cdv A outer s H C8.E0).tr pn xe) W →
        PE ((cxOf C8.CX0 P w K mg base N x (defScope st) g cdv A outer s H C8.E0).tr pn xe) (.Call (.Name a p1) [] [] p2) (tAct f c' q W tl)) →
      ∃ (t : TS), PSs (cxOf C8.CX0 P w K mg base N x (defScope st) g cdv A outer s H C8.E0).nox (defBody st) t ∧ ∀ (F0 : Hp) (M : Mem) (CB : CLR), Rl K F0 H M → H c' = some (CodeO c' q) → ClOk K F0 H M tl CB →
        ∃ T : TDS, SSA K F0 H M (fun _ _ _ _ => False) (fun _ _ _ => False) t T ∧ ∀ R, G CB R M → T (endD R) (start0 N.length [.o (.ref f)]) M) : UseT P w K mg base x a G := by
  obtain ⟨oc, od, kV, doc, pm, an, cdv, ct, osl, rfl, lk, hcd⟩ := F.ex
  refine ⟨st, g, N, oc, od, _, kV, doc, pm, an, cdv, ct, osl, hm, hk, lk, hcd, hb, S, hN, hv, fun A outer q f c' s H Q tl act hr hc tt => ?_⟩
  obtain ⟨F0, M, R, CB, r, k, cl, hg⟩ := tt
  obtain ⟨t, h1, h2⟩ := go cdv A outer s H hr q f c' tl act
  obtain ⟨T, h3, h4⟩ := h2 F0 M CB r hc cl
  exact ⟨t, h1, h3 _ _ _ _ (fun F' H' M' σ ρ cls d x _ _ _ _ z => z) (rel_start (.cons (.o _) .nil)) (h4 R hg) (ek_def k)⟩
/-- x(lambda: e), where the name's def is known -/
theorem pe_word {X : Cx} {x a q : Str} {c P : Addr} {k : Nat} {G : CLR → (W → Mem → Prop) → Mem → Prop} {params : Arguments} {body : Expr} {scope : Scope} {t : XK → TE} {p lpos pos : Pos} (U : UseT X.prog X.w X.K X.mg X.base x a G) (hg : Gl X x)
    (TB : TabB X.base X.mg c P) (cd : X.env.code = .ref c) (eq : X.env.qual ++ "<lambda>" = q) (hr : Room (k + 2) X.A) (L : LamS X.env.scope scope) (df : defaultsOf params X.env = ([], []))
    (hbind : ∀ (q : Str) (cl : List (Str × Addr)) (pm cv ctv : Value), bindArgs (PySem.W.kla_fn "<lambda>" q params body scope cl pm cv ctv) ⟨[], []⟩ = pure [])
    (hbody : ∀ (A : Around) (outer : List Env) (s : Shared) (H : Hp) (E : XK) (f c' : Addr), Room k (A.deeper (lamEnv X scope s.heap.objs.size f c')) → PE (lamCx X A outer s H E scope f c') body (t E))
    (hdb : (x == ("__debug__" : Str)) = false := by decide) (hd : (a == ("__debug__" : Str)) = false := by decide) (hcd : (a == ("__classdict__" : Str)) = false := by decide) :
    PE X (.Call (.Name x p) [.Lambda params body scope lpos] [] pos) (tLamT P q (TTw X.K G) t) := by
  obtain ⟨st, g, N, oc, od, dV, kV, doc, pm, an, cdv, ct, osl, hm, hk, lk, hcg, hb, S, hN, hv, go⟩ := U.ex
  exact pe_lamT hg hm hk lk hcg hb S hN hv (fun f c' s H Q tl act hr2 hc tt => go X.A X.stack q f c' s H Q tl act hr2 hc tt) TB cd eq hr L df hbind hbody hdb hd hcd
end Tl
set_option Elab.async false
set_option linter.all false
set_option maxRecDepth 100000
set_option maxHeartbeats 8000000
namespace Tl
open PySem L2 RZ Tie
local macro_rules
  | `(tactic| decreasing_trivial) => `(tactic| ((with_reducible (conv => whnf)); (repeat ((first | (with_reducible refine gTie_i ?_) | (with_reducible refine gTie_n ?_) | (with_reducible refine gTie_4 ?_) | (with_reducible refine gDs_c ?_) | (with_reducible refine gDs_n ?_) | (with_reducible refine gNs_c ?_) | (with_reducible refine gNs_n ?_) | (with_reducible refine gO_i tyAny_lt ?_) | (with_reducible refine gIs_c ?_) | (with_reducible refine gIs_n ?_) | (with_reducible refine gBs_c ?_) | (with_reducible refine gBs_n ?_) | (with_reducible refine gSs_c ?_) | (with_reducible refine gSs_n ?_) | (with_reducible refine gO_i tyIs_int ?_) | (with_reducible refine gO_i tyIs_bool ?_) | (with_reducible refine gO_i tyIs_str ?_) | (with_reducible refine gO_i tyIs_tuple ?_) | (with_reducible refine gO_i tyIs_list ?_) | (with_reducible refine gDs_i ?_) | (with_reducible refine gO_i (Eq.refl _) ?_) | (with_reducible refine gO_i (by assumption) ?_) | (with_reducible refine gO_i at_0 ?_) | (with_reducible refine gO_i at_m0 ?_) | (with_reducible refine gO_i at_1 ?_) | (with_reducible refine gO_i at_m1 ?_) | (with_reducible refine gO_i at_2 ?_) | (with_reducible refine gO_i at_m2 ?_) | (with_reducible refine gO_i at_3 ?_) | (with_reducible refine gO_i at_m3 ?_) | (with_reducible refine gO_i at_4 ?_) | (with_reducible refine gO_i at_m4 ?_) | (with_reducible refine gO_i at_5 ?_) | (with_reducible refine gO_i at_m5 ?_) | (with_reducible refine gO_i at_6 ?_) | (with_reducible refine gO_i at_m6 ?_) | (with_reducible refine gO_i at_7 ?_) | (with_reducible refine gO_i at_m7 ?_) | (with_reducible refine IfB.ngf ?_) | (with_reducible refine IfB.ngt ?_) | (with_reducible refine IfB.not ?_) | (with_reducible refine IfB.nil ?_) | (with_reducible refine IfB.nilT ?_) | (with_reducible refine IfB.f isE_c ?_) | (with_reducible refine IfB.t isE_n ?_) | (with_reducible refine IfB.t ?gha ?_; (case gha => rfl)) | (with_reducible refine IfB.f ?gha ?_; (case gha => rfl)) | (with_reducible refine IfB.t ?gha ?_; (case gha => assumption)) | (with_reducible refine IfB.f ?gha ?_; (case gha => assumption)) | (with_reducible refine IfB.yes (Eq.refl _) ?_) | (with_reducible refine IfB.yes ?gha ?_; (case gha => (first | omega | (simp only [len_c, len_n, List.length_map]; omega)))) | (with_reducible refine IfB.no ?gha ?_; (case gha => (first | omega | (simp only [len_c, len_n, List.length_map]; omega)))) | (with_reducible refine IfB.t ?gha ?_; (case gha => decide +kernel)) | (with_reducible refine IfB.f ?gha ?_; (case gha => decide +kernel))); (with_reducible (conv => whnf))))))
local macro_rules
  | `(tactic| decreasing_trivial_pre_omega) => `(tactic| (decreasing_trivial; (repeat ((first | ((with_reducible refine And.intro ?gha ?_); (case gha => (first | assumption | omega | exact rfl | (exact mset_same) | (exact ⟨_, mset_same⟩) | (exact Exists.intro _ (by first | exact mset_same | assumption | (rw [mset_ne (by assumption)]; first | exact mset_same | assumption))) | (exact sm_of (by omega) (by omega)) | (exact sz1000 (by first | omega | (simp; done) | (simp; omega))) | (exact Or.inl ⟨by decide, by decide⟩) | decide | (simp; done) | (refine ⟨?_, ?_⟩ <;> (first | assumption | omega | exact rfl | (exact mset_same) | (exact ⟨_, mset_same⟩) | (exact Exists.intro _ (by first | exact mset_same | assumption | (rw [mset_ne (by assumption)]; first | exact mset_same | assumption))) | (exact sm_of (by omega) (by omega)) | (exact sz1000 (by first | omega | (simp; done) | (simp; omega))) | (exact Or.inl ⟨by decide, by decide⟩) | decide | (simp; done))) | (refine ⟨?_, ?_, ?_⟩ <;> (first | assumption | omega | exact rfl | (exact mset_same) | (exact ⟨_, mset_same⟩) | (exact Exists.intro _ (by first | exact mset_same | assumption | (rw [mset_ne (by assumption)]; first | exact mset_same | assumption))) | (exact sm_of (by omega) (by omega)) | (exact sz1000 (by first | omega | (simp; done) | (simp; omega))) | (exact Or.inl ⟨by decide, by decide⟩) | decide | (simp; done))) | (refine ⟨?_, ?_, ?_, ?_⟩ <;> (first | assumption | omega | exact rfl | (exact mset_same) | (exact ⟨_, mset_same⟩) | (exact Exists.intro _ (by first | exact mset_same | assumption | (rw [mset_ne (by assumption)]; first | exact mset_same | assumption))) | (exact sm_of (by omega) (by omega)) | (exact sz1000 (by first | omega | (simp; done) | (simp; omega))) | (exact Or.inl ⟨by decide, by decide⟩) | decide | (simp; done)))))) | (with_reducible refine exW (by first | exact mset_same | assumption | (rw [mset_ne (by assumption)]; first | exact mset_same | assumption)) ?_)); decreasing_trivial))))
structure Cls (K : PySem.W.Frag) (mg : Str → Option Value) where
  c_TreeError : Addr
  c_NoThing : Addr
  c_NoFit : Addr
  c_Cut : Addr
  c_NoTie : Addr
  c_NoItem : Addr
  m_TreeError : mg "TreeError" = some (.ref c_TreeError)
  m_NoThing : mg "NoThing" = some (.ref c_NoThing)
  m_NoFit : mg "NoFit" = some (.ref c_NoFit)
  m_Cut : mg "Cut" = some (.ref c_Cut)
  m_NoTie : mg "NoTie" = some (.ref c_NoTie)
  m_NoItem : mg "NoItem" = some (.ref c_NoItem)
  e_NoTie : Er K mg "NoTie" c_NoTie
  x_NoTie : ExcC K c_NoTie
  v_NoTie : PySem.W.kitOne K (.ref c_NoTie) (.type "ValueError") = some true
  k_NoTie_TreeError : PySem.W.kitOne K (.ref c_NoTie) (.ref c_TreeError) = some true
  k_NoTie_NoThing : PySem.W.kitOne K (.ref c_NoTie) (.ref c_NoThing) = some true
  k_NoTie_NoFit : PySem.W.kitOne K (.ref c_NoTie) (.ref c_NoFit) = some false
  k_NoTie_Cut : PySem.W.kitOne K (.ref c_NoTie) (.ref c_Cut) = some false
  k_NoTie_NoTie : PySem.W.kitOne K (.ref c_NoTie) (.ref c_NoTie) = some true
  k_NoTie_NoItem : PySem.W.kitOne K (.ref c_NoTie) (.ref c_NoItem) = some false
  h_NoTie_NoTie : PySem.W.exmOne K (.ref c_NoTie) (.ref c_NoTie) = some true
  h_NoTie_NoItem : PySem.W.exmOne K (.ref c_NoTie) (.ref c_NoItem) = some false
  e_NoItem : ErF K mg "NoItem" "NoItem.__init__" "at" sI_NoItem c_NoItem
  x_NoItem : ExcC K c_NoItem
  v_NoItem : PySem.W.kitOne K (.ref c_NoItem) (.type "ValueError") = some true
  k_NoItem_TreeError : PySem.W.kitOne K (.ref c_NoItem) (.ref c_TreeError) = some true
  k_NoItem_NoThing : PySem.W.kitOne K (.ref c_NoItem) (.ref c_NoThing) = some false
  k_NoItem_NoFit : PySem.W.kitOne K (.ref c_NoItem) (.ref c_NoFit) = some true
  k_NoItem_Cut : PySem.W.kitOne K (.ref c_NoItem) (.ref c_Cut) = some false
  k_NoItem_NoTie : PySem.W.kitOne K (.ref c_NoItem) (.ref c_NoTie) = some false
  k_NoItem_NoItem : PySem.W.kitOne K (.ref c_NoItem) (.ref c_NoItem) = some true
  h_NoItem_NoTie : PySem.W.exmOne K (.ref c_NoItem) (.ref c_NoTie) = some false
  h_NoItem_NoItem : PySem.W.exmOne K (.ref c_NoItem) (.ref c_NoItem) = some true
theorem kit2 {K : PySem.W.Frag} {a b c : Value} {p q : Bool} (h1 : PySem.W.kitOne K a b = some p) (h2 : PySem.W.kitOne K a c = some q) : PySem.W.kitAny K a [b, c] = some (p || q) := by
  cases p <;> cases q <;> simp [PySem.W.kitAny, h1, h2]
def gwX (CT CI : Addr) (R : W → Mem → Prop) : Ex → Mem → Prop := fun x M' => (x = ⟨.ref CT, []⟩ ∧ R (.d (.list [.str "NoTie", .bool true])) M') ∨ ∃ d, x = ⟨.ref CI, [("at", d)]⟩ ∧ R (.d (.list [.str "NoItem", d, .bool true])) M'
/-- what _law_word makes of a call -/
@[reducible] def gWord (CT CI : Addr) : CLR → (W → Mem → Prop) → Mem → Prop := fun CB R M => CB (gwX CT CI R) M fun _ M' => R (.d (.list [.str "told"])) M'
section
variable {P : Program} {w : World} {K : PySem.W.Frag} {mg : Str → Option Value} {base : Heap}
abbrev sWord : Stmt := top 45
theorem scWord : FnScope ["_law_call", "e"] ["_law_call"] (defScope sWord) := ⟨rfl, rfl, rfl, by decide +kernel, rfl, by decide +kernel, by decide +kernel⟩
theorem ok_word {f : Addr} {fd : FuncData} (F : Fun K "_law_word" "_law_word" sWord f fd) (hm : mg "_law_word" = some (.ref f)) (hk : PySem.W.keepIn K (.ref f) = true) (hb : L2.Binds K fd ["_law_call"] []) (A : Cls K mg) (T : Bl mg) : UseT P w K mg base "_law_word" "_law_call" (gWord A.c_NoTie A.c_NoItem) := by
  refine okT F scWord hm hk hb rfl (.inl rfl) fun cdv A' outer s H hr q f0 c' tl act => ?_
  refine ⟨_, (pss_cons (ps_try_asL (i := 1) (Wout := fun _ _ _ _ => False) rfl rfl scWord.nd rfl rfl takes0
    (fun W pn xe tk _ => (pss_one (ps_expr (act W pn xe _ _ tk))))
    (.cons ⟨rfl, by decide, .inl A.m_NoItem⟩
    (fun a oe cls d pn hz hf => (pss_one (ps_ret (pe_lst (pa_cons pe_str (pa_cons (pe_xfA hz hf (pv 1)) (pa_cons (pe_and (pe_callB (r := rIsS K a cls d) (call_isS hz hf) (by rfl) T.isi PyProof.Rows.boot_isinstance (pa_cons (pv 1) (pa_cons (pe_glob (v := .ref A.c_TreeError) (by rfl) A.m_TreeError rfl) pa_nil))) (pe_and (pe_callB (r := rIsS K a cls d) (call_isS hz hf) (by rfl) T.isi PyProof.Rows.boot_isinstance (pa_cons (pv 1) (pa_cons (pe_glob (v := .ref A.c_NoFit) (by rfl) A.m_NoFit rfl) pa_nil))) (pe_one (pe_not (pe_callB (r := rIsST K a cls d) (call_isST hz hf) (by rfl) T.isi PyProof.Rows.boot_isinstance (pa_cons (pv 1) (pa_cons (pe_tup (pa_cons (pe_glob (v := .ref A.c_NoThing) (by rfl) A.m_NoThing rfl) (pa_cons (pe_glob (v := .ref A.c_Cut) (by rfl) A.m_Cut rfl) pa_nil))) pa_nil))))))) pa_nil))))))) (.cons ⟨rfl, by decide, .inl A.m_NoTie⟩
    (fun a oe cls d pn hz hf => (pss_one (ps_ret (pe_lst (pa_cons pe_str (pa_cons (pe_and (pe_callB (r := rIsS K a cls d) (call_isS hz hf) (by rfl) T.isi PyProof.Rows.boot_isinstance (pa_cons (pv 1) (pa_cons (pe_glob (v := .ref A.c_TreeError) (by rfl) A.m_TreeError rfl) pa_nil))) (pe_and (pe_callB (r := rIsS K a cls d) (call_isS hz hf) (by rfl) T.isi PyProof.Rows.boot_isinstance (pa_cons (pv 1) (pa_cons (pe_glob (v := .ref A.c_NoThing) (by rfl) A.m_NoThing rfl) pa_nil))) (pe_one (pe_not (pe_callB (r := rIsST K a cls d) (call_isST hz hf) (by rfl) T.isi PyProof.Rows.boot_isinstance (pa_cons (pv 1) (pa_cons (pe_tup (pa_cons (pe_glob (v := .ref A.c_NoFit) (by rfl) A.m_NoFit rfl) (pa_cons (pe_glob (v := .ref A.c_Cut) (by rfl) A.m_Cut rfl) pa_nil))) pa_nil))))))) pa_nil)))))) .nil)))
    (pss_one (ps_ret (pe_lst (pa_cons pe_str pa_nil))))), fun F0 M CB hrl hco hcl => ⟨_, (ssA_cons (ssA_tryB2 (fun Wx RE => ssA_act hrl hco hcl.up) (fun a cls d => (ss_ret (se_lsf (sa_cons se_str (sa_cons se_xfA (sa_cons (se_and (se_cb sc_isS (sa_cons se_nm (sa_cons se_o sa_nil))) (se_and (se_cb sc_isS (sa_cons se_nm (sa_cons se_o sa_nil))) (se_not (se_isST se_nm (sa_cons se_o (sa_cons se_o sa_nil)))))) sa_nil)))))) (fun a cls d => (ss_ret (se_lsf (sa_cons se_str (sa_cons (se_and (se_cb sc_isS (sa_cons se_nm (sa_cons se_o sa_nil))) (se_and (se_cb sc_isS (sa_cons se_nm (sa_cons se_o sa_nil))) (se_not (se_isST se_nm (sa_cons se_o (sa_cons se_o sa_nil)))))) sa_nil))))))
    (ss_ret (se_lsf (sa_cons se_str sa_nil)))), fun R h => ?_⟩⟩
  simp only [start0, len_c, len_n, map_c, map_n, app_c, app_n, rep_0, rep_s, Nat.reduceAdd, Nat.reduceSub]
  refine ⟨rfl, _, _, h, fun x M' hx => ?_, fun v M' hv => ?_⟩
  · rcases hx with ⟨rfl, hx⟩ | ⟨d, rfl, hx⟩
    · have e1 := A.h_NoTie_NoItem
      have e2 := A.h_NoTie_NoTie
      have f1 := A.k_NoTie_TreeError
      have f2 := A.k_NoTie_NoThing
      have g3 : PySem.W.kitAny K (.ref A.c_NoTie) [.ref A.c_NoFit, .ref A.c_Cut] = some false := kit2 A.k_NoTie_NoFit A.k_NoTie_Cut
      have x1 := A.x_NoTie
      decreasing_trivial_pre_omega
      intro a dd
      decreasing_trivial_pre_omega
      exact hx
    · have e1 := A.h_NoItem_NoItem
      have f1 := A.k_NoItem_TreeError
      have f2 := A.k_NoItem_NoFit
      have g3 : PySem.W.kitAny K (.ref A.c_NoItem) [.ref A.c_NoThing, .ref A.c_Cut] = some false := kit2 A.k_NoItem_NoThing A.k_NoItem_Cut
      have x1 := A.x_NoItem
      decreasing_trivial_pre_omega
      intro a dd
      decreasing_trivial_pre_omega
      refine ⟨⟨rfl, rfl, rfl, ⟨A.x_NoItem.hg, A.x_NoItem.hk, A.x_NoItem.hs, A.x_NoItem.hd⟩, A.e_NoItem.n⟩, ?_⟩
      decreasing_trivial_pre_omega
      exact hx
  · decreasing_trivial_pre_omega
    exact hv
end
end Tl
set_option Elab.async false
set_option linter.all false
set_option maxRecDepth 100000
set_option maxHeartbeats 8000000
namespace Tl
open PySem L2 RZ Tie
local macro_rules
  | `(tactic| decreasing_trivial) => `(tactic| ((with_reducible (conv => whnf)); (repeat ((first | (with_reducible refine gTie_i ?_) | (with_reducible refine gTie_n ?_) | (with_reducible refine gTie_4 ?_) | (with_reducible refine gDs_c ?_) | (with_reducible refine gDs_n ?_) | (with_reducible refine gNs_c ?_) | (with_reducible refine gNs_n ?_) | (with_reducible refine gO_i tyAny_lt ?_) | (with_reducible refine gIs_c ?_) | (with_reducible refine gIs_n ?_) | (with_reducible refine gBs_c ?_) | (with_reducible refine gBs_n ?_) | (with_reducible refine gSs_c ?_) | (with_reducible refine gSs_n ?_) | (with_reducible refine gO_i tyIs_int ?_) | (with_reducible refine gO_i tyIs_bool ?_) | (with_reducible refine gO_i tyIs_str ?_) | (with_reducible refine gO_i tyIs_tuple ?_) | (with_reducible refine gO_i tyIs_list ?_) | (with_reducible refine gDs_i ?_) | (with_reducible refine gO_i (Eq.refl _) ?_) | (with_reducible refine gO_i (by assumption) ?_) | (with_reducible refine gO_i at_0 ?_) | (with_reducible refine gO_i at_m0 ?_) | (with_reducible refine gO_i at_1 ?_) | (with_reducible refine gO_i at_m1 ?_) | (with_reducible refine gO_i at_2 ?_) | (with_reducible refine gO_i at_m2 ?_) | (with_reducible refine gO_i at_3 ?_) | (with_reducible refine gO_i at_m3 ?_) | (with_reducible refine gO_i at_4 ?_) | (with_reducible refine gO_i at_m4 ?_) | (with_reducible refine gO_i at_5 ?_) | (with_reducible refine gO_i at_m5 ?_) | (with_reducible refine gO_i at_6 ?_) | (with_reducible refine gO_i at_m6 ?_) | (with_reducible refine gO_i at_7 ?_) | (with_reducible refine gO_i at_m7 ?_) | (with_reducible refine IfB.ngf ?_) | (with_reducible refine IfB.ngt ?_) | (with_reducible refine IfB.not ?_) | (with_reducible refine IfB.nil ?_) | (with_reducible refine IfB.nilT ?_) | (with_reducible refine IfB.f isE_c ?_) | (with_reducible refine IfB.t isE_n ?_) | (with_reducible refine IfB.t ?gha ?_; (case gha => rfl)) | (with_reducible refine IfB.f ?gha ?_; (case gha => rfl)) | (with_reducible refine IfB.t ?gha ?_; (case gha => assumption)) | (with_reducible refine IfB.f ?gha ?_; (case gha => assumption)) | (with_reducible refine IfB.yes (Eq.refl _) ?_) | (with_reducible refine IfB.yes ?gha ?_; (case gha => (first | omega | (simp only [len_c, len_n, List.length_map]; omega)))) | (with_reducible refine IfB.no ?gha ?_; (case gha => (first | omega | (simp only [len_c, len_n, List.length_map]; omega)))) | (with_reducible refine IfB.t ?gha ?_; (case gha => decide +kernel)) | (with_reducible refine IfB.f ?gha ?_; (case gha => decide +kernel))); (with_reducible (conv => whnf))))))
local macro_rules
  | `(tactic| decreasing_trivial_pre_omega) => `(tactic| (decreasing_trivial; (repeat ((first | ((with_reducible refine And.intro ?gha ?_); (case gha => (first | assumption | omega | exact rfl | (exact mset_same) | (exact ⟨_, mset_same⟩) | (exact Exists.intro _ (by first | exact mset_same | assumption | (rw [mset_ne (by assumption)]; first | exact mset_same | assumption))) | (exact sm_of (by omega) (by omega)) | (exact sz1000 (by first | omega | (simp; done) | (simp; omega))) | (exact Or.inl ⟨by decide, by decide⟩) | decide | (simp; done) | (refine ⟨?_, ?_⟩ <;> (first | assumption | omega | exact rfl | (exact mset_same) | (exact ⟨_, mset_same⟩) | (exact Exists.intro _ (by first | exact mset_same | assumption | (rw [mset_ne (by assumption)]; first | exact mset_same | assumption))) | (exact sm_of (by omega) (by omega)) | (exact sz1000 (by first | omega | (simp; done) | (simp; omega))) | (exact Or.inl ⟨by decide, by decide⟩) | decide | (simp; done))) | (refine ⟨?_, ?_, ?_⟩ <;> (first | assumption | omega | exact rfl | (exact mset_same) | (exact ⟨_, mset_same⟩) | (exact Exists.intro _ (by first | exact mset_same | assumption | (rw [mset_ne (by assumption)]; first | exact mset_same | assumption))) | (exact sm_of (by omega) (by omega)) | (exact sz1000 (by first | omega | (simp; done) | (simp; omega))) | (exact Or.inl ⟨by decide, by decide⟩) | decide | (simp; done))) | (refine ⟨?_, ?_, ?_, ?_⟩ <;> (first | assumption | omega | exact rfl | (exact mset_same) | (exact ⟨_, mset_same⟩) | (exact Exists.intro _ (by first | exact mset_same | assumption | (rw [mset_ne (by assumption)]; first | exact mset_same | assumption))) | (exact sm_of (by omega) (by omega)) | (exact sz1000 (by first | omega | (simp; done) | (simp; omega))) | (exact Or.inl ⟨by decide, by decide⟩) | decide | (simp; done)))))) | (with_reducible refine exW (by first | exact mset_same | assumption | (rw [mset_ne (by assumption)]; first | exact mset_same | assumption)) ?_)); decreasing_trivial))))
/-- a tie of numbers, or none -/
structure OkT (d : PyData) : Prop where
  tx : txt d = true
  dp : d.depth < 70
  or : evenT d = false ∨ ∃ t, d = toD t ∧ TieN t
theorem OkT.of {t : Tie} (h : TieN t) : OkT (toD t) := ⟨h.o.txt, h.o.dep, .inr ⟨t, rfl, h⟩⟩
theorem OkT.tie {d : PyData} (h : OkT d) (e : evenT d = true) : ∃ t, d = toD t ∧ TieN t := h.or.elim (fun z => by rw [e] at z; cases z) id
theorem okT_list : ∀ {ds : List PyData}, (∀ e ∈ ds, OkT e) → (∀ e ∈ ds, evenT e = true) → ∃ ts : List Tie, ds = ts.map toD ∧ ∀ u ∈ ts, TieN u
  | [], _, _ => ⟨[], rfl, fun u h => by cases h⟩
  | d :: r, h, h2 => by
    obtain ⟨ts, rfl, h3⟩ := okT_list (ds := r) (fun e he => h e (.tail _ he)) fun e he => h2 e (.tail _ he)
    obtain ⟨t, rfl, h4⟩ := (h d (.head _)).tie (h2 d (.head _))
    exact ⟨t :: ts, rfl, fun u hu => (List.mem_cons.mp hu).elim (fun z => by rw [z]; exact h4) (h3 u)⟩
@[reducible] def tfFreshX (C : Addr) : TF := fun ws M R RX => g2 ws fun x y => gD x fun d => gL y fun ds => (OkT d ∧ (∀ e ∈ ds, OkT e) ∧ ds.length ≤ 2) ∧ ((evenT d = false ∨ ∃ e ∈ ds, evenT e = false) → RX ⟨.ref C, []⟩ M) ∧ (evenT d = true → (∀ e ∈ ds, evenT e = true) → ∀ n : Nat, R (.d (.int n)) M)
section
variable {P : Program} {w : World} {K : PySem.W.Frag} {mg : Str → Option Value} {base : Heap}
abbrev sFresh : Stmt := top 41
theorem scFresh : FnScope ["tie", "some", "one", "numbers", "known"] ["tie", "some"] (defScope sFresh) := ⟨rfl, rfl, rfl, by decide +kernel, rfl, by decide +kernel, by decide +kernel⟩
theorem ok_freshX {f C : Addr} {fd : FuncData} {k j : Nat} (F : Fun K "fresh" "fresh" sFresh f fd) (XNoTie : Er K mg "NoTie" C) (Ucheck_tie : UseX P w K mg base "check_tie" ["thing"] j (spD K 1 (tfChkE C))) (Unumber_within : Use P w K mg base "number_within" ["tie", "numbers"] j (spD K 2 (tfNumW 30))) (hj : j ≤ k) (T : Bl mg) :
    FnOk P w K mg base (L2.CX P w) (k + 1) f fd ["tie", "some"] (spD K 2 (tfFreshX C)) := by
  refine okDXL F scFresh rfl fun cdv A outer s H E hr => ?_
  refine ⟨_, fun RE => _, (pss_cons (ps_expr (pe_callS Ucheck_tie.ok (hr.mono (by omega)) rfl Ucheck_tie.m Ucheck_tie.kp Ucheck_tie.b (fun σ => passAt (takes_of (E := E) rfl rfl rfl rfl) σ) (pa_cons (pv 0) pa_nil)))
    (pss_cons (ps_if (pt_not (pt_val (pe_callB (r := rIsi K) call_isi (by rfl) T.isi PyProof.Rows.boot_isinstance (pa_cons (pv 1) (pa_cons (b_list T) pa_nil))))) (pss_one (ps_raise rfl (takes_of (E := E) rfl rfl rfl rfl) (pmk_own0 PySem.F.excBase_ValueError XNoTie.x XNoTie.g XNoTie.k (raises_own XNoTie.b XNoTie.t) (by exact rfl)))) pss_nil)
    (pss_cons (ps_for (passes_of rfl) rfl (pi_list (pv 1)) (pg_name (i := 2) scFresh.nd rfl (.inl rfl)) (pss_one (ps_expr (pe_callS Ucheck_tie.ok (hr.mono (by omega)) rfl Ucheck_tie.m Ucheck_tie.kp Ucheck_tie.b (fun σ => passAt (takes_of (E := E) rfl rfl rfl rfl) σ) (pa_cons (pv 2) pa_nil)))))
    (pss_cons (ps_set (i := 3) scFresh.nd rfl (.inl rfl) pe_unew)
    (pss_cons (ps_for (passes_of rfl) rfl (pi_list (pv 1)) (pg_name (i := 2) scFresh.nd rfl (.inl rfl)) (pss_one (ps_expr (PE.nox (pe_call Unumber_within.ok (hr.mono (by omega)) rfl Unumber_within.m Unumber_within.kp Unumber_within.b .nil pass0 (pa_cons (pv 2) (pa_cons (pv 3) pa_nil)))))))
    (pss_cons (ps_set (i := 4) scFresh.nd rfl (.inl rfl) (pe_callB call_lenU (by rfl) T.len PySem.boot_len (pa_cons (pv 3) pa_nil)))
    (pss_cons (ps_expr (PE.nox (pe_call Unumber_within.ok (hr.mono (by omega)) rfl Unumber_within.m Unumber_within.kp Unumber_within.b .nil pass0 (pa_cons (pv 0) (pa_cons (pv 3) pa_nil)))))
    (pss_one (ps_ret (pe_op op_sub (pe_callB call_lenU (by rfl) T.len PySem.boot_len (pa_cons (pv 3) pa_nil)) (pv 4))))))))))), fun RE => (ss_cons (ss_drop (se_callX (sa_cons se_nm sa_nil)))
    (ss_cons (ss_if (st_not (st_val (se_cb sc_isi (sa_cons se_nm (sa_cons se_o sa_nil))))) ss_raise0 ss_nil)
    (ss_cons (ss_for (si_lst se_nm) sg_name (ss_drop (se_callX (sa_cons se_nm sa_nil))))
    (ss_cons (ss_set se_newU)
    (ss_cons (ss_for (si_lst se_nm) sg_name (ss_drop (se_call (sa_cons se_nm (sa_cons se_nm sa_nil)))))
    (ss_cons (ss_set (se_cb sc_lenU (sa_cons se_nm sa_nil)))
    (ss_cons (ss_drop (se_call (sa_cons se_nm (sa_cons se_nm sa_nil))))
    (ss_ret (se_op so_sub (se_cb sc_lenU (sa_cons se_nm sa_nil)) se_nm))))))))), fun ws M R RX hl h => ?_⟩
  obtain ⟨x, y, rfl, h1⟩ := g2_of h
  obtain ⟨d, rfl, h1⟩ := gD_of h1
  obtain ⟨ds, rfl, ⟨hd, hds, hl2⟩, h2, h3⟩ := gL_of h1
  clear h h1
  have tx := hd.tx
  have dp := hd.dp
  simp only [start0, len_c, len_n, map_c, map_n, app_c, app_n, rep_0, rep_s, Nat.reduceAdd, Nat.reduceSub]
  decreasing_trivial_pre_omega
  refine ⟨fun ev => ?_, fun c => h2 (.inl c)⟩
  decreasing_trivial_pre_omega
  refine for1 (f := W.d) (xs := ds) (fun i ρ' M' => (M' = M ∧ ∀ e ∈ ds.take i, evenT e = true) ∧ ∃ y, ρ' = [some (.d d), some (.d (.list ds)), y, none, none]) ⟨⟨rfl, fun e he => by simp at he⟩, none, rfl⟩ (fun _ _ _ _ _ => trivial) (fun i e ρ' M' N hu q hN => ?_) (fun ρ' M' q => ?_)
  · obtain ⟨⟨rfl, hev⟩, y, rfl⟩ := q
    have hm := List.mem_of_getElem? hu
    have he := hds e hm
    have tx2 := he.tx
    have dp2 := he.dp
    decreasing_trivial_pre_omega
    refine ⟨fun ev2 => ?_, fun c => h2 (.inr ⟨e, hm, c⟩)⟩
    refine hN _ _ ⟨⟨rfl, fun e' he' => ?_⟩, _, rfl⟩
    rw [List.take_add_one, hu] at he'
    rcases List.mem_append.mp he' with z | z
    · exact hev e' z
    · rw [List.mem_singleton.mp z]
      exact ev2
  · obtain ⟨⟨rfl, hev⟩, y, rfl⟩ := q
    rw [List.take_length] at hev
    have h5 := h3 ev hev
    obtain ⟨t, rfl, ht⟩ := hd.tie ev
    obtain ⟨ts, rfl, hts⟩ := okT_list hds hev
    rw [List.length_map] at hl2
    have em : ((ts.map toD).map W.d) = ts.map fun u => W.d (toD u) := by rw [List.map_map]; rfl
    decreasing_trivial_pre_omega
    intro p hp
    decreasing_trivial_pre_omega
    rw [em]
    refine for1 (fun i ρ' M1 => M1 = mset M' p (.dT (kwF 0 (nums [] (ts.take i)))) ∧ ∃ y, ρ' = [some (.d (toD t)), some (.d (.list (ts.map toD))), y, some (.r p), none]) ⟨rfl, y, rfl⟩ (fun _ _ _ _ _ => trivial) (fun i u ρ' M1 N hu q hN => ?_) (fun ρ' M1 q => ?_)
    · obtain ⟨rfl, y, rfl⟩ := q
      obtain ⟨n1, n2⟩ := nums_small hts hl2 i
      have hun := hts u (List.mem_of_getElem? hu)
      have hug := hun.hg
      have hle := hun.le
      decreasing_trivial_pre_omega
      refine ⟨_, ⟨mset_same, by omega, n2, hun.all, by omega⟩, ?_⟩
      rw [mset_mset, ← nums_take hu]
      exact hN _ _ ⟨rfl, _, rfl⟩
    · obtain ⟨rfl, y, rfl⟩ := q
      obtain ⟨n1, n2⟩ := nums_small hts hl2 ts.length
      rw [List.take_length] at n1 n2 ⊢
      have hug := ht.hg
      have hle := ht.le
      decreasing_trivial_pre_omega
      refine ⟨_, mset_same, ?_⟩
      decreasing_trivial_pre_omega
      refine ⟨_, ⟨mset_same, by omega, n2, ht.all, by omega⟩, ?_⟩
      rw [mset_mset]
      decreasing_trivial_pre_omega
      refine ⟨_, mset_same, ?_⟩
      rw [kwF_len, kwF_len]
      decreasing_trivial_pre_omega
      dsimp only
      rw [new_sub]
      refine ⟨M', fun a o h => ?_, h5 _⟩
      rw [mset_ne (fun z => by rw [z, hp] at h; cases h)]
      exact h
end
end Tl
set_option Elab.async false
set_option linter.all false
set_option maxRecDepth 100000
set_option maxHeartbeats 4000000
/-! {1: 2}, and what isinstance tells of it. -/
namespace Tl
open PySem PySem.Spec PyProof.Rows L2
section
variable {K : PySem.W.Frag} {Wx : WX} {RE : REx}
@[reducible] def dk1T (i j : Int) : TDE := fun _ M R => ∀ p, M p = none → R (.r p) (mset M p (.dK [(.inl i, .d (.int j))]))
theorem se_dk1 {i j : Int} : SE K Wx RE (tDisp [(tC (.int i), tC (.int j))]) (dk1T i j) := fun F H M σ ρ R Q hr hx hs ht k p hp => by
  refine ⟨upd_same, [(.inl i, .int j)], rfl, by show 1 ≤ 15; omega, ?_⟩
  rw [upd_upd]
  obtain ⟨r1, g1⟩ := hr.born (u := .dK (mergeK [] [(.inl i, .int j)])) (o := .dK [(.inl i, .d (.int j))]) hp ⟨_, rfl, rfl, .cons (.d (.int j)) .nil⟩
  exact k _ _ _ _ _ r1 g1 (.r p) (ht p (hr.new hp))
@[reducible] def isDTK (T : TDE) (U : TDA) : TDE := fun ρ M R => T ρ M fun x M1 => U ρ M1 fun ys M2 => gNs ys fun ns => gR x fun a => (ns = ["list", "tuple"] ∧ ∃ kw, M2 a = some (.dK kw)) ∧ R (.d (.bool false)) M2
theorem se_isDTK {n : Nat} {tx : TE} {ta : TA} {T : TDE} {U : TDA} (h1 : SE K Wx RE tx T) (h2 : SAn K Wx RE n ta U) (hn : n ≤ 1000 := by decide) : SE K Wx RE (tCB (rIsiT K) (tCons tx (tCons (tTup ta) tNil))) (isDTK T U) := fun F H M σ ρ R Q hr hx hs ht k =>
  h1 F H M σ ρ _ _ hr hx hs ht fun v H1 F1 M1 x r1 g1 rx q1 => h2 F1 H1 M1 σ ρ _ _ r1 (hx.mono g1) (hs.mono g1.ff) q1 fun vs H2 F2 M2 ys r2 g2 rys hl q2 => by
    refine ⟨by rw [rys.len, hl]; exact sz1000 hn, fun p hp => ?_⟩
    obtain ⟨ns, rfl, q3⟩ := q2
    obtain ⟨a, rfl, ⟨rfl, kw, e⟩, q6⟩ := gR_of q3
    have sm := same_new (o := .tup vs) hp
    obtain ⟨r3, g3⟩ := r2.same sm
    obtain ⟨u, hu, kv, rfl, _⟩ := r3.at_ a _ e
    cases rx
    have q5 : tyAny (.dict []) ["list", "tuple"] = some false := by rw [tyAny_lt]; rfl
    exact ⟨_, p, vs, _, _, false, rfl, upd_same, gNs_cls rys, .base (.dK hu), tyAny_kit q5, k _ _ F2 M2 _ r3 ((g1.trans g2).trans g3) (.d (.bl _)) q6⟩
end
end Tl
set_option Elab.async false
set_option linter.all false
set_option maxRecDepth 100000
set_option maxHeartbeats 8000000
namespace Tl
open PySem L2 RZ Tie
local macro_rules
  | `(tactic| decreasing_trivial) => `(tactic| ((with_reducible (conv => whnf)); (repeat ((first | (with_reducible refine gTie_i ?_) | (with_reducible refine gTie_n ?_) | (with_reducible refine gTie_4 ?_) | (with_reducible refine gDs_c ?_) | (with_reducible refine gDs_n ?_) | (with_reducible refine gNs_c ?_) | (with_reducible refine gNs_n ?_) | (with_reducible refine gO_i tyAny_lt ?_) | (with_reducible refine gIs_c ?_) | (with_reducible refine gIs_n ?_) | (with_reducible refine gBs_c ?_) | (with_reducible refine gBs_n ?_) | (with_reducible refine gSs_c ?_) | (with_reducible refine gSs_n ?_) | (with_reducible refine gO_i tyIs_int ?_) | (with_reducible refine gO_i tyIs_bool ?_) | (with_reducible refine gO_i tyIs_str ?_) | (with_reducible refine gO_i tyIs_tuple ?_) | (with_reducible refine gO_i tyIs_list ?_) | (with_reducible refine gDs_i ?_) | (with_reducible refine gO_i (Eq.refl _) ?_) | (with_reducible refine gO_i (by assumption) ?_) | (with_reducible refine gO_i at_0 ?_) | (with_reducible refine gO_i at_m0 ?_) | (with_reducible refine gO_i at_1 ?_) | (with_reducible refine gO_i at_m1 ?_) | (with_reducible refine gO_i at_2 ?_) | (with_reducible refine gO_i at_m2 ?_) | (with_reducible refine gO_i at_3 ?_) | (with_reducible refine gO_i at_m3 ?_) | (with_reducible refine gO_i at_4 ?_) | (with_reducible refine gO_i at_m4 ?_) | (with_reducible refine gO_i at_5 ?_) | (with_reducible refine gO_i at_m5 ?_) | (with_reducible refine gO_i at_6 ?_) | (with_reducible refine gO_i at_m6 ?_) | (with_reducible refine gO_i at_7 ?_) | (with_reducible refine gO_i at_m7 ?_) | (with_reducible refine IfB.ngf ?_) | (with_reducible refine IfB.ngt ?_) | (with_reducible refine IfB.not ?_) | (with_reducible refine IfB.nil ?_) | (with_reducible refine IfB.nilT ?_) | (with_reducible refine IfB.f isE_c ?_) | (with_reducible refine IfB.t isE_n ?_) | (with_reducible refine IfB.t ?gha ?_; (case gha => rfl)) | (with_reducible refine IfB.f ?gha ?_; (case gha => rfl)) | (with_reducible refine IfB.t ?gha ?_; (case gha => assumption)) | (with_reducible refine IfB.f ?gha ?_; (case gha => assumption)) | (with_reducible refine IfB.yes (Eq.refl _) ?_) | (with_reducible refine IfB.yes ?gha ?_; (case gha => (first | omega | (simp only [len_c, len_n, List.length_map]; omega)))) | (with_reducible refine IfB.no ?gha ?_; (case gha => (first | omega | (simp only [len_c, len_n, List.length_map]; omega)))) | (with_reducible refine IfB.t ?gha ?_; (case gha => decide +kernel)) | (with_reducible refine IfB.f ?gha ?_; (case gha => decide +kernel))); (with_reducible (conv => whnf))))))
local macro_rules
  | `(tactic| decreasing_trivial_pre_omega) => `(tactic| (decreasing_trivial; (repeat ((first | ((with_reducible refine And.intro ?gha ?_); (case gha => (first | assumption | omega | exact rfl | (exact mset_same) | (exact ⟨_, mset_same⟩) | (exact Exists.intro _ (by first | exact mset_same | assumption | (rw [mset_ne (by assumption)]; first | exact mset_same | assumption))) | (exact sm_of (by omega) (by omega)) | (exact sz1000 (by first | omega | (simp; done) | (simp; omega))) | (exact Or.inl ⟨by decide, by decide⟩) | decide | (simp; done) | (refine ⟨?_, ?_⟩ <;> (first | assumption | omega | exact rfl | (exact mset_same) | (exact ⟨_, mset_same⟩) | (exact Exists.intro _ (by first | exact mset_same | assumption | (rw [mset_ne (by assumption)]; first | exact mset_same | assumption))) | (exact sm_of (by omega) (by omega)) | (exact sz1000 (by first | omega | (simp; done) | (simp; omega))) | (exact Or.inl ⟨by decide, by decide⟩) | decide | (simp; done))) | (refine ⟨?_, ?_, ?_⟩ <;> (first | assumption | omega | exact rfl | (exact mset_same) | (exact ⟨_, mset_same⟩) | (exact Exists.intro _ (by first | exact mset_same | assumption | (rw [mset_ne (by assumption)]; first | exact mset_same | assumption))) | (exact sm_of (by omega) (by omega)) | (exact sz1000 (by first | omega | (simp; done) | (simp; omega))) | (exact Or.inl ⟨by decide, by decide⟩) | decide | (simp; done))) | (refine ⟨?_, ?_, ?_, ?_⟩ <;> (first | assumption | omega | exact rfl | (exact mset_same) | (exact ⟨_, mset_same⟩) | (exact Exists.intro _ (by first | exact mset_same | assumption | (rw [mset_ne (by assumption)]; first | exact mset_same | assumption))) | (exact sm_of (by omega) (by omega)) | (exact sz1000 (by first | omega | (simp; done) | (simp; omega))) | (exact Or.inl ⟨by decide, by decide⟩) | decide | (simp; done)))))) | (with_reducible refine exW (by first | exact mset_same | assumption | (rw [mset_ne (by assumption)]; first | exact mset_same | assumption)) ?_)); decreasing_trivial))))
theorem fn_or {P : Program} {w : World} {K : PySem.W.Frag} {mg : Str → Option Value} {base : Heap} {CX : CXT} {k n : Nat} {f : Addr} {fd : FuncData} {ps : List Str} {t1 t2 : TF} (h1 : FnOk P w K mg base CX k f fd ps (spD K n t1)) (h2 : FnOk P w K mg base CX k f fd ps (spD K n t2)) : FnOk P w K mg base CX k f fd ps (spD K n fun ws M R RX => t1 ws M R RX ∨ t2 ws M R RX) := by
  refine ⟨fun vs H Q E h => ?_, fun A outer s H args us vs Q E hr e0 hb r h => ?_⟩
  · obtain ⟨F, M, ws, R, RX, r1, r2, r3, h4 | h4, r5⟩ := h
    · exact h1.len vs H Q E ⟨F, M, ws, R, RX, r1, r2, r3, h4, r5⟩
    · exact h2.len vs H Q E ⟨F, M, ws, R, RX, r1, r2, r3, h4, r5⟩
  · obtain ⟨F, M, ws, R, RX, r1, r2, r3, h4 | h4, r5⟩ := h
    · exact h1.run A outer s H args us vs Q E hr e0 hb r ⟨F, M, ws, R, RX, r1, r2, r3, h4, r5⟩
    · exact h2.run A outer s H args us vs Q E hr e0 hb r ⟨F, M, ws, R, RX, r1, r2, r3, h4, r5⟩
/-- lists: good ones, and all others -/
@[reducible] def tfTiedX (C : Addr) : TF := fun ws M R RX => g1 ws fun x => gL x fun xs => txtAll xs = true ∧ ((1000 < xs.length ∨ ∃ x ∈ xs, isItem x = false) → RX ⟨.ref C, []⟩ M) ∧ (xs.length ≤ 1000 → (∀ x ∈ xs, isItem x = true) → ∀ t, Is t xs → R (.d (toD t)) M)
/-- tuples with something that is no item -/
@[reducible] def tfTiedB (C : Addr) : TF := fun ws M R RX => g1 ws fun x => gT x fun xs => (txtAll xs = true ∧ xs.length ≤ 1000 ∧ ∃ x ∈ xs, isItem x = false) ∧ RX ⟨.ref C, []⟩ M
def notSeq : PyData → Bool
  | .list _ => false
  | .tuple _ => false
  | _ => true
@[reducible] def tfTiedN (C : Addr) : TF := fun ws M R RX => g1 ws fun x => gD x fun d => notSeq d = true ∧ RX ⟨.ref C, []⟩ M
@[reducible] def tfTiedK (C : Addr) : TF := fun ws M R RX => g1 ws fun x => gR x fun a => (∃ kw, M a = some (.dK kw)) ∧ RX ⟨.ref C, []⟩ M
@[reducible] def tfTied (C : Addr) : TF := fun ws M R RX => tfTiedX C ws M R RX ∨ tfTiedB C ws M R RX ∨ tfTiedN C ws M R RX ∨ tfTiedK C ws M R RX
theorem no_item {xs : List PyData} (h : ∃ x ∈ xs, isItem x = false) : (xs.map isItem).all id = false := by
  obtain ⟨x, hx, e⟩ := h
  rw [List.all_map, Bool.eq_false_iff]
  intro z
  have := List.all_eq_true.mp z x hx
  rw [Function.comp, id, e] at this
  cases this
section
variable {P : Program} {w : World} {K : PySem.W.Frag} {mg : Str → Option Value} {base : Heap}
theorem ok_tiedX {f C : Addr} {fd : FuncData} {k j : Nat} (F : Fun K "tied" "tied" sTied f fd) (XNoTie : Er K mg "NoTie" C) (Uis_item : Use P w K mg base "is_item" ["thing"] j (spD K 1 (tfB isItem))) (Ubuilt : Use P w K mg base "built" ["items"] j (spD K 1 (tfBuiltL 11))) (hj : j ≤ k) (T : Bl mg) (CT : ∃ t, mg "TIED" = some (.int 1000 t)) :
    FnOk P w K mg base (L2.CX P w) (k + 1) f fd ["items"] (spD K 1 (tfTiedX C)) := by
  refine okDX F scTied rfl fun cdv A outer s H E hr => ?_
  refine ⟨_, fun RE => _, (pss_cons (ps_if (PW.pt (pw_or (pt_not (pt_val (pe_callB (r := rIsiT K) call_isiT (by rfl) T.isi PyProof.Rows.boot_isinstance (pa_cons (pv 0) (pa_cons (pe_tup (pa_cons (b_list T) (pa_cons (b_tuple T) pa_nil))) pa_nil))))) (pw_or1 (pt_cmpR op_gt (pe_callB call_len_seq (by rfl) T.len PySem.boot_len (pa_cons (pv 0) pa_nil)) (c_int CT) (nomark _))))) (pss_one (ps_raise rfl (takes_of (E := E) rfl rfl rfl rfl) (pmk_own0 PySem.F.excBase_ValueError XNoTie.x XNoTie.g XNoTie.k (raises_own XNoTie.b XNoTie.t) (by exact rfl)))) pss_nil)
    (pss_cons (ps_if (pt_not (pt_val (pe_callB (cr_all rfl) (by rfl) T.all PyProof.Rows.boot_all (pa_cons (pe_lc (own := [("item", 1)]) (g := gName 1) (tt := tYes) (by rfl) scTied.nd (pi_list (pv 0)) (blkOk_by (N := ["items", "item"]) (sc := defScope sTied) (own := [("item", 1)]) (by decide +kernel)) (fun _ _ _ _ _ => pg_name (i := 1) scTied.nd rfl (Or.inl rfl)) (fun _ _ _ _ _ => pts_nil) (fun _ _ _ _ _ => (PE.nox (pe_call Uis_item.ok (hr.mono (by omega)) rfl Uis_item.m Uis_item.kp Uis_item.b .nil pass0 (pa_cons (pv 1) pa_nil))))) pa_nil)))) (pss_one (ps_raise rfl (takes_of (E := E) rfl rfl rfl rfl) (pmk_own0 PySem.F.excBase_ValueError XNoTie.x XNoTie.g XNoTie.k (raises_own XNoTie.b XNoTie.t) (by exact rfl)))) pss_nil)
    (pss_one (ps_ret (PE.nox (pe_call Ubuilt.ok (hr.mono (by omega)) rfl Ubuilt.m Ubuilt.kp Ubuilt.b .nil pass0 (pa_cons (pv 0) pa_nil))))))), fun RE => (ss_cons (ss_if (st_or (st_not (st_val (se_isDT se_nm (sa_cons se_o (sa_cons se_o sa_nil))))) (st_test (se_op so_gt (se_cb sc_len (sa_cons se_nm sa_nil)) se_int))) ss_raise0 ss_nil)
    (ss_cons (ss_if (st_not (st_val (se_cb sc_all (sa_cons (se_lcF (si_lst se_nm) sg_name st_yes (se_call (sa_cons se_nm sa_nil))) sa_nil)))) ss_raise0 ss_nil)
    (ss_ret (se_call (sa_cons se_nm sa_nil))))), fun ws M R RX hl h => ?_⟩
  obtain ⟨x, rfl, h1⟩ := g1_of h
  obtain ⟨xs, rfl, hx, h2, h3⟩ := gL_of h1
  simp only [start0, len_c, len_n, map_c, map_n, app_c, app_n, rep_0, rep_s, Nat.reduceAdd, Nat.reduceSub]
  decreasing_trivial_pre_omega
  refine IfB.t rfl ?_
  decreasing_trivial_pre_omega
  have hlm : (xs.map W.d).length = xs.length := List.length_map _
  rw [hlm]
  refine IfB.d (fun c => ?_) (fun c => ?_)
  · decreasing_trivial_pre_omega
    exact h2 (.inl (by omega))
  · decreasing_trivial_pre_omega
    refine lc1F (k := fun _ => True) (b := bName 1) (f := W.d) (fun d => .bool (isItem d)) trivial (fun d hm Rk q => ?_) (sz1000 (by omega)) ?_
    · obtain ⟨jj, hjj⟩ := List.getElem?_of_mem hm
      have htx := txtAll_get hx hjj
      decreasing_trivial_pre_omega
      exact q
    · dsimp only
      show gBs ((xs.map fun d => PyData.bool (isItem d)).map W.d) _
      rw [mapW, gBs_map]
      by_cases hb : ∃ x ∈ xs, isItem x = false
      · have ha := no_item hb
        decreasing_trivial_pre_omega
        exact h2 (.inr hb)
      · have hi : ∀ x ∈ xs, isItem x = true := fun x hx => by
          cases c2 : isItem x with
          | true => rfl
          | false => exact absurd ⟨x, hx, c2⟩ hb
        have ha := all_item hi
        have hlx : xs.length ≤ 1000 := by omega
        have h4 := h3 hlx hi
        decreasing_trivial_pre_omega
        exact h4
theorem ok_tiedB {f C : Addr} {fd : FuncData} {k j : Nat} (F : Fun K "tied" "tied" sTied f fd) (XNoTie : Er K mg "NoTie" C) (Uis_item : Use P w K mg base "is_item" ["thing"] j (spD K 1 (tfB isItem))) (Ubuilt : Use P w K mg base "built" ["items"] j (spD K 1 (tfBuiltL 11))) (hj : j ≤ k) (T : Bl mg) (CT : ∃ t, mg "TIED" = some (.int 1000 t)) :
    FnOk P w K mg base (L2.CX P w) (k + 1) f fd ["items"] (spD K 1 (tfTiedB C)) := by
  refine okDX F scTied rfl fun cdv A outer s H E hr => ?_
  refine ⟨_, fun RE => _, (pss_cons (ps_if (PW.pt (pw_or (pt_not (pt_val (pe_callB (r := rIsiT K) call_isiT (by rfl) T.isi PyProof.Rows.boot_isinstance (pa_cons (pv 0) (pa_cons (pe_tup (pa_cons (b_list T) (pa_cons (b_tuple T) pa_nil))) pa_nil))))) (pw_or1 (pt_cmpR op_gt (pe_callB call_len_seq (by rfl) T.len PySem.boot_len (pa_cons (pv 0) pa_nil)) (c_int CT) (nomark _))))) (pss_one (ps_raise rfl (takes_of (E := E) rfl rfl rfl rfl) (pmk_own0 PySem.F.excBase_ValueError XNoTie.x XNoTie.g XNoTie.k (raises_own XNoTie.b XNoTie.t) (by exact rfl)))) pss_nil)
    (pss_cons (ps_if (pt_not (pt_val (pe_callB (cr_all rfl) (by rfl) T.all PyProof.Rows.boot_all (pa_cons (pe_lc (own := [("item", 1)]) (g := gName 1) (tt := tYes) (by rfl) scTied.nd (pi_tup (pv 0)) (blkOk_by (N := ["items", "item"]) (sc := defScope sTied) (own := [("item", 1)]) (by decide +kernel)) (fun _ _ _ _ _ => pg_name (i := 1) scTied.nd rfl (Or.inl rfl)) (fun _ _ _ _ _ => pts_nil) (fun _ _ _ _ _ => (PE.nox (pe_call Uis_item.ok (hr.mono (by omega)) rfl Uis_item.m Uis_item.kp Uis_item.b .nil pass0 (pa_cons (pv 1) pa_nil))))) pa_nil)))) (pss_one (ps_raise rfl (takes_of (E := E) rfl rfl rfl rfl) (pmk_own0 PySem.F.excBase_ValueError XNoTie.x XNoTie.g XNoTie.k (raises_own XNoTie.b XNoTie.t) (by exact rfl)))) pss_nil)
    (pss_one (ps_ret (PE.nox (pe_call Ubuilt.ok (hr.mono (by omega)) rfl Ubuilt.m Ubuilt.kp Ubuilt.b .nil pass0 (pa_cons (pv 0) pa_nil))))))), fun RE => (ss_cons (ss_if (st_or (st_not (st_val (se_isDT se_nm (sa_cons se_o (sa_cons se_o sa_nil))))) (st_test (se_op so_gt (se_cb sc_len (sa_cons se_nm sa_nil)) se_int))) ss_raise0 ss_nil)
    (ss_cons (ss_if (st_not (st_val (se_cb sc_all (sa_cons (se_lcF (si_tup se_nm) sg_name st_yes (se_call (sa_cons se_nm sa_nil))) sa_nil)))) ss_raise0 ss_nil)
    (ss_ret (se_call (sa_cons se_nm sa_nil))))), fun ws M R RX hl h => ?_⟩
  obtain ⟨x, rfl, h1⟩ := g1_of h
  obtain ⟨xs, rfl, ⟨hx, hl, hb⟩, h2⟩ := gT_of h1
  simp only [start0, len_c, len_n, map_c, map_n, app_c, app_n, rep_0, rep_s, Nat.reduceAdd, Nat.reduceSub]
  decreasing_trivial_pre_omega
  refine IfB.t rfl ?_
  decreasing_trivial_pre_omega
  refine lc1F (k := fun _ => True) (b := bName 1) (f := W.d) (fun d => .bool (isItem d)) trivial (fun d hm Rk q => ?_) (sz1000 hl) ?_
  · obtain ⟨jj, hjj⟩ := List.getElem?_of_mem hm
    have htx := txtAll_get hx hjj
    decreasing_trivial_pre_omega
    exact q
  · dsimp only
    show gBs ((xs.map fun d => PyData.bool (isItem d)).map W.d) _
    rw [mapW, gBs_map]
    have ha := no_item hb
    decreasing_trivial_pre_omega
    exact h2
theorem ok_tiedN {f C : Addr} {fd : FuncData} {k j : Nat} (F : Fun K "tied" "tied" sTied f fd) (XNoTie : Er K mg "NoTie" C) (Uis_item : Use P w K mg base "is_item" ["thing"] j (spD K 1 (tfB isItem))) (Ubuilt : Use P w K mg base "built" ["items"] j (spD K 1 (tfBuiltL 11))) (hj : j ≤ k) (T : Bl mg) (CT : ∃ t, mg "TIED" = some (.int 1000 t)) :
    FnOk P w K mg base (L2.CX P w) (k + 1) f fd ["items"] (spD K 1 (tfTiedN C)) := by
  refine okDX F scTied rfl fun cdv A outer s H E hr => ?_
  refine ⟨_, fun RE => _, (pss_cons (ps_if (PW.pt (pw_or (pt_not (pt_val (pe_callB (r := rIsiT K) call_isiT (by rfl) T.isi PyProof.Rows.boot_isinstance (pa_cons (pv 0) (pa_cons (pe_tup (pa_cons (b_list T) (pa_cons (b_tuple T) pa_nil))) pa_nil))))) (pw_or1 (pt_cmpR op_gt (pe_callB call_len_seq (by rfl) T.len PySem.boot_len (pa_cons (pv 0) pa_nil)) (c_int CT) (nomark _))))) (pss_one (ps_raise rfl (takes_of (E := E) rfl rfl rfl rfl) (pmk_own0 PySem.F.excBase_ValueError XNoTie.x XNoTie.g XNoTie.k (raises_own XNoTie.b XNoTie.t) (by exact rfl)))) pss_nil)
    (pss_cons (ps_if (pt_not (pt_val (pe_callB (cr_all rfl) (by rfl) T.all PyProof.Rows.boot_all (pa_cons (pe_lc (own := [("item", 1)]) (g := gName 1) (tt := tYes) (by rfl) scTied.nd (pi_list (pv 0)) (blkOk_by (N := ["items", "item"]) (sc := defScope sTied) (own := [("item", 1)]) (by decide +kernel)) (fun _ _ _ _ _ => pg_name (i := 1) scTied.nd rfl (Or.inl rfl)) (fun _ _ _ _ _ => pts_nil) (fun _ _ _ _ _ => (PE.nox (pe_call Uis_item.ok (hr.mono (by omega)) rfl Uis_item.m Uis_item.kp Uis_item.b .nil pass0 (pa_cons (pv 1) pa_nil))))) pa_nil)))) (pss_one (ps_raise rfl (takes_of (E := E) rfl rfl rfl rfl) (pmk_own0 PySem.F.excBase_ValueError XNoTie.x XNoTie.g XNoTie.k (raises_own XNoTie.b XNoTie.t) (by exact rfl)))) pss_nil)
    (pss_one (ps_ret (PE.nox (pe_call Ubuilt.ok (hr.mono (by omega)) rfl Ubuilt.m Ubuilt.kp Ubuilt.b .nil pass0 (pa_cons (pv 0) pa_nil))))))), fun RE => (ss_cons (ss_if (st_or (st_not (st_val (se_isDT se_nm (sa_cons se_o (sa_cons se_o sa_nil))))) (st_test (se_op so_gt (se_cb sc_len (sa_cons se_nm sa_nil)) se_int))) ss_raise0 ss_nil)
    (ss_cons (ss_if (st_not (st_val (se_cb sc_all (sa_cons (se_lcF (si_lst se_nm) sg_name st_yes (se_call (sa_cons se_nm sa_nil))) sa_nil)))) ss_raise0 ss_nil)
    (ss_ret (se_call (sa_cons se_nm sa_nil))))), fun ws M R RX hl h => ?_⟩
  obtain ⟨x, rfl, h1⟩ := g1_of h
  obtain ⟨d, rfl, hd, h2⟩ := gD_of h1
  cases d with
  | list _ => cases hd
  | tuple _ => cases hd
  | _ =>
    simp only [start0, len_c, len_n, map_c, map_n, app_c, app_n, rep_0, rep_s, Nat.reduceAdd, Nat.reduceSub]
    decreasing_trivial_pre_omega
    first
      | exact h2
      | (refine IfB.f rfl ?_
         decreasing_trivial_pre_omega
         exact h2)
theorem ok_tiedK {f C : Addr} {fd : FuncData} {k j : Nat} (F : Fun K "tied" "tied" sTied f fd) (XNoTie : Er K mg "NoTie" C) (Uis_item : Use P w K mg base "is_item" ["thing"] j (spD K 1 (tfB isItem))) (Ubuilt : Use P w K mg base "built" ["items"] j (spD K 1 (tfBuiltL 11))) (hj : j ≤ k) (T : Bl mg) (CT : ∃ t, mg "TIED" = some (.int 1000 t)) :
    FnOk P w K mg base (L2.CX P w) (k + 1) f fd ["items"] (spD K 1 (tfTiedK C)) := by
  refine okDX F scTied rfl fun cdv A outer s H E hr => ?_
  refine ⟨_, fun RE => _, (pss_cons (ps_if (PW.pt (pw_or (pt_not (pt_val (pe_callB (r := rIsiT K) call_isiT (by rfl) T.isi PyProof.Rows.boot_isinstance (pa_cons (pv 0) (pa_cons (pe_tup (pa_cons (b_list T) (pa_cons (b_tuple T) pa_nil))) pa_nil))))) (pw_or1 (pt_cmpR op_gt (pe_callB call_len_seq (by rfl) T.len PySem.boot_len (pa_cons (pv 0) pa_nil)) (c_int CT) (nomark _))))) (pss_one (ps_raise rfl (takes_of (E := E) rfl rfl rfl rfl) (pmk_own0 PySem.F.excBase_ValueError XNoTie.x XNoTie.g XNoTie.k (raises_own XNoTie.b XNoTie.t) (by exact rfl)))) pss_nil)
    (pss_cons (ps_if (pt_not (pt_val (pe_callB (cr_all rfl) (by rfl) T.all PyProof.Rows.boot_all (pa_cons (pe_lc (own := [("item", 1)]) (g := gName 1) (tt := tYes) (by rfl) scTied.nd (pi_list (pv 0)) (blkOk_by (N := ["items", "item"]) (sc := defScope sTied) (own := [("item", 1)]) (by decide +kernel)) (fun _ _ _ _ _ => pg_name (i := 1) scTied.nd rfl (Or.inl rfl)) (fun _ _ _ _ _ => pts_nil) (fun _ _ _ _ _ => (PE.nox (pe_call Uis_item.ok (hr.mono (by omega)) rfl Uis_item.m Uis_item.kp Uis_item.b .nil pass0 (pa_cons (pv 1) pa_nil))))) pa_nil)))) (pss_one (ps_raise rfl (takes_of (E := E) rfl rfl rfl rfl) (pmk_own0 PySem.F.excBase_ValueError XNoTie.x XNoTie.g XNoTie.k (raises_own XNoTie.b XNoTie.t) (by exact rfl)))) pss_nil)
    (pss_one (ps_ret (PE.nox (pe_call Ubuilt.ok (hr.mono (by omega)) rfl Ubuilt.m Ubuilt.kp Ubuilt.b .nil pass0 (pa_cons (pv 0) pa_nil))))))), fun RE => (ss_cons (ss_if (st_or (st_not (st_val (se_isDTK se_nm (sa_cons se_o (sa_cons se_o sa_nil))))) (st_test (se_op so_gt (se_cb sc_len (sa_cons se_nm sa_nil)) se_int))) ss_raise0 ss_nil)
    (ss_cons (ss_if (st_not (st_val (se_cb sc_all (sa_cons (se_lcF (si_lst se_nm) sg_name st_yes (se_call (sa_cons se_nm sa_nil))) sa_nil)))) ss_raise0 ss_nil)
    (ss_ret (se_call (sa_cons se_nm sa_nil))))), fun ws M R RX hl h => ?_⟩
  obtain ⟨x, rfl, h1⟩ := g1_of h
  obtain ⟨a, rfl, hk, h2⟩ := gR_of h1
  simp only [start0, len_c, len_n, map_c, map_n, app_c, app_n, rep_0, rep_s, Nat.reduceAdd, Nat.reduceSub]
  decreasing_trivial_pre_omega
  exact h2
theorem ok_tied {f C : Addr} {fd : FuncData} {k j : Nat} (F : Fun K "tied" "tied" sTied f fd) (XNoTie : Er K mg "NoTie" C) (Uis_item : Use P w K mg base "is_item" ["thing"] j (spD K 1 (tfB isItem))) (Ubuilt : Use P w K mg base "built" ["items"] j (spD K 1 (tfBuiltL 11))) (hj : j ≤ k) (T : Bl mg) (CT : ∃ t, mg "TIED" = some (.int 1000 t)) :
    FnOk P w K mg base (L2.CX P w) (k + 1) f fd ["items"] (spD K 1 (tfTied C)) :=
  fn_or (ok_tiedX F XNoTie Uis_item Ubuilt hj T CT) (fn_or (ok_tiedB F XNoTie Uis_item Ubuilt hj T CT) (fn_or (ok_tiedN F XNoTie Uis_item Ubuilt hj T CT) (ok_tiedK F XNoTie Uis_item Ubuilt hj T CT)))
end
end Tl
set_option Elab.async false
set_option linter.all false
set_option maxRecDepth 100000
set_option maxHeartbeats 8000000
namespace Tl
open PySem L2 RZ Tie
local macro_rules
  | `(tactic| decreasing_trivial) => `(tactic| ((with_reducible (conv => whnf)); (repeat ((first | (with_reducible refine gTie_i ?_) | (with_reducible refine gTie_n ?_) | (with_reducible refine gTie_4 ?_) | (with_reducible refine gDs_c ?_) | (with_reducible refine gDs_n ?_) | (with_reducible refine gNs_c ?_) | (with_reducible refine gNs_n ?_) | (with_reducible refine gO_i tyAny_lt ?_) | (with_reducible refine gIs_c ?_) | (with_reducible refine gIs_n ?_) | (with_reducible refine gBs_c ?_) | (with_reducible refine gBs_n ?_) | (with_reducible refine gSs_c ?_) | (with_reducible refine gSs_n ?_) | (with_reducible refine gO_i tyIs_int ?_) | (with_reducible refine gO_i tyIs_bool ?_) | (with_reducible refine gO_i tyIs_str ?_) | (with_reducible refine gO_i tyIs_tuple ?_) | (with_reducible refine gO_i tyIs_list ?_) | (with_reducible refine gDs_i ?_) | (with_reducible refine gO_i (Eq.refl _) ?_) | (with_reducible refine gO_i (by assumption) ?_) | (with_reducible refine gO_i at_0 ?_) | (with_reducible refine gO_i at_m0 ?_) | (with_reducible refine gO_i at_1 ?_) | (with_reducible refine gO_i at_m1 ?_) | (with_reducible refine gO_i at_2 ?_) | (with_reducible refine gO_i at_m2 ?_) | (with_reducible refine gO_i at_3 ?_) | (with_reducible refine gO_i at_m3 ?_) | (with_reducible refine gO_i at_4 ?_) | (with_reducible refine gO_i at_m4 ?_) | (with_reducible refine gO_i at_5 ?_) | (with_reducible refine gO_i at_m5 ?_) | (with_reducible refine gO_i at_6 ?_) | (with_reducible refine gO_i at_m6 ?_) | (with_reducible refine gO_i at_7 ?_) | (with_reducible refine gO_i at_m7 ?_) | (with_reducible refine IfB.ngf ?_) | (with_reducible refine IfB.ngt ?_) | (with_reducible refine IfB.not ?_) | (with_reducible refine IfB.nil ?_) | (with_reducible refine IfB.nilT ?_) | (with_reducible refine IfB.f isE_c ?_) | (with_reducible refine IfB.t isE_n ?_) | (with_reducible refine IfB.t ?gha ?_; (case gha => rfl)) | (with_reducible refine IfB.f ?gha ?_; (case gha => rfl)) | (with_reducible refine IfB.t ?gha ?_; (case gha => assumption)) | (with_reducible refine IfB.f ?gha ?_; (case gha => assumption)) | (with_reducible refine IfB.yes (Eq.refl _) ?_) | (with_reducible refine IfB.yes ?gha ?_; (case gha => (first | omega | (simp only [len_c, len_n, List.length_map]; omega)))) | (with_reducible refine IfB.no ?gha ?_; (case gha => (first | omega | (simp only [len_c, len_n, List.length_map]; omega)))) | (with_reducible refine IfB.t ?gha ?_; (case gha => decide +kernel)) | (with_reducible refine IfB.f ?gha ?_; (case gha => decide +kernel))); (with_reducible (conv => whnf))))))
local macro_rules
  | `(tactic| decreasing_trivial_pre_omega) => `(tactic| (decreasing_trivial; (repeat ((first | ((with_reducible refine And.intro ?gha ?_); (case gha => (first | assumption | omega | exact rfl | (exact mset_same) | (exact ⟨_, mset_same⟩) | (exact Exists.intro _ (by first | exact mset_same | assumption | (rw [mset_ne (by assumption)]; first | exact mset_same | assumption))) | (exact sm_of (by omega) (by omega)) | (exact sz1000 (by first | omega | (simp; done) | (simp; omega))) | (exact Or.inl ⟨by decide, by decide⟩) | decide | (simp; done) | (refine ⟨?_, ?_⟩ <;> (first | assumption | omega | exact rfl | (exact mset_same) | (exact ⟨_, mset_same⟩) | (exact Exists.intro _ (by first | exact mset_same | assumption | (rw [mset_ne (by assumption)]; first | exact mset_same | assumption))) | (exact sm_of (by omega) (by omega)) | (exact sz1000 (by first | omega | (simp; done) | (simp; omega))) | (exact Or.inl ⟨by decide, by decide⟩) | decide | (simp; done))) | (refine ⟨?_, ?_, ?_⟩ <;> (first | assumption | omega | exact rfl | (exact mset_same) | (exact ⟨_, mset_same⟩) | (exact Exists.intro _ (by first | exact mset_same | assumption | (rw [mset_ne (by assumption)]; first | exact mset_same | assumption))) | (exact sm_of (by omega) (by omega)) | (exact sz1000 (by first | omega | (simp; done) | (simp; omega))) | (exact Or.inl ⟨by decide, by decide⟩) | decide | (simp; done))) | (refine ⟨?_, ?_, ?_, ?_⟩ <;> (first | assumption | omega | exact rfl | (exact mset_same) | (exact ⟨_, mset_same⟩) | (exact Exists.intro _ (by first | exact mset_same | assumption | (rw [mset_ne (by assumption)]; first | exact mset_same | assumption))) | (exact sm_of (by omega) (by omega)) | (exact sz1000 (by first | omega | (simp; done) | (simp; omega))) | (exact Or.inl ⟨by decide, by decide⟩) | decide | (simp; done)))))) | (with_reducible refine exW (by first | exact mset_same | assumption | (rw [mset_ne (by assumption)]; first | exact mset_same | assumption)) ?_)); decreasing_trivial))))
/-- what is due of a tie and a seat -/
def dueL (b : Bool) (a : PyData) (m : Int) : List PyData := if b = true then (if isNum m a = true then [.str "told"] else [.str "NoItem", a, .bool true]) else [.str "NoTie", .bool true]
@[reducible] def tfDue : TF := fun ws M R _ => ∃ (b : Bool) (a : PyData) (m : Int), ws = [.d (.bool b), .d a, .d (.int m)] ∧ txt a = true ∧ R (.d (.list (dueL b a m))) M
/-- the lambda's name -/
def qLate : Str := "_law_late_item" ++ ".<locals>." ++ "<lambda>"
/-- a seat that is asked for -/
structure AtOk (a : PyData) : Prop where
  tx : txt a = true
  eq : eqOk (.list [.str "NoItem", a, .bool true]) = true
theorem eq_tie : eqOk (.list [.str "NoTie", .bool true]) = true := by decide +kernel
theorem eq_told : eqOk (.list [.str "told"]) = true := by decide +kernel
theorem ne_item {a : PyData} : PyData.eqv (.list [.str "NoItem", a, .bool true]) (.list [.str "told"]) = false := by
  rw [PyData.eqv, PyData.eqvAll, show PyData.eqv (.str "NoItem") (.str "told") = false by decide +kernel, Bool.false_and]
theorem ne_tie : PyData.eqv (.list [.str "NoTie", .bool true]) (.list [.str "told"]) = false := by decide +kernel
theorem eq_tt : PyData.eqv (.list [.str "told"]) (.list [.str "told"]) = true := by decide +kernel
theorem eq_nn : PyData.eqv (.list [.str "NoTie", .bool true]) (.list [.str "NoTie", .bool true]) = true := by decide +kernel
theorem AtOk.self {a : PyData} (h : AtOk a) : PyData.eqv (.list [.str "NoItem", a, .bool true]) (.list [.str "NoItem", a, .bool true]) = true := eqv_self _ (eqOk_of h.eq).1
/-- a tie that is told or what is none: b tells which, m how many items -/
def TieB (b : Bool) (d : PyData) (m : Nat) : Prop := (b = true ∧ ∃ t, d = toD t ∧ TieN t ∧ sz t = m) ∨ (b = false ∧ txt d = true ∧ d.depth < 70 ∧ evenT d = false)
theorem RefT.of {C : Addr} {t : Tie} {RX : Ex → Mem → Prop} {M : Mem} {k : Tie → Prop} (h : TieN t) (q : k t) : RefT C (toD t) RX M k := by
  refine ⟨h.o.txt, h.o.dep, fun c => ?_, fun u e g => ?_⟩
  · rw [h.even] at c
    cases c
  · rw [← toD_inj e]
    exact q
theorem RefT.bad {C : Addr} {d : PyData} {RX : Ex → Mem → Prop} {M : Mem} {k : Tie → Prop} (h1 : txt d = true) (h2 : d.depth < 70) (h3 : evenT d = false) (q : RX ⟨.ref C, []⟩ M) : RefT C d RX M k :=
  ⟨h1, h2, fun _ => q, fun t e g => by
    have : evenT d = true := by rw [e]; exact g.even
    rw [h3] at this
    cases this⟩
/-- a tie and a seat asked of, where the answer is what is due -/
theorem word_seat {CT CI : Addr} {b : Bool} {d a : PyData} {m s : Nat} {R : W → Mem → Prop} {M : Mem} {K : Tie → Nat → Prop} (hb : TieB b d m) (ha : AtOk a) (h1 : b = false → R (.d (.list [.str "NoTie", .bool true])) M) (h2 : b = true → isNum (((m + s : Nat) : Int) - 1) a = false → R (.d (.list [.str "NoItem", a, .bool true])) M)
    (h3 : ∀ t, b = true → TieN t → d = toD t → sz t = m → isNum (((m + s : Nat) : Int) - 1) a = true → ∀ i : Nat, a = .int i → i < sz t + s → K t i) : RefT CT d (gwX CT CI R) M fun t => seatOk CI a (sz t + s) (gwX CT CI R) M (K t) := by
  rcases hb with ⟨rfl, t, rfl, ht, rfl⟩ | ⟨rfl, x1, x2, x3⟩
  · refine RefT.of ht ⟨ha.tx, fun c => .inr ⟨a, rfl, h2 rfl c⟩, fun i e hi => ?_⟩
    subst e
    have en : isNum (((sz t + s : Nat) : Int) - 1) (.int (i : Nat)) = true := by rw [isNum, decide_eq_true (by omega), decide_eq_true (by omega)]; rfl
    exact h3 t rfl ht rfl rfl en i rfl hi
  · exact RefT.bad x1 x2 x3 (.inl ⟨rfl, h1 rfl⟩)
@[reducible] def tfLate (tp : Addr) : TF := fun ws M R _ => ∃ (d a odd : PyData) (m : Nat) (b : Bool), ws = [.d d, .d a, .d (.int (m : Nat)), .d (.bool b), .d odd] ∧ (TieB b d m ∧ AtOk a ∧ txt odd = true ∧ isItem odd = false ∧ M tp = some (.tab qLate)) ∧ R (.d (.bool true)) M
section
variable {P : Program} {w : World} {K : PySem.W.Frag} {mg : Str → Option Value} {base : Heap}
abbrev sDue : Stmt := top 46
theorem scDue : FnScope ["_law_is_tie", "_law_at", "_law_most"] ["_law_is_tie", "_law_at", "_law_most"] (defScope sDue) := ⟨rfl, rfl, rfl, by decide +kernel, rfl, by decide +kernel, by decide +kernel⟩
theorem ok_due {f : Addr} {fd : FuncData} {k : Nat} (F : Fun K "_law_due" "_law_due" sDue f fd) (T : Bl mg) : FnOk P w K mg base CX0 (k + 1) f fd ["_law_is_tie", "_law_at", "_law_most"] (spD K 3 tfDue) := by
  refine okD F scDue rfl fun cdv A outer s H E hr => ?_
  refine ⟨_, _, (pss_cons (ps_if (pt_not (pt_val (pv 0))) (pss_one (ps_ret (pe_lst (pa_cons pe_str (pa_cons pe_bl pa_nil))))) pss_nil)
    (pss_cons (ps_if (PW.pt (pw_or (pt_not (pt_val (pe_callB (r := rIsi K) call_isi (by rfl) T.isi PyProof.Rows.boot_isinstance (pa_cons (pv 1) (pa_cons (b_int T) pa_nil))))) (pw_or (pt_val (pe_callB (r := rIsi K) call_isi (by rfl) T.isi PyProof.Rows.boot_isinstance (pa_cons (pv 1) (pa_cons (b_bool T) pa_nil)))) (pw_or1 (pt_not (pt_chain op_le op_le pe_int (pv 1) (pv 2))))))) (pss_one (ps_ret (pe_lst (pa_cons pe_str (pa_cons (pv 1) (pa_cons pe_bl pa_nil)))))) pss_nil)
    (pss_one (ps_ret (pe_lst (pa_cons pe_str pa_nil)))))),
    (ss_cons (ss_if (st_not (st_val se_nm)) (ss_ret (se_lsf (sa_cons se_str (sa_cons se_bl sa_nil)))) ss_nil)
    (ss_cons (ss_if (st_or (st_not (st_val (se_cb sc_isi (sa_cons se_nm (sa_cons se_o sa_nil))))) (st_or (st_val (se_cb sc_isi (sa_cons se_nm (sa_cons se_o sa_nil)))) (st_not (st_test (se_chain so_le so_le se_int se_nm se_nm))))) (ss_ret (se_lsf (sa_cons se_str (sa_cons se_nm (sa_cons se_bl sa_nil))))) ss_nil)
    (ss_ret (se_lsf (sa_cons se_str sa_nil))))), fun ws M R RX hl h => ?_⟩
  obtain ⟨b, a, m, rfl, ht, h2⟩ := h
  cases b with
  | false =>
    simp only [start0, len_c, len_n, map_c, map_n, app_c, app_n, rep_0, rep_s, Nat.reduceAdd, Nat.reduceSub]
    decreasing_trivial_pre_omega
    exact h2
  | true =>
    cases a with
    | int i =>
      unfold dueL at h2
      rw [if_pos rfl] at h2
      simp only [start0, len_c, len_n, map_c, map_n, app_c, app_n, rep_0, rep_s, Nat.reduceAdd, Nat.reduceSub]
      decreasing_trivial_pre_omega
      refine IfB.d (fun c1 => ?_) (fun c1 => ?_)
      · decreasing_trivial_pre_omega
        refine IfB.d (fun c2 => ?_) (fun c2 => ?_)
        · have e : isNum m (.int i) = true := by rw [isNum, decide_eq_true c1, decide_eq_true c2]; rfl
          rw [if_pos e] at h2
          decreasing_trivial_pre_omega
          exact h2
        · have e : isNum m (.int i) = false := by rw [isNum, decide_eq_true c1, decide_eq_false c2]; rfl
          rw [if_neg (by rw [e]; exact Bool.false_ne_true)] at h2
          decreasing_trivial_pre_omega
          exact h2
      · have e : isNum m (.int i) = false := by rw [isNum, decide_eq_false c1]; rfl
        rw [if_neg (by rw [e]; exact Bool.false_ne_true)] at h2
        decreasing_trivial_pre_omega
        exact h2
    | _ => (simp only [start0, len_c, len_n, map_c, map_n, app_c, app_n, rep_0, rep_s, Nat.reduceAdd, Nat.reduceSub]; decreasing_trivial_pre_omega; exact h2)
abbrev sLate : Stmt := top 47
theorem scLate : FnScope ["_law_tie", "_law_at", "_law_many", "_law_is_tie", "_law_odd", "_law_due_here"] ["_law_tie", "_law_at", "_law_many", "_law_is_tie", "_law_odd"] (defScope sLate) := ⟨rfl, rfl, rfl, by decide +kernel, rfl, by decide +kernel, by decide +kernel⟩
theorem ok_late {f c tp : Addr} {fd : FuncData} {k j : Nat} (F : Fun K "_law_late_item" "_law_late_item" sLate f fd) (hc : fd.code = .ref c) (TB : LamX.TabB base mg c tp) (A : Cls K mg) (U_law_word : UseT P w K mg base "_law_word" "_law_call" (gWord A.c_NoTie A.c_NoItem)) (U_law_due : Use P w K mg base "_law_due" ["_law_is_tie", "_law_at", "_law_most"] j (spD K 3 tfDue)) (Uput_at : UseX P w K mg base "put_at" ["tie", "at", "item"] j (spD K 3 (tfPutAt A.c_NoTie A.c_NoItem))) (hj : j + 2 ≤ k) (T : Bl mg) : FnOk P w K mg base CX0 (k + 1) f fd ["_law_tie", "_law_at", "_law_many", "_law_is_tie", "_law_odd"] (spD K 5 (tfLate tp)) := by
  refine okDC F scLate rfl hc fun A' outer s H E hr => ?_
  refine ⟨_, _, (pss_cons (ps_set (i := 5) scLate.nd rfl (.inl rfl) (pe_call U_law_due.ok (hr.mono (by omega)) rfl U_law_due.m U_law_due.kp U_law_due.b .nil pass0 (pa_cons (pv 3) (pa_cons (pv 1) (pa_cons (pv 2) pa_nil)))))
    (pss_cons (ps_if (pt_cmpR (op_eqD hr.units) (pv 5) (pe_lst (pa_cons pe_str pa_nil)) (nomark _)) (pss_one (ps_set (i := 5) scLate.nd rfl (.inl rfl) (pe_lst (pa_cons pe_str (pa_cons pe_bl pa_nil))))) pss_nil)
    (pss_one (ps_ret (pe_cmpR (op_eqD hr.units) (pe_word (P := tp) (k := j) U_law_word (by rfl) TB rfl (show _ = qLate from rfl) (hr.mono (by omega)) (LamX.lamS_by (show LamX.lamSB (defScope sLate) _ = true by decide +kernel)) rfl (fun _ _ _ _ _ => rfl) (fun A outer s H E0 f c' hr => (pe_callS Uput_at.ok (hr.mono (by omega)) rfl Uput_at.m Uput_at.kp Uput_at.b (fun σ => passAt (takes_of (E := E0) rfl rfl rfl rfl) σ) (pa_cons (pv 0) (pa_cons (pv 1) (pa_cons (pv 4) pa_nil)))))) (pv 5) (nomark _)))))),
    (ss_cons (ss_set (se_call (sa_cons se_nm (sa_cons se_nm (sa_cons se_nm sa_nil)))))
    (ss_cons (ss_if (st_test (se_op so_eqD se_nm (se_lsf (sa_cons se_str sa_nil)))) (ss_set (se_lsf (sa_cons se_str (sa_cons se_bl sa_nil)))) ss_nil)
    (ss_ret (se_op so_eqD (se_lamT (fun E0 RE => (se_callX (sa_cons se_nm (sa_cons se_nm (sa_cons se_nm sa_nil)))))) se_nm)))), fun ws M R RX hl h => ?_⟩
  obtain ⟨d, a, odd, m, b, rfl, ⟨hd, ha, ho, hi, hM⟩, h2⟩ := h
  simp only [start0, len_c, len_n, map_c, map_n, app_c, app_n, rep_0, rep_s, Nat.reduceAdd, Nat.reduceSub]
  decreasing_trivial_pre_omega
  refine ⟨b, a, m, rfl, ha.tx, ?_⟩
  have e1 : ((m : Nat) : Int) = ((m + 1 : Nat) : Int) - 1 := by omega
  have q1 := eq_tie
  have q2 := eq_told
  have q3 := ha.eq
  have q4 := @ne_item a
  have q5 := ne_tie
  have q6 := eq_tt
  have q7 := eq_nn
  have q8 := ha.self
  cases b with
  | false =>
    unfold dueL
    rw [if_neg Bool.false_ne_true]
    decreasing_trivial_pre_omega
    refine word_seat (s := 1) hd ha (fun _ => ?_) (fun z => by cases z) (fun t z => by cases z)
    decreasing_trivial_pre_omega
    exact h2
  | true =>
    unfold dueL
    rw [if_pos rfl]
    cases c : isNum m a
    · rw [if_neg Bool.false_ne_true]
      decreasing_trivial_pre_omega
      refine word_seat (s := 1) hd ha (fun z => by cases z) (fun _ _ => ?_) (fun t _ _ _ _ z => by rw [← e1, c] at z; cases z)
      decreasing_trivial_pre_omega
      rw [q8]
      exact h2
    · rw [if_pos rfl]
      decreasing_trivial_pre_omega
      refine word_seat (s := 1) hd ha (fun z => by cases z) (fun _ z => by rw [← e1, c] at z; cases z) (fun t _ ht _ _ _ i _ hi2 => ⟨fun _ => .inl ⟨rfl, ?_⟩, fun z => by rw [hi] at z; cases z⟩)
      decreasing_trivial_pre_omega
      exact h2
end
end Tl
set_option Elab.async false
set_option linter.all false
set_option maxRecDepth 100000
set_option maxHeartbeats 8000000
namespace Tl
open PySem L2 RZ Tie
local macro_rules
  | `(tactic| decreasing_trivial) => `(tactic| ((with_reducible (conv => whnf)); (repeat ((first | (with_reducible refine gTie_i ?_) | (with_reducible refine gTie_n ?_) | (with_reducible refine gTie_4 ?_) | (with_reducible refine gDs_c ?_) | (with_reducible refine gDs_n ?_) | (with_reducible refine gNs_c ?_) | (with_reducible refine gNs_n ?_) | (with_reducible refine gO_i tyAny_lt ?_) | (with_reducible refine gIs_c ?_) | (with_reducible refine gIs_n ?_) | (with_reducible refine gBs_c ?_) | (with_reducible refine gBs_n ?_) | (with_reducible refine gSs_c ?_) | (with_reducible refine gSs_n ?_) | (with_reducible refine gO_i tyIs_int ?_) | (with_reducible refine gO_i tyIs_bool ?_) | (with_reducible refine gO_i tyIs_str ?_) | (with_reducible refine gO_i tyIs_tuple ?_) | (with_reducible refine gO_i tyIs_list ?_) | (with_reducible refine gDs_i ?_) | (with_reducible refine gO_i (Eq.refl _) ?_) | (with_reducible refine gO_i (by assumption) ?_) | (with_reducible refine gO_i at_0 ?_) | (with_reducible refine gO_i at_m0 ?_) | (with_reducible refine gO_i at_1 ?_) | (with_reducible refine gO_i at_m1 ?_) | (with_reducible refine gO_i at_2 ?_) | (with_reducible refine gO_i at_m2 ?_) | (with_reducible refine gO_i at_3 ?_) | (with_reducible refine gO_i at_m3 ?_) | (with_reducible refine gO_i at_4 ?_) | (with_reducible refine gO_i at_m4 ?_) | (with_reducible refine gO_i at_5 ?_) | (with_reducible refine gO_i at_m5 ?_) | (with_reducible refine gO_i at_6 ?_) | (with_reducible refine gO_i at_m6 ?_) | (with_reducible refine gO_i at_7 ?_) | (with_reducible refine gO_i at_m7 ?_) | (with_reducible refine IfB.ngf ?_) | (with_reducible refine IfB.ngt ?_) | (with_reducible refine IfB.not ?_) | (with_reducible refine IfB.nil ?_) | (with_reducible refine IfB.nilT ?_) | (with_reducible refine IfB.f isE_c ?_) | (with_reducible refine IfB.t isE_n ?_) | (with_reducible refine IfB.t ?gha ?_; (case gha => rfl)) | (with_reducible refine IfB.f ?gha ?_; (case gha => rfl)) | (with_reducible refine IfB.t ?gha ?_; (case gha => assumption)) | (with_reducible refine IfB.f ?gha ?_; (case gha => assumption)) | (with_reducible refine IfB.yes (Eq.refl _) ?_) | (with_reducible refine IfB.yes ?gha ?_; (case gha => (first | omega | (simp only [len_c, len_n, List.length_map]; omega)))) | (with_reducible refine IfB.no ?gha ?_; (case gha => (first | omega | (simp only [len_c, len_n, List.length_map]; omega)))) | (with_reducible refine IfB.t ?gha ?_; (case gha => decide +kernel)) | (with_reducible refine IfB.f ?gha ?_; (case gha => decide +kernel))); (with_reducible (conv => whnf))))))
local macro_rules
  | `(tactic| decreasing_trivial_pre_omega) => `(tactic| (decreasing_trivial; (repeat ((first | ((with_reducible refine And.intro ?gha ?_); (case gha => (first | assumption | omega | exact rfl | (exact mset_same) | (exact ⟨_, mset_same⟩) | (exact Exists.intro _ (by first | exact mset_same | assumption | (rw [mset_ne (by assumption)]; first | exact mset_same | assumption))) | (exact sm_of (by omega) (by omega)) | (exact sz1000 (by first | omega | (simp; done) | (simp; omega))) | (exact Or.inl ⟨by decide, by decide⟩) | decide | (simp; done) | (refine ⟨?_, ?_⟩ <;> (first | assumption | omega | exact rfl | (exact mset_same) | (exact ⟨_, mset_same⟩) | (exact Exists.intro _ (by first | exact mset_same | assumption | (rw [mset_ne (by assumption)]; first | exact mset_same | assumption))) | (exact sm_of (by omega) (by omega)) | (exact sz1000 (by first | omega | (simp; done) | (simp; omega))) | (exact Or.inl ⟨by decide, by decide⟩) | decide | (simp; done))) | (refine ⟨?_, ?_, ?_⟩ <;> (first | assumption | omega | exact rfl | (exact mset_same) | (exact ⟨_, mset_same⟩) | (exact Exists.intro _ (by first | exact mset_same | assumption | (rw [mset_ne (by assumption)]; first | exact mset_same | assumption))) | (exact sm_of (by omega) (by omega)) | (exact sz1000 (by first | omega | (simp; done) | (simp; omega))) | (exact Or.inl ⟨by decide, by decide⟩) | decide | (simp; done))) | (refine ⟨?_, ?_, ?_, ?_⟩ <;> (first | assumption | omega | exact rfl | (exact mset_same) | (exact ⟨_, mset_same⟩) | (exact Exists.intro _ (by first | exact mset_same | assumption | (rw [mset_ne (by assumption)]; first | exact mset_same | assumption))) | (exact sm_of (by omega) (by omega)) | (exact sz1000 (by first | omega | (simp; done) | (simp; omega))) | (exact Or.inl ⟨by decide, by decide⟩) | decide | (simp; done)))))) | (with_reducible refine exW (by first | exact mset_same | assumption | (rw [mset_ne (by assumption)]; first | exact mset_same | assumption)) ?_)); decreasing_trivial))))
def qFresh : Str := "_law_fresh_so" ++ ".<locals>." ++ "<lambda>"
@[reducible] def tfFreshSo (tp : Addr) : TF := fun ws M R _ => ∃ (d odd : PyData) (m : Nat) (b : Bool), ws = [.d d, .d (.bool b), .d odd] ∧ (TieB b d m ∧ txt odd = true ∧ odd.depth < 70 ∧ evenT odd = false ∧ M tp = some (.tab qFresh)) ∧ R (.d (.bool true)) M
theorem ni123 : ∀ x ∈ ([.int 1, .int 2, .int 3] : List PyData), ∃ i : Int, x = .int i ∧ 0 ≤ i ∧ i ≤ 6000 := all1 ⟨_, rfl, by decide, by decide⟩ (all1 ⟨_, rfl, by decide, by decide⟩ (all1 ⟨_, rfl, by decide, by decide⟩ all0))
theorem TieN.of {t : Tie} {xs : List PyData} (h : Is t xs) (hl : xs.length ≤ 1000) (hi : ∀ x ∈ xs, ∃ i : Int, x = .int i ∧ 0 ≤ i ∧ i ≤ 6000) : TieN t := ⟨h.ev, by rw [h.sz]; exact hl, fun x hx => hi x (by rw [← h.its]; exact hx)⟩
theorem TieB.ok {b : Bool} {d : PyData} {m : Nat} (h : TieB b d m) : OkT d ∧ evenT d = b := by
  rcases h with ⟨rfl, t, rfl, ht, _⟩ | ⟨rfl, x1, x2, x3⟩
  · exact ⟨.of ht, ht.even⟩
  · exact ⟨⟨x1, x2, .inl x3⟩, x3⟩
theorem no_bad {xs : List PyData} (hl : xs.length ≤ 1000) (hi : ∀ x ∈ xs, ∃ i : Int, x = .int i ∧ 0 ≤ i ∧ i ≤ 6000) : ¬ (1000 < xs.length ∨ ∃ x ∈ xs, isItem x = false) := fun z => by
  rcases z with z | ⟨x, hx, e⟩
  · omega
  · obtain ⟨i, rfl, _⟩ := hi x hx
    cases e
section
variable {P : Program} {w : World} {K : PySem.W.Frag} {mg : Str → Option Value} {base : Heap}
abbrev sFreshSo : Stmt := top 48
theorem scFreshSo : FnScope ["_law_tie", "_law_is_tie", "_law_odd", "_law_good", "_law_due_here"] ["_law_tie", "_law_is_tie", "_law_odd"] (defScope sFreshSo) := ⟨rfl, rfl, rfl, by decide +kernel, rfl, by decide +kernel, by decide +kernel⟩
theorem ok_freshSo {f c tp : Addr} {fd : FuncData} {k j : Nat} (F : Fun K "_law_fresh_so" "_law_fresh_so" sFreshSo f fd) (hc : fd.code = .ref c) (TB : LamX.TabB base mg c tp) (A : Cls K mg) (U_law_word : UseT P w K mg base "_law_word" "_law_call" (gWord A.c_NoTie A.c_NoItem)) (Utied : UseX P w K mg base "tied" ["items"] j (spD K 1 (tfTied A.c_NoTie))) (Ufresh : UseX P w K mg base "fresh" ["tie", "some"] j (spD K 2 (tfFreshX A.c_NoTie))) (hj : j + 2 ≤ k) (T : Bl mg) : FnOk P w K mg base CX0 (k + 1) f fd ["_law_tie", "_law_is_tie", "_law_odd"] (spD K 3 (tfFreshSo tp)) := by
  refine okDC F scFreshSo rfl hc fun A' outer s H E hr => ?_
  refine ⟨_, _, (pss_cons (ps_set (i := 3) scFreshSo.nd rfl (.inr rfl) (pe_callS Utied.ok (hr.mono (by omega)) rfl Utied.m Utied.kp Utied.b (fun σ => passAt takes0 σ) (pa_cons (pe_lst (pa_cons pe_int (pa_cons pe_int (pa_cons pe_int pa_nil)))) pa_nil)))
    (pss_cons (ps_set (i := 4) scFreshSo.nd rfl (.inl rfl) (pe_ix ix_list (pe_lst (pa_cons (pe_lst (pa_cons pe_str (pa_cons pe_bl pa_nil))) (pa_cons (pe_lst (pa_cons pe_str pa_nil)) pa_nil))) (pe_callTy call_int1 (by rfl) T.int PyProof.Rows.boot_int (pa_cons (pv 1) pa_nil)) (fun _ _ => rfl)))
    (pss_cons (ps_if (pt_cmpR (op_neD hr.units) (pe_word (P := tp) (k := j) U_law_word (by rfl) TB rfl (show _ = qFresh from rfl) (hr.mono (by omega)) (LamX.lamS_by (show LamX.lamSB (defScope sFreshSo) _ = true by decide +kernel)) rfl (fun _ _ _ _ _ => rfl) (fun A outer s H E0 f c' hr => (pe_callS Ufresh.ok (hr.mono (by omega)) rfl Ufresh.m Ufresh.kp Ufresh.b (fun σ => passAt (takes_of (E := E0) rfl rfl rfl rfl) σ) (pa_cons (pv 0) (pa_cons (pe_lst (pa_cons (pv 3) pa_nil)) pa_nil))))) (pv 4) (nomark _)) (pss_one (ps_ret pe_bl)) pss_nil)
    (pss_cons (ps_if (pt_cmpR (op_neD hr.units) (pe_word (P := tp) (k := j) U_law_word (by rfl) TB rfl (show _ = qFresh from rfl) (hr.mono (by omega)) (LamX.lamS_by (show LamX.lamSB (defScope sFreshSo) _ = true by decide +kernel)) rfl (fun _ _ _ _ _ => rfl) (fun A outer s H E0 f c' hr => (pe_callS Ufresh.ok (hr.mono (by omega)) rfl Ufresh.m Ufresh.kp Ufresh.b (fun σ => passAt (takes_of (E := E0) rfl rfl rfl rfl) σ) (pa_cons (pv 0) (pa_cons (pe_lst pa_nil) pa_nil))))) (pv 4) (nomark _)) (pss_one (ps_ret pe_bl)) pss_nil)
    (pss_cons (ps_if (pt_cmpR (op_neD hr.units) (pe_word (P := tp) (k := j) U_law_word (by rfl) TB rfl (show _ = qFresh from rfl) (hr.mono (by omega)) (LamX.lamS_by (show LamX.lamSB (defScope sFreshSo) _ = true by decide +kernel)) rfl (fun _ _ _ _ _ => rfl) (fun A outer s H E0 f c' hr => (pe_callS Ufresh.ok (hr.mono (by omega)) rfl Ufresh.m Ufresh.kp Ufresh.b (fun σ => passAt (takes_of (E := E0) rfl rfl rfl rfl) σ) (pa_cons (pv 3) (pa_cons (pe_lst (pa_cons pe_non (pa_cons (pv 0) pa_nil))) pa_nil))))) (pv 4) (nomark _)) (pss_one (ps_ret pe_bl)) pss_nil)
    (pss_one (ps_ret (pe_cmpR (op_eqD hr.units) (pe_word (P := tp) (k := j) U_law_word (by rfl) TB rfl (show _ = qFresh from rfl) (hr.mono (by omega)) (LamX.lamS_by (show LamX.lamSB (defScope sFreshSo) _ = true by decide +kernel)) rfl (fun _ _ _ _ _ => rfl) (fun A outer s H E0 f c' hr => (pe_callS Ufresh.ok (hr.mono (by omega)) rfl Ufresh.m Ufresh.kp Ufresh.b (fun σ => passAt (takes_of (E := E0) rfl rfl rfl rfl) σ) (pa_cons (pv 3) (pa_cons (pe_lst (pa_cons (pv 3) (pa_cons (pv 2) pa_nil))) pa_nil))))) (pe_lst (pa_cons pe_str (pa_cons pe_bl pa_nil))) (nomark _))))))))),
    (ss_cons (ss_set (se_callX (sa_cons (se_lsf (sa_cons se_int (sa_cons se_int (sa_cons se_int sa_nil)))) sa_nil)))
    (ss_cons (ss_set (se_op so_ixL (se_lsf (sa_cons (se_lsf (sa_cons se_str (sa_cons se_bl sa_nil))) (sa_cons (se_lsf (sa_cons se_str sa_nil)) sa_nil))) (se_cb sc_int (sa_cons se_nm sa_nil))))
    (ss_cons (ss_if (st_test (se_op so_neD (se_lamT (fun E0 RE => (se_callX (sa_cons se_nm (sa_cons (se_lsf (sa_cons se_nm sa_nil)) sa_nil))))) se_nm)) (ss_ret se_bl) ss_nil)
    (ss_cons (ss_if (st_test (se_op so_neD (se_lamT (fun E0 RE => (se_callX (sa_cons se_nm (sa_cons (se_lsf sa_nil) sa_nil))))) se_nm)) (ss_ret se_bl) ss_nil)
    (ss_cons (ss_if (st_test (se_op so_neD (se_lamT (fun E0 RE => (se_callX (sa_cons se_nm (sa_cons (se_lsf (sa_cons se_non (sa_cons se_nm sa_nil))) sa_nil))))) se_nm)) (ss_ret se_bl) ss_nil)
    (ss_ret (se_op so_eqD (se_lamT (fun E0 RE => (se_callX (sa_cons se_nm (sa_cons (se_lsf (sa_cons se_nm (sa_cons se_nm sa_nil))) sa_nil))))) (se_lsf (sa_cons se_str (sa_cons se_bl sa_nil)))))))))), fun ws M R RX hl h => ?_⟩
  obtain ⟨d, odd, m, b, rfl, ⟨hd, o1, o2, o3, hM⟩, h2⟩ := h
  simp only [start0, len_c, len_n, map_c, map_n, app_c, app_n, rep_0, rep_s, Nat.reduceAdd, Nat.reduceSub]
  decreasing_trivial_pre_omega
  refine .inl ?_
  decreasing_trivial_pre_omega
  refine ⟨fun z => absurd z (no_bad (by simp) ni123), fun _ _ g hg => ?_⟩
  have hgn := TieN.of hg (by simp) ni123
  obtain ⟨od, ed⟩ := hd.ok
  have og := OkT.of hgn
  have eg := hgn.even
  have q1 := eq_tie
  have q2 := eq_told
  have q5 := ne_tie
  have q6 := eq_tt
  have q7 := eq_nn
  have on : OkT .none := OkT.of (t := .nil) ⟨trivial, by decide, fun x hx => by cases hx⟩
  have en : evenT .none = true := on.or.elim (fun z => by cases z) fun ⟨t, e, h⟩ => by rw [e]; exact h.even
  have oo : OkT odd := ⟨o1, o2, .inl o3⟩
  cases b with
  | false =>
    decreasing_trivial_pre_omega
    refine ⟨⟨od, all1 og all0, by simp⟩, fun _ => .inl ⟨rfl, ?_⟩, fun z => by rw [ed] at z; cases z⟩
    decreasing_trivial_pre_omega

    refine ⟨fun _ => .inl ⟨rfl, ?_⟩, fun z => by rw [ed] at z; cases z⟩
    decreasing_trivial_pre_omega
    refine ⟨⟨og, all1 on (all1 od all0), by simp⟩, fun _ => .inl ⟨rfl, ?_⟩, fun _ z => by have := z d (by simp); rw [ed] at this; cases this⟩
    decreasing_trivial_pre_omega
    refine ⟨⟨og, all1 og (all1 oo all0), by simp⟩, fun _ => .inl ⟨rfl, ?_⟩, fun _ z => by have := z odd (by simp); rw [o3] at this; cases this⟩
    decreasing_trivial_pre_omega
    exact h2
  | true =>
    decreasing_trivial_pre_omega
    refine ⟨⟨od, all1 og all0, by simp⟩, fun z => ?_, fun _ _ n => ?_⟩
    · rcases z with z | ⟨e, he, z⟩
      · rw [ed] at z; cases z
      · rw [List.mem_singleton.mp he, eg] at z; cases z
    decreasing_trivial_pre_omega
    refine ⟨fun z => ?_, fun _ _ n => ?_⟩
    · rcases z with z | ⟨e, he, z⟩
      · rw [ed] at z; cases z
      · cases he
    decreasing_trivial_pre_omega
    refine ⟨⟨og, all1 on (all1 od all0), by simp⟩, fun z => ?_, fun _ _ n => ?_⟩
    · rcases z with z | ⟨e, he, z⟩
      · rw [eg] at z; cases z
      · simp only [List.mem_cons, List.not_mem_nil, or_false] at he
        rcases he with rfl | rfl
        · rw [en] at z; cases z
        · rw [ed] at z; cases z
    decreasing_trivial_pre_omega
    refine ⟨⟨og, all1 og (all1 oo all0), by simp⟩, fun _ => .inl ⟨rfl, ?_⟩, fun _ z => by have := z odd (by simp); rw [o3] at this; cases this⟩
    decreasing_trivial_pre_omega
    exact h2
end
end Tl
set_option Elab.async false
set_option linter.all false
set_option maxRecDepth 100000
set_option maxHeartbeats 4000000
/-! A law that makes lambdas itself, and calls defs that make some: tables of code known by name. -/
namespace Tl
open PySem PySem.Spec PyProof.Rows L2
section
variable {P : Program} {w : World} {K : PySem.W.Frag} {mg : Str → Option Value} {base : Heap}
theorem mem_lk {b : Addr} {q : Str} : ∀ {l : List (Addr × Str)}, l.lookup b = some q → (b, q) ∈ l
  | [], h => by cases h
  | (p, x) :: r, h => by
    by_cases e : b = p
    · subst e
      have h' : (match b == b with | true => some x | false => r.lookup b) = some q := h
      rw [beq_self_eq_true] at h'
      cases h'
      exact .head _
    · have h' : (match b == p with | true => some x | false => r.lookup b) = some q := h
      rw [beq_eq_false_iff_ne.mpr e] at h'
      exact .tail _ (mem_lk h')
open Classical in
theorem src_newTs {H : Hp} {sa c : Addr} {cs : List Int} {z : Int} {ts : List (Addr × Str)} (hS : SqL K H c (cs.map V.int)) (h1 : H sa = none) (l1 : cs.length ≤ 63) (z0 : 0 ≤ z) (z1 : z < 2305843009213693951) (hT : ∀ t ∈ ts, H t.1 = some (.tbl #[])) (nd : (ts.map (·.1)).Nodup) :
    ∃ F M, Rl K F (upd H sa (.lst [.ref c, .int 0, .int 0, .int z])) M ∧ M sa = some (.src false) ∧ ∀ t ∈ ts, M t.1 = some (.tab t.2) := by
  have nts : ∀ t ∈ ts, t.1 ≠ sa := fun t ht e => by
    have := hT t ht
    rw [e, h1] at this
    cases this
  have hF : SqL K (fun b => if b = c ∧ ∀ t ∈ ts, t.1 ≠ b then H b else none) c (cs.map V.int) := by
    rcases hS with (h | ⟨o, h⟩) | h
    · refine .inl (.inl ?_)
      show (if c = c ∧ ∀ t ∈ ts, t.1 ≠ c then H c else none) = _
      rw [if_pos ⟨rfl, fun t ht e => by have := hT t ht; rw [e, h] at this; cases this⟩]
      exact h
    · refine .inl (.inr ⟨o, ?_⟩)
      show (if c = c ∧ ∀ t ∈ ts, t.1 ≠ c then H c else none) = _
      rw [if_pos ⟨rfl, fun t ht e => by have := hT t ht; rw [e, h] at this; cases this⟩]
      exact h
    · exact .inr h
  have look : ∀ {l : List (Addr × Str)}, (l.map (·.1)).Nodup → ∀ t ∈ l, l.lookup t.1 = some t.2 := by
    intro l
    induction l with
    | nil => intro _ t ht; cases ht
    | cons x r ih =>
      intro nd t ht
      rw [List.map_cons, List.nodup_cons] at nd
      rcases List.mem_cons.mp ht with rfl | ht2
      · obtain ⟨p, q⟩ := t
        show (match p == p with | true => some q | false => _) = _
        rw [beq_self_eq_true]
      · obtain ⟨p, q⟩ := x
        have ne : (t.1 == p) = false := by
          rw [beq_eq_false_iff_ne]
          intro e
          exact nd.1 (List.mem_map.mpr ⟨t, ht2, e⟩)
        show (match t.1 == p with | true => some q | false => _) = _
        rw [ne]
        exact ih nd.2 t ht2
  have mem : ∀ {b : Addr} {q : Str}, ts.lookup b = some q → ∃ t ∈ ts, t.1 = b ∧ t.2 = q := fun {b q} e => ⟨(b, q), mem_lk e, rfl, rfl⟩
  refine ⟨fun b => if b = c ∧ ∀ t ∈ ts, t.1 ≠ b then H b else none, fun b => if b = sa then some (.src false) else (ts.lookup b).map MO.tab, ⟨fun b u q => ?_, fun b o q => ?_, fun b o q => ?_⟩, if_pos rfl, fun t ht => ?_⟩
  · have q' : (if b = c ∧ ∀ t ∈ ts, t.1 ≠ b then H b else none) = some u := q
    split at q'
    · have n : b ≠ sa := fun z => by rw [z, h1] at q'; cases q'
      rw [upd_ne n]
      exact q'
    · cases q'
  · have q' : (if b = sa then some (MO.src false) else (ts.lookup b).map MO.tab) = some o := q
    show (if b = c ∧ ∀ t ∈ ts, t.1 ≠ b then H b else none) = none
    split at q'
    · rename_i e
      rw [e, h1]
      split <;> rfl
    · obtain ⟨q2, e2, _⟩ := Option.map_eq_some_iff.mp q'
      obtain ⟨t, ht, e3, _⟩ := mem e2
      rw [if_neg (fun z => z.2 t ht e3)]
  · have q' : (if b = sa then some (MO.src false) else (ts.lookup b).map MO.tab) = some o := q
    split at q'
    · rename_i e
      cases q'
      exact ⟨_, by rw [e]; exact upd_same, _, rfl, c, cs, 0, 0, z, rfl, hF, l1, (fun h => by cases h), by decide, by decide, z0, by rw [if_neg (by decide)]; exact z1⟩
    · rename_i e
      obtain ⟨q2, e2, rfl⟩ := Option.map_eq_some_iff.mp q'
      obtain ⟨t, ht, e3, _⟩ := mem e2
      exact ⟨_, by rw [upd_ne e, ← e3]; exact hT t ht, tab0 q2⟩
  · show (if t.1 = sa then some (MO.src false) else (ts.lookup t.1).map MO.tab) = _
    rw [if_neg (nts t ht), look nd t ht]
    rfl
/-- law_at2, its own code and some tables known -/
theorem law_atT2 {f cO : Addr} {fd : FuncData} {k : Nat} {st : Stmt} {N : List Str} {s : Shared} {H : Hp} {a : Addr} {ns : List Int} {z : Int} {ts : List (Addr × Str)} (F : Fun K "law" "law" st f fd) (hc : fd.code = .ref cO) (S : FnScope N ["_law_script"] (defScope st)) (hlen : ns.length ≤ 63) (hS : SqL K H a (ns.map V.int)) (e0 : Env0 P w K mg base callerA [] s H) (hk : Room (k + 1) callerA) (hbi : Binds K fd ["_law_script"] []) (z0 : 0 ≤ z) (z1 : z < 2305843009213693951)
    (hT : ∀ t ∈ ts, H t.1 = some (.tbl #[])) (nd : (ts.map (·.1)).Nodup)
    (hb : (callerA.deeper (envOfC "law" (defScope st) s.heap.objs.size f (.ref cO))).guards = some [] → Room k (callerA.deeper (envOfC "law" (defScope st) s.heap.objs.size f (.ref cO))) →
      ∃ (t : TS) (T : TDS), PSs (cxOf CX0 P w K mg base N "law" (defScope st) f (.ref cO) callerA [] s H (fun _ _ _ => False)).nox (defBody st) (tSeq (tAsg (tLst (tCons (tVar 0) (tCons (tC (.int 0)) (tCons (tC (.int 0)) (tCons (tC (.int z)) tNil))))) (gName 1)) t) ∧ SSt K (fun _ _ _ _ => False) (fun _ _ _ => False) t T ∧
        ∀ (sa : Addr) (M : Mem), M sa = some (.src false) ∧ (∀ t ∈ ts, M t.1 = some (.tab t.2)) → T (endD fun x _ => x = .d (.bool true)) (put (start0 N.length [.o (.ref a)]) 1 (some (.r sa))) M) :
    codeAny (model P w) callerA (.call (.ref f) ⟨[.ref a], []⟩) (CR CX0 [] P w H s (fun v _ => v = V.bl true) fun _ _ _ => False) s := by
  have KX : K.In s.heap := e0.mod.kin.keeps fun b o q => (e0.bs b o q).1
  obtain ⟨oc, od, kV, doc, pm, an, cdv, ct, osl, rfl, lk, hcd⟩ := F.ex
  have ec : cdv = .ref cO := hc
  subst ec
  refine LamX.run_ofS (k := k) (vs := [V.ref a]) (us := [Value.ref a]) lk hcd S hk e0 (hbi s [.ref a] KX rfl) (.cons rfl .nil) rfl (fun hr => ?_)
  obtain ⟨t, T, h1, h2, h3⟩ := hb rfl hr
  refine ⟨_, h1.nox, ?_⟩
  have hst : L2.start N [V.ref a] = some (V.ref a) :: List.replicate (N.length - 1) none := rfl
  refine ⟨V.ref a, by rw [hst]; rfl, by show 4 ≤ sizeLine; decide, fun sa hsa => ?_⟩
  obtain ⟨F1, M1, r1, hM, hM2⟩ := src_newTs (K := K) hS hsa hlen z0 z1 hT nd
  refine h2 F1 _ M1 _ _ _ _ r1 (fun F' H' M' σ ρ cls d x _ _ _ _ z => z) ?_ (h3 sa M1 ⟨hM, hM2⟩) ?_
  · exact (rel_start (N := N) (K := K) (F := F1) (.cons (.o (V.ref a)) .nil)).set (.r sa) 1
  · exact ek_def (Q := fun v _ => v = V.bl true) fun v H2 F2 M2 x r g rx q => by
      subst q
      exact rx.bl
end
end Tl
set_option Elab.async false
set_option linter.all false
set_option maxRecDepth 100000
set_option maxHeartbeats 4000000
/-! list * number -/
namespace Tl
open PySem L2
variable {K : PySem.W.Frag}
theorem RWs.rep {F : Hp} {vs : List V} {xs : List W} (h : RWs K F vs xs) : ∀ n : Nat, RWs K F (List.replicate n vs).flatten (List.replicate n xs).flatten
  | 0 => .nil
  | n + 1 => by
    rw [List.replicate_succ, List.replicate_succ, List.flatten_cons, List.flatten_cons]
    exact h.app (RWs.rep h n)
@[reducible] def fRepF : F2 := fun x y M R => gW M x fun a => gI y fun n => gDs a fun a => (0 ≤ n ∧ n ≤ 1000 ∧ a.length * n.toNat ≤ sizeLine) ∧ R (.d (.list (List.replicate n.toNat a).flatten)) M
theorem so_repF : SO K rRep fRepF := fun F H M v u x y R Q hr rx ry hf k => by
  obtain ⟨p, vs, ws, rfl, h1, h2, h3⟩ := gW_of hr rx hf
  obtain ⟨n, rfl, h4⟩ := gI_of h3
  obtain ⟨a, rfl, ⟨c1, c2, c3⟩, h6⟩ := gDs_of h4
  refine ⟨p, n, vs, rfl, ry.int, h1, by omega, by omega, by rw [h2.len, List.length_map]; exact c3, fun t ht => ?_⟩
  obtain ⟨r2, g2, rz⟩ := hr.list ht (h2.undat.rep n.toNat)
  exact k _ _ _ _ _ r2 g2 rz h6
end Tl
set_option Elab.async false
set_option linter.all false
set_option maxRecDepth 100000
set_option maxHeartbeats 16000000
namespace Tl
open PySem L2 RZ Tie
local macro_rules
  | `(tactic| decreasing_trivial) => `(tactic| ((with_reducible (conv => whnf)); (repeat ((first | (with_reducible refine gTie_i ?_) | (with_reducible refine gTie_n ?_) | (with_reducible refine gTie_4 ?_) | (with_reducible refine gDs_c ?_) | (with_reducible refine gDs_n ?_) | (with_reducible refine gNs_c ?_) | (with_reducible refine gNs_n ?_) | (with_reducible refine gO_i tyAny_lt ?_) | (with_reducible refine gIs_c ?_) | (with_reducible refine gIs_n ?_) | (with_reducible refine gBs_c ?_) | (with_reducible refine gBs_n ?_) | (with_reducible refine gSs_c ?_) | (with_reducible refine gSs_n ?_) | (with_reducible refine gO_i tyIs_int ?_) | (with_reducible refine gO_i tyIs_bool ?_) | (with_reducible refine gO_i tyIs_str ?_) | (with_reducible refine gO_i tyIs_tuple ?_) | (with_reducible refine gO_i tyIs_list ?_) | (with_reducible refine gDs_i ?_) | (with_reducible refine gO_i (Eq.refl _) ?_) | (with_reducible refine gO_i (by assumption) ?_) | (with_reducible refine gO_i at_0 ?_) | (with_reducible refine gO_i at_m0 ?_) | (with_reducible refine gO_i at_1 ?_) | (with_reducible refine gO_i at_m1 ?_) | (with_reducible refine gO_i at_2 ?_) | (with_reducible refine gO_i at_m2 ?_) | (with_reducible refine gO_i at_3 ?_) | (with_reducible refine gO_i at_m3 ?_) | (with_reducible refine gO_i at_4 ?_) | (with_reducible refine gO_i at_m4 ?_) | (with_reducible refine gO_i at_5 ?_) | (with_reducible refine gO_i at_m5 ?_) | (with_reducible refine gO_i at_6 ?_) | (with_reducible refine gO_i at_m6 ?_) | (with_reducible refine gO_i at_7 ?_) | (with_reducible refine gO_i at_m7 ?_) | (with_reducible refine IfB.ngf ?_) | (with_reducible refine IfB.ngt ?_) | (with_reducible refine IfB.not ?_) | (with_reducible refine IfB.nil ?_) | (with_reducible refine IfB.nilT ?_) | (with_reducible refine IfB.f isE_c ?_) | (with_reducible refine IfB.t isE_n ?_) | (with_reducible refine IfB.t ?gha ?_; (case gha => rfl)) | (with_reducible refine IfB.f ?gha ?_; (case gha => rfl)) | (with_reducible refine IfB.t ?gha ?_; (case gha => assumption)) | (with_reducible refine IfB.f ?gha ?_; (case gha => assumption)) | (with_reducible refine IfB.yes (Eq.refl _) ?_) | (with_reducible refine IfB.yes ?gha ?_; (case gha => (first | omega | (simp only [len_c, len_n, List.length_map]; omega)))) | (with_reducible refine IfB.no ?gha ?_; (case gha => (first | omega | (simp only [len_c, len_n, List.length_map]; omega)))) | (with_reducible refine IfB.t ?gha ?_; (case gha => decide +kernel)) | (with_reducible refine IfB.f ?gha ?_; (case gha => decide +kernel))); (with_reducible (conv => whnf))))))
local macro_rules
  | `(tactic| decreasing_trivial_pre_omega) => `(tactic| (decreasing_trivial; (repeat ((first | ((with_reducible refine And.intro ?gha ?_); (case gha => (first | assumption | omega | exact rfl | (exact mset_same) | (exact ⟨_, mset_same⟩) | (exact Exists.intro _ (by first | exact mset_same | assumption | (rw [mset_ne (by assumption)]; first | exact mset_same | assumption))) | (exact sm_of (by omega) (by omega)) | (exact sz1000 (by first | omega | (simp; done) | (simp; omega))) | (exact Or.inl ⟨by decide, by decide⟩) | decide | (simp; done) | (refine ⟨?_, ?_⟩ <;> (first | assumption | omega | exact rfl | (exact mset_same) | (exact ⟨_, mset_same⟩) | (exact Exists.intro _ (by first | exact mset_same | assumption | (rw [mset_ne (by assumption)]; first | exact mset_same | assumption))) | (exact sm_of (by omega) (by omega)) | (exact sz1000 (by first | omega | (simp; done) | (simp; omega))) | (exact Or.inl ⟨by decide, by decide⟩) | decide | (simp; done))) | (refine ⟨?_, ?_, ?_⟩ <;> (first | assumption | omega | exact rfl | (exact mset_same) | (exact ⟨_, mset_same⟩) | (exact Exists.intro _ (by first | exact mset_same | assumption | (rw [mset_ne (by assumption)]; first | exact mset_same | assumption))) | (exact sm_of (by omega) (by omega)) | (exact sz1000 (by first | omega | (simp; done) | (simp; omega))) | (exact Or.inl ⟨by decide, by decide⟩) | decide | (simp; done))) | (refine ⟨?_, ?_, ?_, ?_⟩ <;> (first | assumption | omega | exact rfl | (exact mset_same) | (exact ⟨_, mset_same⟩) | (exact Exists.intro _ (by first | exact mset_same | assumption | (rw [mset_ne (by assumption)]; first | exact mset_same | assumption))) | (exact sm_of (by omega) (by omega)) | (exact sz1000 (by first | omega | (simp; done) | (simp; omega))) | (exact Or.inl ⟨by decide, by decide⟩) | decide | (simp; done)))))) | (with_reducible refine exW (by first | exact mset_same | assumption | (rw [mset_ne (by assumption)]; first | exact mset_same | assumption)) ?_)); decreasing_trivial))))
def qLaw : Str := "law" ++ ".<locals>." ++ "<lambda>"
theorem rg_ni {z : Int} (hz : z ≤ 1001) : ∀ x ∈ rgD 0 z, ∃ i : Int, x = .int i ∧ 0 ≤ i ∧ i ≤ 6000 := fun x hx => by
  unfold rgD at hx
  obtain ⟨i, hi, rfl⟩ := List.mem_map.mp hx
  have := List.mem_range.mp hi
  exact ⟨_, rfl, by omega, by omega⟩
theorem ni_txt {xs : List PyData} (h : ∀ x ∈ xs, ∃ i : Int, x = .int i ∧ 0 ≤ i ∧ i ≤ 6000) : txtAll xs = true := by
  induction xs with
  | nil => rfl
  | cons a r ih =>
    obtain ⟨i, rfl, _⟩ := h a (.head _)
    rw [txtAll, ih fun x hx => h x (.tail _ hx)]
    rfl
def WRG : List PyData := [.int 5, .str "a", .tuple [], .list [], .tuple [.none, .int 1, .none, .int 2], .dict [], .bool true, .tuple [.int 1, .int 2, .int 3, .int 4]]
theorem wrg_bad : ∀ d ∈ WRG, txt d = true ∧ d.depth < 70 ∧ evenT d = false := by
  refine all1 ?_ (all1 ?_ (all1 ?_ (all1 ?_ (all1 ?_ (all1 ?_ (all1 ?_ (all1 ?_ all0))))))) <;> exact ⟨by decide +kernel, by decide +kernel, by decide +kernel⟩
def ATS (n r : Int) : List PyData := [.none, .bool true, .int (-1), .int n, .int (n + 1), .str "0", .tuple [.int 0], .int r]
theorem at_int (i : Int) : AtOk (.int i) := by
  refine ⟨rfl, ?_⟩
  unfold eqOk
  rw [Bool.and_eq_true]
  exact ⟨rfl, flat_shaped (by rw [List.all_cons, List.all_cons, List.all_cons, List.all_nil, show flatD (.str "NoItem") = true by decide +kernel]; rfl)⟩
theorem ats_ok (n r : Int) : ∀ d ∈ ATS n r, AtOk d := all1 ⟨rfl, by decide +kernel⟩ (all1 ⟨rfl, by decide +kernel⟩ (all1 (at_int _) (all1 (at_int _) (all1 (at_int _) (all1 ⟨by decide +kernel, by decide +kernel⟩ (all1 ⟨by decide +kernel, by decide +kernel⟩ (all1 (at_int _) all0)))))))
theorem due_no {a : PyData} {m : Int} (h : isNum m a = false) : dueL true a m = [.str "NoItem", a, .bool true] := by
  unfold dueL
  rw [if_pos rfl, if_neg (by rw [h]; exact Bool.false_ne_true)]
theorem due_yes {a : PyData} {m : Int} (h : isNum m a = true) : dueL true a m = [.str "told"] := by
  unfold dueL
  rw [if_pos rfl, if_pos h]
theorem due_f {a : PyData} {m : Int} : dueL false a m = [.str "NoTie", .bool true] := rfl
theorem gO_atW {ws : List W} {r : Int} {k : W → Prop} (Pq : W → Prop) (h0 : 0 ≤ r) (h1 : r < (ws.length : Nat)) (hp : ∀ d ∈ ws, Pq d) (q : ∀ d, Pq d → k d) : gO (atI ws r) k := by
  obtain ⟨d, e, hm⟩ := at_mem (xs := ws) h0 h1
  exact gO_i e (q d (hp d hm))
/-- what is no list of items -/
def NonT (p2 : Addr) (w : W) : Prop := (∃ xs, w = .d (.list xs) ∧ txtAll xs = true ∧ ∃ x ∈ xs, isItem x = false) ∨ (∃ xs, w = .d (.tuple xs) ∧ (txtAll xs = true ∧ xs.length ≤ 1000 ∧ ∃ x ∈ xs, isItem x = false)) ∨ (∃ d, w = .d d ∧ notSeq d = true) ∨ w = .r p2
theorem tied_non {C p2 : Addr} {w : W} {M : Mem} {R : W → Mem → Prop} {RX : Ex → Mem → Prop} {kw : List (L2.Key × W)} (h : NonT p2 w) (h2 : M p2 = some (.dK kw)) (q : RX ⟨.ref C, []⟩ M) : tfTied C [w] M R RX := by
  rcases h with ⟨xs, rfl, a, b⟩ | ⟨xs, rfl, a⟩ | ⟨d, rfl, a⟩ | rfl
  · refine .inl ?_
    decreasing_trivial_pre_omega
    exact ⟨fun _ => q, fun _ z => by obtain ⟨x, hx, e⟩ := b; have := z x hx; rw [e] at this; cases this⟩
  · refine .inr (.inl ?_)
    decreasing_trivial_pre_omega
    exact q
  · refine .inr (.inr (.inl ?_))
    decreasing_trivial_pre_omega
    exact q
  · refine .inr (.inr (.inr ?_))
    decreasing_trivial_pre_omega
    exact q
theorem nons (p2 : Addr) : ∀ w ∈ [W.d .none, .d (.int 5), .d (.bool true), .d (.dict []), .r p2, .d (.tuple [.none, .int 1, .none, .int 1]), .d (.list [.list [.int 1]]), .d (.list [.dict []]), .d (.tuple [.int 1, .none]), .d (.list ([.tuple []] ++ [.none]))], NonT p2 w := by
  refine all1 (.inr (.inr (.inl ⟨_, rfl, rfl⟩))) (all1 (.inr (.inr (.inl ⟨_, rfl, rfl⟩))) (all1 (.inr (.inr (.inl ⟨_, rfl, rfl⟩))) (all1 (.inr (.inr (.inl ⟨_, rfl, rfl⟩))) (all1 (.inr (.inr (.inr rfl))) (all1 (.inr (.inl ⟨_, rfl, by decide +kernel, by decide, .none, by simp, by decide +kernel⟩)) (all1 (.inl ⟨_, rfl, by decide +kernel, .list [.int 1], by simp, by decide +kernel⟩) (all1 (.inl ⟨_, rfl, by decide +kernel, .dict [], by simp, by decide +kernel⟩) (all1 (.inr (.inl ⟨_, rfl, by decide +kernel, by decide, .none, by simp, by decide +kernel⟩)) (all1 (.inl ⟨_, rfl, by decide +kernel, .none, by simp, by decide +kernel⟩) all0)))))))))
theorem ni1 : ∀ x ∈ ([.int 1] : List PyData), ∃ i : Int, x = .int i ∧ 0 ≤ i ∧ i ≤ 6000 := all1 ⟨_, rfl, by decide, by decide⟩ all0
theorem ni12 : ∀ x ∈ ([.int 1, .int 2] : List PyData), ∃ i : Int, x = .int i ∧ 0 ≤ i ∧ i ≤ 6000 := all1 ⟨_, rfl, by decide, by decide⟩ (all1 ⟨_, rfl, by decide, by decide⟩ all0)
theorem odd_ok : ∀ d ∈ ([.none, .bool true, .list [.int 1], .dict [], .tuple [.none], .tuple [.int 1, .list [.int 2]]] : List PyData), txt d = true ∧ isItem d = false := by
  refine all1 ?_ (all1 ?_ (all1 ?_ (all1 ?_ (all1 ?_ (all1 ?_ all0))))) <;> exact ⟨by decide +kernel, by decide +kernel⟩
theorem seatOk.of {C : Addr} {i m : Nat} {RX : Ex → Mem → Prop} {M : Mem} {k : Nat → Prop} (h : i < m) (q : k i) : seatOk C (.int (i : Int)) m RX M k := by
  refine ⟨rfl, fun c => ?_, fun j e _ => ?_⟩
  · have e : isNum ((m : Int) - 1) (.int (i : Int)) = (decide (0 ≤ (i : Int)) && decide ((i : Int) ≤ (m : Int) - 1)) := rfl
    rw [e, decide_eq_true (by omega), decide_eq_true (by omega)] at c
    cases c
  · have : i = j := by injection e with e; omega
    rw [← this]
    exact q
theorem bad_ok : ∀ d ∈ ([.none, .bool true, .list [.int 1], .dict [], .tuple [.none], .tuple [.int 1, .list [.int 2]], .tuple (List.replicate 9 [.int 1]).flatten] : List PyData), txt d = true ∧ isItem d = false := by
  refine all1 ?_ (all1 ?_ (all1 ?_ (all1 ?_ (all1 ?_ (all1 ?_ (all1 ?_ all0)))))) <;> exact ⟨by decide +kernel, by decide +kernel⟩
section
variable {P : Program} {w : World} {K : PySem.W.Frag} {mg : Str → Option Value} {base : Heap}
abbrev sLSteps : Stmt := top 49
theorem scLSteps : FnScope ["_law_many", "_law_found", "_law_left"] ["_law_many"] (defScope sLSteps) := ⟨rfl, rfl, rfl, by decide +kernel, rfl, by decide +kernel, by decide +kernel⟩
theorem ok_lSteps {f : Addr} {fd : FuncData} {k : Nat} (F : Fun K "_law_steps" "_law_steps" sLSteps f fd) (T : Bl mg) : FnOk P w K mg base CX0 (k + 1) f fd ["_law_many"] (spD K 1 tfSteps) := by
  refine okD F scLSteps rfl fun cdv A outer s H E hr => ?_
  refine ⟨_, _, (pss_cons (ps_set (i := 1) scLSteps.nd rfl (.inl rfl) pe_int)
    (pss_cons (ps_set (i := 2) scLSteps.nd rfl (.inl rfl) (pe_op op_add (pv 0) pe_int))
    (pss_cons (ps_while PassesOwn.never (pt_cmpR op_gt (pv 2) pe_int (nomark _)) (pss_cons (ps_set (i := 2) scLSteps.nd rfl (.inl rfl) (pe_op op_fdivN (pe_op op_mul pe_int (pv 2)) pe_int))
      (pss_one (ps_set (i := 1) scLSteps.nd rfl (.inl rfl) (pe_op op_add (pv 1) pe_int)))))
    (pss_one (ps_ret (pv 1)))))),
    (ss_cons (ss_set se_int)
    (ss_cons (ss_set (se_op so_add se_nm se_int))
    (ss_cons (ss_while (st_test (se_op so_gt se_nm se_int)) (ss_cons (ss_set (se_op so_div (se_op so_mul se_int se_nm) se_int))
      (ss_set (se_op so_add se_nm se_int))))
    (ss_ret se_nm)))), fun ws M R RX hl h => ?_⟩
  obtain ⟨x, rfl, h1⟩ := g1_of h
  obtain ⟨n, rfl, ⟨n0, n1⟩, h2⟩ := gI_of h1
  simp only [start0, len_c, len_n, map_c, map_n, app_c, app_n, rep_0, rep_s, Nat.reduceAdd, Nat.reduceSub]
  decreasing_trivial_pre_omega
  refine ⟨fun m ρ' M' => M' = M ∧ ∃ wt s : Nat, m = wt ∧ wt ≤ 100001 ∧ s + stp wt = 1 + stp (n.toNat + 1) ∧ ρ' = [some (.d (.int n)), some (.d (.int (s : Nat))), some (.d (.int (wt : Nat)))], ⟨_, rfl, n.toNat + 1, 1, rfl, by omega, by omega, by rw [show ((n.toNat + 1 : Nat) : Int) = n + 1 by omega]; rfl⟩, fun m ρ' M' p => ?_⟩
  obtain ⟨rfl, wt, s0, rfl, hwt, e, rfl⟩ := p
  decreasing_trivial_pre_omega
  refine IfB.d (fun c => ?_) (fun c => ?_)
  · have e2 := stp_up (w := m) (by omega)
    decreasing_trivial_pre_omega
    refine ⟨m * 3 / 4, by omega, ?_⟩
    refine ⟨rfl, m * 3 / 4, s0 + 1, rfl, by omega, by omega, ?_⟩
    rw [show ((m * 3 / 4 : Nat) : Int) = 3 * (m : Int) / 4 by omega, show ((s0 + 1 : Nat) : Int) = (s0 : Int) + 1 by omega]
  · have e2 := stp_lo (w := m) (by omega)
    decreasing_trivial_pre_omega
    rw [show s0 = stp (n.toNat + 1) by omega]
    exact h2
structure Calls (P : Program) (w : World) (K : PySem.W.Frag) (mg : Str → Option Value) (base : Heap) (A : Cls K mg) (tp2 tp3 : Addr) where
  j : Nat
  hj : j ≤ 190
  tied : UseX P w K mg base "tied" ["items"] j (spD K 1 (tfTied A.c_NoTie))
  item_at : UseX P w K mg base "item_at" ["tie", "at"] j (spD K 2 (tfItemAt A.c_NoTie A.c_NoItem))
  put_at : UseX P w K mg base "put_at" ["tie", "at", "item"] j (spD K 3 (tfPutAt A.c_NoTie A.c_NoItem))
  out_at : UseX P w K mg base "out_at" ["tie", "at"] j (spD K 2 (tfOutAt A.c_NoTie A.c_NoItem))
  parted : UseX P w K mg base "parted" ["tie", "at"] j (spD K 2 (tfParted A.c_NoTie A.c_NoItem))
  tied_both : UseX P w K mg base "tied_both" ["one", "other"] j (spD K 2 (tfTBoth A.c_NoTie))
  steps : Use P w K mg base "steps_of" ["many"] j (spD K 1 tfSteps)
  take : Use P w K mg base "_law_take" ["_law_state", "_law_below"] j (spD K 2 (tfNext false))
  word : UseT P w K mg base "_law_word" "_law_call" (gWord A.c_NoTie A.c_NoItem)
  due : Use P w K mg base "_law_due" ["_law_is_tie", "_law_at", "_law_most"] j (spD K 3 tfDue)
  late : Use P w K mg base "_law_late_item" ["_law_tie", "_law_at", "_law_many", "_law_is_tie", "_law_odd"] j (spD K 5 (tfLate tp2))
  freshSo : Use P w K mg base "_law_fresh_so" ["_law_tie", "_law_is_tie", "_law_odd"] j (spD K 3 (tfFreshSo tp3))
  lSteps : Use P w K mg base "_law_steps" ["_law_many"] j (spD K 1 tfSteps)
abbrev sLaw : Stmt := top 50
theorem scLaw : FnScope ["_law_script", "_law_state", "_law_many", "_law_wrong", "_law_turn", "_law_odd", "_law_full", "_law_words", "_law_none", "_law_number", "_law_is_tie", "_law_tie", "_law_at", "_law_bad"] ["_law_script"] (defScope sLaw) := ⟨rfl, rfl, rfl, by decide +kernel, rfl, by decide +kernel, by decide +kernel⟩
theorem ok_law {f cO tp tp2 tp3 : Addr} {fd : FuncData} {s : Shared} {H : Hp} {a : Addr} {ns : List Int} (F : Fun K "law" "law" sLaw f fd) (hcO : fd.code = .ref cO) (TB : LamX.TabB base mg cO tp) (T : Bl mg) {A : Cls K mg} (U : Calls P w K mg base A tp2 tp3) (CT : ∃ t, mg "TIED" = some (.int 1000 t)) (hT : ∀ t ∈ [(tp, qLaw), (tp2, qLate), (tp3, qFresh)], H t.1 = some (.tbl #[])) (nd : [tp, tp2, tp3].Nodup) (hlen : ns.length ≤ 63) (hS : SqL K H a (ns.map V.int)) (e0 : Env0 P w K mg base callerA [] s H) :
    codeAny (model P w) callerA (.call (.ref f) ⟨[.ref a], []⟩) (CR CX0 [] P w H s (fun v _ => v = V.bl true) fun _ _ _ => False) s := by
  obtain ⟨j, hj, Utied, Uitem_at, Uput_at, Uout_at, Uparted, Utied_both, Usteps_of, U_law_take, U_law_word, U_law_due, U_law_late_item, U_law_fresh_so, U_law_steps⟩ := U
  refine law_atT2 (k := 200) (z := 67) (ts := [(tp, qLaw), (tp2, qLate), (tp3, qFresh)]) F hcO scLaw hlen hS e0 ⟨rfl, by decide, by decide⟩ (F.binds (ps := ["_law_script"]) fun _ _ _ _ _ _ us hl => match us, hl with | [_], _ => rfl) (by decide) (by decide) hT nd fun hgu hr => ?_
  have hun : (callerA.deeper (PyProof.Rows.envOfC "law" (defScope sLaw) s.heap.objs.size f (.ref cO))).units + 200 < cLine := by
    have := hr.un
    omega
  refine ⟨_, _, (pss_cons (ps_set (i := 1) scLaw.nd rfl (.inl rfl) (pe_lst (pa_cons (pv 0) (pa_cons pe_int (pa_cons pe_int (pa_cons pe_int pa_nil))))))
    (pss_cons (ps_set (i := 2) scLaw.nd rfl (.inl rfl) (pe_call U_law_take.ok (hr.mono (by omega)) rfl U_law_take.m U_law_take.kp U_law_take.b .nil pass0 (pa_cons (pv 1) (pa_cons pe_int pa_nil))))
    (pss_cons (ps_set (i := 3) scLaw.nd rfl (.inl rfl) (pe_lst (pa_cons pe_int (pa_cons pe_str (pa_cons (pe_tup pa_nil) (pa_cons (pe_lst pa_nil) (pa_cons (pe_tup (pa_cons pe_non (pa_cons pe_int (pa_cons pe_non (pa_cons pe_int pa_nil))))) (pa_cons pe_dnewK (pa_cons pe_bl (pa_cons (pe_tup (pa_cons pe_int (pa_cons pe_int (pa_cons pe_int (pa_cons pe_int pa_nil))))) pa_nil))))))))))
    (pss_cons (ps_for PassesOwn.never rfl (pi_range1 (by rfl) T.range (pa_cons pe_int pa_nil)) (pg_name (i := 4) scLaw.nd rfl (.inl rfl)) (pss_cons (ps_set (i := 10) scLaw.nd rfl (.inl rfl) (pe_cmpR op_gt (pe_call U_law_take.ok (hr.mono (by omega)) rfl U_law_take.m U_law_take.kp U_law_take.b .nil pass0 (pa_cons (pv 1) (pa_cons pe_int pa_nil))) pe_int (nomark _)))
      (pss_cons (ps_set (i := 11) scLaw.nd rfl (.inr rfl) (pe_ix ix_list (pe_lst (pa_cons (pe_ix ix_list (pv 3) (pe_call U_law_take.ok (hr.mono (by omega)) rfl U_law_take.m U_law_take.kp U_law_take.b .nil pass0 (pa_cons (pv 1) (pa_cons pe_int pa_nil))) (fun _ _ => rfl)) (pa_cons (pe_callS Utied.ok (hr.mono (by omega)) rfl Utied.m Utied.kp Utied.b (fun σ => passAt takes0 σ) (pa_cons (pe_listRg rfl (by rfl) T.list (prg_1 (by rfl) T.range (pv 2))) pa_nil)) pa_nil))) (pe_callTy call_int1 (by rfl) T.int PyProof.Rows.boot_int (pa_cons (pv 10) pa_nil)) (fun _ _ => rfl)))
      (pss_cons (ps_set (i := 12) scLaw.nd rfl (.inr rfl) (pe_ix ix_list (pe_lst (pa_cons pe_non (pa_cons pe_bl (pa_cons (pe_un un_neg pe_int) (pa_cons (pv 2) (pa_cons (pe_op op_add (pv 2) pe_int) (pa_cons pe_str (pa_cons (pe_tup (pa_cons pe_int pa_nil)) (pa_cons (pe_call U_law_take.ok (hr.mono (by omega)) rfl U_law_take.m U_law_take.kp U_law_take.b .nil pass0 (pa_cons (pv 1) (pa_cons pe_int pa_nil))) pa_nil))))))))) (pe_call U_law_take.ok (hr.mono (by omega)) rfl U_law_take.m U_law_take.kp U_law_take.b .nil pass0 (pa_cons (pv 1) (pa_cons pe_int pa_nil))) (fun _ _ => rfl)))
      (pss_cons (ps_if (pt_cmpR (op_neD hr.units) (pe_word (P := tp) (k := 195) U_law_word (by rfl) TB rfl (show _ = qLaw from rfl) (hr.mono (by omega)) (LamX.lamS_by (show LamX.lamSB (defScope sLaw) _ = true by decide +kernel)) rfl (fun _ _ _ _ _ => rfl) (fun A outer s H E0 f c' hr => (pe_callS Uitem_at.ok (hr.mono (by omega)) rfl Uitem_at.m Uitem_at.kp Uitem_at.b (fun σ => passAt (takes_of (E := E0) rfl rfl rfl rfl) σ) (pa_cons (pv 11) (pa_cons (pv 12) pa_nil))))) (pe_call U_law_due.ok (hr.mono (by omega)) rfl U_law_due.m U_law_due.kp U_law_due.b .nil pass0 (pa_cons (pv 10) (pa_cons (pv 12) (pa_cons (pe_op op_sub (pv 2) pe_int) pa_nil)))) (nomark _)) (pss_one (ps_ret pe_bl)) pss_nil)
      (pss_cons (ps_if (pt_cmpR (op_neD hr.units) (pe_word (P := tp) (k := 195) U_law_word (by rfl) TB rfl (show _ = qLaw from rfl) (hr.mono (by omega)) (LamX.lamS_by (show LamX.lamSB (defScope sLaw) _ = true by decide +kernel)) rfl (fun _ _ _ _ _ => rfl) (fun A outer s H E0 f c' hr => (pe_callS Uout_at.ok (hr.mono (by omega)) rfl Uout_at.m Uout_at.kp Uout_at.b (fun σ => passAt (takes_of (E := E0) rfl rfl rfl rfl) σ) (pa_cons (pv 11) (pa_cons (pv 12) pa_nil))))) (pe_call U_law_due.ok (hr.mono (by omega)) rfl U_law_due.m U_law_due.kp U_law_due.b .nil pass0 (pa_cons (pv 10) (pa_cons (pv 12) (pa_cons (pe_op op_sub (pv 2) pe_int) pa_nil)))) (nomark _)) (pss_one (ps_ret pe_bl)) pss_nil)
      (pss_cons (ps_if (pt_cmpR (op_neD hr.units) (pe_word (P := tp) (k := 195) U_law_word (by rfl) TB rfl (show _ = qLaw from rfl) (hr.mono (by omega)) (LamX.lamS_by (show LamX.lamSB (defScope sLaw) _ = true by decide +kernel)) rfl (fun _ _ _ _ _ => rfl) (fun A outer s H E0 f c' hr => (pe_callS Uput_at.ok (hr.mono (by omega)) rfl Uput_at.m Uput_at.kp Uput_at.b (fun σ => passAt (takes_of (E := E0) rfl rfl rfl rfl) σ) (pa_cons (pv 11) (pa_cons (pv 12) (pa_cons pe_int pa_nil)))))) (pe_call U_law_due.ok (hr.mono (by omega)) rfl U_law_due.m U_law_due.kp U_law_due.b .nil pass0 (pa_cons (pv 10) (pa_cons (pv 12) (pa_cons (pv 2) pa_nil)))) (nomark _)) (pss_one (ps_ret pe_bl)) pss_nil)
      (pss_cons (ps_if (pt_cmpR (op_neD hr.units) (pe_word (P := tp) (k := 195) U_law_word (by rfl) TB rfl (show _ = qLaw from rfl) (hr.mono (by omega)) (LamX.lamS_by (show LamX.lamSB (defScope sLaw) _ = true by decide +kernel)) rfl (fun _ _ _ _ _ => rfl) (fun A outer s H E0 f c' hr => (pe_callS Uparted.ok (hr.mono (by omega)) rfl Uparted.m Uparted.kp Uparted.b (fun σ => passAt (takes_of (E := E0) rfl rfl rfl rfl) σ) (pa_cons (pv 11) (pa_cons (pv 12) pa_nil))))) (pe_call U_law_due.ok (hr.mono (by omega)) rfl U_law_due.m U_law_due.kp U_law_due.b .nil pass0 (pa_cons (pv 10) (pa_cons (pv 12) (pa_cons (pv 2) pa_nil)))) (nomark _)) (pss_one (ps_ret pe_bl)) pss_nil)
      (pss_cons (ps_if (pt_cmpR (op_neD hr.units) (pe_word (P := tp) (k := 195) U_law_word (by rfl) TB rfl (show _ = qLaw from rfl) (hr.mono (by omega)) (LamX.lamS_by (show LamX.lamSB (defScope sLaw) _ = true by decide +kernel)) rfl (fun _ _ _ _ _ => rfl) (fun A outer s H E0 f c' hr => (pe_callS Utied_both.ok (hr.mono (by omega)) rfl Utied_both.m Utied_both.kp Utied_both.b (fun σ => passAt (takes_of (E := E0) rfl rfl rfl rfl) σ) (pa_cons (pv 11) (pa_cons pe_non pa_nil))))) (pe_call U_law_due.ok (hr.mono (by omega)) rfl U_law_due.m U_law_due.kp U_law_due.b .nil pass0 (pa_cons (pv 10) (pa_cons pe_int (pa_cons pe_int pa_nil)))) (nomark _)) (pss_one (ps_ret pe_bl)) pss_nil)
      (pss_cons (ps_if (pt_cmpR (op_neD hr.units) (pe_word (P := tp) (k := 195) U_law_word (by rfl) TB rfl (show _ = qLaw from rfl) (hr.mono (by omega)) (LamX.lamS_by (show LamX.lamSB (defScope sLaw) _ = true by decide +kernel)) rfl (fun _ _ _ _ _ => rfl) (fun A outer s H E0 f c' hr => (pe_callS Utied_both.ok (hr.mono (by omega)) rfl Utied_both.m Utied_both.kp Utied_both.b (fun σ => passAt (takes_of (E := E0) rfl rfl rfl rfl) σ) (pa_cons pe_non (pa_cons (pv 11) pa_nil))))) (pe_call U_law_due.ok (hr.mono (by omega)) rfl U_law_due.m U_law_due.kp U_law_due.b .nil pass0 (pa_cons (pv 10) (pa_cons pe_int (pa_cons pe_int pa_nil)))) (nomark _)) (pss_one (ps_ret pe_bl)) pss_nil)
      (pss_cons (ps_if (pt_cmpR (op_neD hr.units) (pe_word (P := tp) (k := 195) U_law_word (by rfl) TB rfl (show _ = qLaw from rfl) (hr.mono (by omega)) (LamX.lamS_by (show LamX.lamSB (defScope sLaw) _ = true by decide +kernel)) rfl (fun _ _ _ _ _ => rfl) (fun A outer s H E0 f c' hr => (pe_callS Utied_both.ok (hr.mono (by omega)) rfl Utied_both.m Utied_both.kp Utied_both.b (fun σ => passAt (takes_of (E := E0) rfl rfl rfl rfl) σ) (pa_cons (pe_callS Utied.ok (hr.mono (by omega)) rfl Utied.m Utied.kp Utied.b (fun σ => passAt (takes_of (E := E0) rfl rfl rfl rfl) σ) (pa_cons (pe_lst (pa_cons pe_int (pa_cons pe_int pa_nil))) pa_nil)) (pa_cons (pv 11) pa_nil))))) (pe_call U_law_due.ok (hr.mono (by omega)) rfl U_law_due.m U_law_due.kp U_law_due.b .nil pass0 (pa_cons (pv 10) (pa_cons pe_int (pa_cons pe_int pa_nil)))) (nomark _)) (pss_one (ps_ret pe_bl)) pss_nil)
      (pss_cons (ps_set (i := 13) scLaw.nd rfl (.inl rfl) (pe_ix ix_list (pe_lst (pa_cons pe_non (pa_cons pe_bl (pa_cons (pe_lst (pa_cons pe_int pa_nil)) (pa_cons pe_dnewK (pa_cons (pe_tup (pa_cons pe_non pa_nil)) (pa_cons (pe_tup (pa_cons pe_int (pa_cons (pe_lst (pa_cons pe_int pa_nil)) pa_nil))) (pa_cons (pe_op op_repA (pe_tup (pa_cons pe_int pa_nil)) pe_int) pa_nil)))))))) (pe_call U_law_take.ok (hr.mono (by omega)) rfl U_law_take.m U_law_take.kp U_law_take.b .nil pass0 (pa_cons (pv 1) (pa_cons pe_int pa_nil))) (fun _ _ => rfl)))
      (pss_one (ps_if (PW.pt (pw_or (pt_not (pt_val (pe_call U_law_late_item.ok (hr.mono (by omega)) rfl U_law_late_item.m U_law_late_item.kp U_law_late_item.b .nil pass0 (pa_cons (pv 11) (pa_cons (pv 12) (pa_cons (pv 2) (pa_cons (pv 10) (pa_cons (pv 13) pa_nil)))))))) (pw_or1 (pt_not (pt_val (pe_call U_law_fresh_so.ok (hr.mono (by omega)) rfl U_law_fresh_so.m U_law_fresh_so.kp U_law_fresh_so.b .nil pass0 (pa_cons (pv 11) (pa_cons (pv 10) (pa_cons (pe_ix ix_list (pv 3) (pe_call U_law_take.ok (hr.mono (by omega)) rfl U_law_take.m U_law_take.kp U_law_take.b .nil pass0 (pa_cons (pv 1) (pa_cons pe_int pa_nil))) (fun _ _ => rfl)) pa_nil))))))))) (pss_one (ps_ret pe_bl)) pss_nil))))))))))))))
    (pss_cons (ps_set (i := 5) scLaw.nd rfl (.inr rfl) (pe_ix ix_list (pe_lst (pa_cons pe_non (pa_cons pe_bl (pa_cons (pe_lst (pa_cons pe_int pa_nil)) (pa_cons pe_dnewK (pa_cons (pe_tup (pa_cons pe_non pa_nil)) (pa_cons (pe_tup (pa_cons pe_int (pa_cons (pe_lst (pa_cons pe_int pa_nil)) pa_nil))) pa_nil))))))) (pe_call U_law_take.ok (hr.mono (by omega)) rfl U_law_take.m U_law_take.kp U_law_take.b .nil pass0 (pa_cons (pv 1) (pa_cons pe_int pa_nil))) (fun _ _ => rfl)))
    (pss_cons (ps_set (i := 6) scLaw.nd rfl (.inr rfl) (pe_callS Utied.ok (hr.mono (by omega)) rfl Utied.m Utied.kp Utied.b (fun σ => passAt takes0 σ) (pa_cons (pe_listRg rfl (by rfl) T.list (prg_1 (by rfl) T.range pe_int)) pa_nil)))
    (pss_cons (ps_set (i := 7) scLaw.nd rfl (.inl rfl) (pe_lst (pa_cons (pe_word (P := tp) (k := 195) U_law_word (by rfl) TB rfl (show _ = qLaw from rfl) (hr.mono (by omega)) (LamX.lamS_by (show LamX.lamSB (defScope sLaw) _ = true by decide +kernel)) rfl (fun _ _ _ _ _ => rfl) (fun A outer s H E0 f c' hr => (pe_callS Uput_at.ok (hr.mono (by omega)) rfl Uput_at.m Uput_at.kp Uput_at.b (fun σ => passAt (takes_of (E := E0) rfl rfl rfl rfl) σ) (pa_cons pe_non (pa_cons pe_int (pa_cons (pv 5) pa_nil)))))) pa_nil)))
    (pss_cons (ps_expr (pe_bm PySem.F.plainAttrs_list PySem.F.slot_list_append PySem.F.type_list_append mt_append (pv 7) (pa_cons (pe_word (P := tp) (k := 195) U_law_word (by rfl) TB rfl (show _ = qLaw from rfl) (hr.mono (by omega)) (LamX.lamS_by (show LamX.lamSB (defScope sLaw) _ = true by decide +kernel)) rfl (fun _ _ _ _ _ => rfl) (fun A outer s H E0 f c' hr => (pe_callS Utied.ok (hr.mono (by omega)) rfl Utied.m Utied.kp Utied.b (fun σ => passAt (takes_of (E := E0) rfl rfl rfl rfl) σ) (pa_cons (pe_lst (pa_cons pe_int (pa_cons (pv 5) pa_nil))) pa_nil)))) pa_nil)))
    (pss_cons (ps_expr (pe_bm PySem.F.plainAttrs_list PySem.F.slot_list_append PySem.F.type_list_append mt_append (pv 7) (pa_cons (pe_word (P := tp) (k := 195) U_law_word (by rfl) TB rfl (show _ = qLaw from rfl) (hr.mono (by omega)) (LamX.lamS_by (show LamX.lamSB (defScope sLaw) _ = true by decide +kernel)) rfl (fun _ _ _ _ _ => rfl) (fun A outer s H E0 f c' hr => (pe_callS Uput_at.ok (hr.mono (by omega)) rfl Uput_at.m Uput_at.kp Uput_at.b (fun σ => passAt (takes_of (E := E0) rfl rfl rfl rfl) σ) (pa_cons (pv 6) (pa_cons pe_int (pa_cons pe_int pa_nil)))))) pa_nil)))
    (pss_cons (ps_expr (pe_bm PySem.F.plainAttrs_list PySem.F.slot_list_append PySem.F.type_list_append mt_append (pv 7) (pa_cons (pe_word (P := tp) (k := 195) U_law_word (by rfl) TB rfl (show _ = qLaw from rfl) (hr.mono (by omega)) (LamX.lamS_by (show LamX.lamSB (defScope sLaw) _ = true by decide +kernel)) rfl (fun _ _ _ _ _ => rfl) (fun A outer s H E0 f c' hr => (pe_callS Utied_both.ok (hr.mono (by omega)) rfl Utied_both.m Utied_both.kp Utied_both.b (fun σ => passAt (takes_of (E := E0) rfl rfl rfl rfl) σ) (pa_cons (pv 6) (pa_cons (pe_callS Utied.ok (hr.mono (by omega)) rfl Utied.m Utied.kp Utied.b (fun σ => passAt (takes_of (E := E0) rfl rfl rfl rfl) σ) (pa_cons (pe_lst (pa_cons pe_int pa_nil)) pa_nil)) pa_nil))))) pa_nil)))
    (pss_cons (ps_expr (pe_bm PySem.F.plainAttrs_list PySem.F.slot_list_append PySem.F.type_list_append mt_append (pv 7) (pa_cons (pe_word (P := tp) (k := 195) U_law_word (by rfl) TB rfl (show _ = qLaw from rfl) (hr.mono (by omega)) (LamX.lamS_by (show LamX.lamSB (defScope sLaw) _ = true by decide +kernel)) rfl (fun _ _ _ _ _ => rfl) (fun A outer s H E0 f c' hr => (pe_callS Utied.ok (hr.mono (by omega)) rfl Utied.m Utied.kp Utied.b (fun σ => passAt (takes_of (E := E0) rfl rfl rfl rfl) σ) (pa_cons (pe_listRg rfl (by rfl) T.list (prg_1 (by rfl) T.range pe_int)) pa_nil)))) pa_nil)))
    (pss_cons (ps_expr (pe_bm PySem.F.plainAttrs_list PySem.F.slot_list_append PySem.F.type_list_append mt_append (pv 7) (pa_cons (pe_word (P := tp) (k := 195) U_law_word (by rfl) TB rfl (show _ = qLaw from rfl) (hr.mono (by omega)) (LamX.lamS_by (show LamX.lamSB (defScope sLaw) _ = true by decide +kernel)) rfl (fun _ _ _ _ _ => rfl) (fun A outer s H E0 f c' hr => (pe_callS Utied.ok (hr.mono (by omega)) rfl Utied.m Utied.kp Utied.b (fun σ => passAt (takes_of (E := E0) rfl rfl rfl rfl) σ) (pa_cons pe_str pa_nil)))) pa_nil)))
    (pss_cons (ps_set (i := 8) scLaw.nd rfl (.inr rfl) (pe_ix ix_list (pe_lst (pa_cons pe_non (pa_cons pe_int (pa_cons pe_bl (pa_cons pe_dnewK (pa_cons (pe_disp (pps_cons pe_int pe_int pps_nil) rfl rfl (by simp) (by show 1 ≤ 15; omega)) (pa_cons (pe_tup (pa_cons pe_non (pa_cons pe_int (pa_cons pe_non (pa_cons pe_int pa_nil))))) (pa_cons (pe_lst (pa_cons (pe_lst (pa_cons pe_int pa_nil)) pa_nil)) (pa_cons (pe_lst (pa_cons pe_dnewK pa_nil)) (pa_cons (pe_tup (pa_cons pe_int (pa_cons pe_non pa_nil))) (pa_cons (pe_op op_cat (pe_lst (pa_cons (pe_tup pa_nil) pa_nil)) (pe_lst (pa_cons pe_non pa_nil))) pa_nil))))))))))) (pe_call U_law_take.ok (hr.mono (by omega)) rfl U_law_take.m U_law_take.kp U_law_take.b .nil pass0 (pa_cons (pv 1) (pa_cons pe_int pa_nil))) (fun _ _ => rfl)))
    (pss_cons (ps_expr (pe_bm PySem.F.plainAttrs_list PySem.F.slot_list_append PySem.F.type_list_append mt_append (pv 7) (pa_cons (pe_word (P := tp) (k := 195) U_law_word (by rfl) TB rfl (show _ = qLaw from rfl) (hr.mono (by omega)) (LamX.lamS_by (show LamX.lamSB (defScope sLaw) _ = true by decide +kernel)) rfl (fun _ _ _ _ _ => rfl) (fun A outer s H E0 f c' hr => (pe_callS Utied.ok (hr.mono (by omega)) rfl Utied.m Utied.kp Utied.b (fun σ => passAt (takes_of (E := E0) rfl rfl rfl rfl) σ) (pa_cons (pv 8) pa_nil)))) pa_nil)))
    (pss_cons (ps_set (i := 9) scLaw.nd rfl (.inl rfl) (pe_call U_law_take.ok (hr.mono (by omega)) rfl U_law_take.m U_law_take.kp U_law_take.b .nil pass0 (pa_cons (pv 1) (pa_cons pe_int pa_nil))))
    (pss_one (ps_ret (pe_and (pe_cmpR (op_eqD hr.units) (pv 7) (pe_op op_rep (pe_lst (pa_cons (pe_lst (pa_cons pe_str (pa_cons pe_bl pa_nil))) pa_nil)) pe_int) (nomark _)) (pe_and (pe_cmpR op_eq (pe_call Usteps_of.ok (hr.mono (by omega)) rfl Usteps_of.m Usteps_of.kp Usteps_of.b .nil pass0 (pa_cons (pv 9) pa_nil)) (pe_call U_law_steps.ok (hr.mono (by omega)) rfl U_law_steps.m U_law_steps.kp U_law_steps.b .nil pass0 (pa_cons (pv 9) pa_nil)) (nomark _)) (pe_one (pe_cmpR op_eq (c_int CT) pe_int (nomark _)))))))))))))))))))))),
    (ss_cons (ss_set (se_call (sa_cons se_nm (sa_cons se_int sa_nil))))
    (ss_cons (ss_set (se_lsf (sa_cons se_int (sa_cons se_str (sa_cons (se_tup sa_nil) (sa_cons (se_lsf sa_nil) (sa_cons (se_tup (sa_cons se_non (sa_cons se_int (sa_cons se_non (sa_cons se_int sa_nil))))) (sa_cons se_dnew (sa_cons se_bl (sa_cons (se_tup (sa_cons se_int (sa_cons se_int (sa_cons se_int (sa_cons se_int sa_nil))))) sa_nil))))))))))
    (ss_cons (ss_for (si_r1 (sa_cons se_int sa_nil)) sg_name (ss_cons (ss_set (se_op so_gt (se_call (sa_cons se_nm (sa_cons se_int sa_nil))) se_int))
      (ss_cons (ss_set (se_op so_ixL (se_lsf (sa_cons (se_op so_ixL se_nm (se_call (sa_cons se_nm (sa_cons se_int sa_nil)))) (sa_cons (se_callX (sa_cons (se_lstRg1 se_nm) sa_nil)) sa_nil))) (se_cb sc_int (sa_cons se_nm sa_nil))))
      (ss_cons (ss_set (se_op so_ixL (se_lsf (sa_cons se_non (sa_cons se_bl (sa_cons (se_un su_neg se_int) (sa_cons se_nm (sa_cons (se_op so_add se_nm se_int) (sa_cons se_str (sa_cons (se_tup (sa_cons se_int sa_nil)) (sa_cons (se_call (sa_cons se_nm (sa_cons se_int sa_nil))) sa_nil))))))))) (se_call (sa_cons se_nm (sa_cons se_int sa_nil)))))
      (ss_cut (ss_if (st_test (se_op so_neD (se_lamT (fun E0 RE => (se_callX (sa_cons se_nm (sa_cons se_nm sa_nil))))) (se_call (sa_cons se_nm (sa_cons se_nm (sa_cons (se_op so_sub se_nm se_int) sa_nil)))))) (ss_ret se_bl) ss_nil)
      (ss_cut (ss_if (st_test (se_op so_neD (se_lamT (fun E0 RE => (se_callX (sa_cons se_nm (sa_cons se_nm sa_nil))))) (se_call (sa_cons se_nm (sa_cons se_nm (sa_cons (se_op so_sub se_nm se_int) sa_nil)))))) (ss_ret se_bl) ss_nil)
      (ss_cut (ss_if (st_test (se_op so_neD (se_lamT (fun E0 RE => (se_callX (sa_cons se_nm (sa_cons se_nm (sa_cons se_int sa_nil)))))) (se_call (sa_cons se_nm (sa_cons se_nm (sa_cons se_nm sa_nil)))))) (ss_ret se_bl) ss_nil)
      (ss_cut (ss_if (st_test (se_op so_neD (se_lamT (fun E0 RE => (se_callX (sa_cons se_nm (sa_cons se_nm sa_nil))))) (se_call (sa_cons se_nm (sa_cons se_nm (sa_cons se_nm sa_nil)))))) (ss_ret se_bl) ss_nil)
      (ss_cut (ss_if (st_test (se_op so_neD (se_lamT (fun E0 RE => (se_callX (sa_cons se_nm (sa_cons se_non sa_nil))))) (se_call (sa_cons se_nm (sa_cons se_int (sa_cons se_int sa_nil)))))) (ss_ret se_bl) ss_nil)
      (ss_cut (ss_if (st_test (se_op so_neD (se_lamT (fun E0 RE => (se_callX (sa_cons se_non (sa_cons se_nm sa_nil))))) (se_call (sa_cons se_nm (sa_cons se_int (sa_cons se_int sa_nil)))))) (ss_ret se_bl) ss_nil)
      (ss_cut (ss_if (st_test (se_op so_neD (se_lamT (fun E0 RE => (se_callX (sa_cons (se_callX (sa_cons (se_lsf (sa_cons se_int (sa_cons se_int sa_nil))) sa_nil)) (sa_cons se_nm sa_nil))))) (se_call (sa_cons se_nm (sa_cons se_int (sa_cons se_int sa_nil)))))) (ss_ret se_bl) ss_nil)
      (ss_cons (ss_set (se_op so_ixL (se_lsf (sa_cons se_non (sa_cons se_bl (sa_cons (se_lsf (sa_cons se_int sa_nil)) (sa_cons se_dnew (sa_cons (se_tup (sa_cons se_non sa_nil)) (sa_cons (se_tup (sa_cons se_int (sa_cons (se_lsf (sa_cons se_int sa_nil)) sa_nil))) (sa_cons (se_op so_repT (se_tup (sa_cons se_int sa_nil)) se_int) sa_nil)))))))) (se_call (sa_cons se_nm (sa_cons se_int sa_nil)))))
      (ss_if (st_or (st_not (st_val (se_call (sa_cons se_nm (sa_cons se_nm (sa_cons se_nm (sa_cons se_nm (sa_cons se_nm sa_nil)))))))) (st_not (st_val (se_call (sa_cons se_nm (sa_cons se_nm (sa_cons (se_op so_ixL se_nm (se_call (sa_cons se_nm (sa_cons se_int sa_nil)))) sa_nil))))))) (ss_ret se_bl) ss_nil)))))))))))))
    (ss_cons (ss_set (se_op so_ixL (se_lsf (sa_cons se_non (sa_cons se_bl (sa_cons (se_lsf (sa_cons se_int sa_nil)) (sa_cons se_dnew (sa_cons (se_tup (sa_cons se_non sa_nil)) (sa_cons (se_tup (sa_cons se_int (sa_cons (se_lsf (sa_cons se_int sa_nil)) sa_nil))) sa_nil))))))) (se_call (sa_cons se_nm (sa_cons se_int sa_nil)))))
    (ss_cons (ss_set (se_callX (sa_cons (se_lstRg1 se_int) sa_nil)))
    (ss_cons (ss_set (se_lst (sa_cons (se_lamT (fun E0 RE => (se_callX (sa_cons se_non (sa_cons se_int (sa_cons se_nm sa_nil)))))) sa_nil)))
    (ss_cons (ss_drop (se_bmL sm_append se_nm (sa_cons (se_lamT (fun E0 RE => (se_callX (sa_cons (se_lsf (sa_cons se_int (sa_cons se_nm sa_nil))) sa_nil)))) sa_nil)))
    (ss_cons (ss_drop (se_bmL sm_append se_nm (sa_cons (se_lamT (fun E0 RE => (se_callX (sa_cons se_nm (sa_cons se_int (sa_cons se_int sa_nil)))))) sa_nil)))
    (ss_cons (ss_drop (se_bmL sm_append se_nm (sa_cons (se_lamT (fun E0 RE => (se_callX (sa_cons se_nm (sa_cons (se_callX (sa_cons (se_lsf (sa_cons se_int sa_nil)) sa_nil)) sa_nil))))) sa_nil)))
    (ss_cons (ss_drop (se_bmL sm_append se_nm (sa_cons (se_lamT (fun E0 RE => (se_callX (sa_cons (se_lstRg1 se_int) sa_nil)))) sa_nil)))
    (ss_cons (ss_drop (se_bmL sm_append se_nm (sa_cons (se_lamT (fun E0 RE => (se_callX (sa_cons se_str sa_nil)))) sa_nil)))
    (ss_cons (ss_set (se_op so_ixL (se_lst (sa_cons se_non (sa_cons se_int (sa_cons se_bl (sa_cons se_dnew (sa_cons se_dk1 (sa_cons (se_tup (sa_cons se_non (sa_cons se_int (sa_cons se_non (sa_cons se_int sa_nil))))) (sa_cons (se_lsf (sa_cons (se_lsf (sa_cons se_int sa_nil)) sa_nil)) (sa_cons (se_lsf (sa_cons se_dnew sa_nil)) (sa_cons (se_tup (sa_cons se_int (sa_cons se_non sa_nil))) (sa_cons (se_op so_catF (se_lsf (sa_cons (se_tup sa_nil) sa_nil)) (se_lsf (sa_cons se_non sa_nil))) sa_nil))))))))))) (se_call (sa_cons se_nm (sa_cons se_int sa_nil)))))
    (ss_cons (ss_drop (se_bmL sm_append se_nm (sa_cons (se_lamT (fun E0 RE => (se_callX (sa_cons se_nm sa_nil)))) sa_nil)))
    (ss_cons (ss_set (se_call (sa_cons se_nm (sa_cons se_int sa_nil))))
    (ss_ret (se_and (se_op so_eqD se_nm (se_op so_repF (se_lsf (sa_cons (se_lsf (sa_cons se_str (sa_cons se_bl sa_nil))) sa_nil)) se_int)) (se_and (se_op so_eqS (se_call (sa_cons se_nm sa_nil)) (se_call (sa_cons se_nm sa_nil))) (se_op so_eqS se_int se_int)))))))))))))))))), fun st M hM => ?_⟩
  obtain ⟨hM, hTs⟩ := hM
  have hT1 : M tp = some (.tab qLaw) := hTs _ (.head _)
  have hT2 : M tp2 = some (.tab qLate) := hTs _ (.tail _ (.head _))
  have hT3 : M tp3 = some (.tab qFresh) := hTs _ (.tail _ (.tail _ (.head _)))
  clear hTs
  simp only [start0, len_c, len_n, map_c, map_n, app_c, app_n, rep_0, rep_s, Nat.reduceAdd, Nat.reduceSub]
  decreasing_trivial_pre_omega
  intro n n0 n1
  obtain ⟨m, rfl⟩ : ∃ m : Nat, n = m := ⟨n.toNat, by omega⟩
  decreasing_trivial_pre_omega
  refine forR (n := 8) (fun i ρ M1 => M1 = M ∧ ∃ y4 y10 y11 y12 y13, ρ = [some (.o (.ref a)), some (.r st), some (.d (.int (m : Nat))), some (.d (.list WRG)), y4, none, none, none, none, none, y10, y11, y12, y13]) ⟨rfl, none, none, none, none, none, rfl⟩ (fun _ _ _ _ _ => trivial) (fun i ρ M1 N hi p hN => ?_) (fun ρ M1 p => ?_)
  · obtain ⟨rfl, y4, y10, y11, y12, y13, rfl⟩ := p
    decreasing_trivial_pre_omega
    intro r3 r30 r31
    decreasing_trivial_pre_omega
    intro w8 w80 w81
    have hw : (WRG.map W.d).length = 8 := rfl
    refine gO_atD (fun d => d ∈ WRG) w80 (by show w8 < 8; omega) (fun d h => h) fun wd hwd => ?_
    have hni := rg_ni (z := (m : Nat)) (by omega)
    have hrl := rgD_len 0 (m : Nat)
    have htx := ni_txt hni
    decreasing_trivial_pre_omega
    refine .inl ?_
    decreasing_trivial_pre_omega
    refine ⟨fun z => absurd z (no_bad (by omega) hni), fun _ _ g hg => ?_⟩
    have ht : TieN g := TieN.of hg (by omega) hni
    have hsz : sz g = m := by have := hg.sz; omega
    have hle := ht.le
    have q1 := eq_tie
    have q2 := eq_told
    have q5 := ne_tie
    have q6 := eq_tt
    have q7 := eq_nn
    have tn : TieN nil := ⟨trivial, by decide, fun x hx => by cases hx⟩
    obtain ⟨x1, x2, x3⟩ := wrg_bad wd hwd
    dsimp only
    generalize hb : decide (0 < r3) = B
    cases B
    · decreasing_trivial_pre_omega
      intro r r0 r1
      decreasing_trivial_pre_omega
      intro v v0 v1
      refine gO_atD (fun d => d ∈ ATS (m : Nat) r) v0 (by show v < 8; omega) (fun d h => h) fun at_ hat => ?_
      have ha := ats_ok _ r at_ hat
      have q3 := ha.eq
      have q8 := ha.self
      decreasing_trivial_pre_omega
      refine seq_cut (fun ρ' M' => M' = M1 ∧ ρ' = [some (.o (.ref a)), some (.r st), some (.d (.int (m : Nat))), some (.d (.list WRG)), some (.d (.int (0 + (i : Int)))), none, none, none, none, none, some (.d (.bool false)), some (.d wd), some (.d at_), y13]) (fun N2 hN2 => ?_) (fun ρ' M1 c => ?_)
      · decreasing_trivial_pre_omega
        refine RefT.bad x1 x2 x3 (.inl ⟨rfl, ?_⟩)
        decreasing_trivial_pre_omega
        refine ⟨false, _, _, rfl, ha.tx, ?_⟩
        rw [due_f]
        decreasing_trivial_pre_omega
        exact hN2 _ _ ⟨rfl, rfl⟩
      obtain ⟨rfl, rfl⟩ := c
      refine seq_cut (fun ρ' M' => M' = M1 ∧ ρ' = [some (.o (.ref a)), some (.r st), some (.d (.int (m : Nat))), some (.d (.list WRG)), some (.d (.int (0 + (i : Int)))), none, none, none, none, none, some (.d (.bool false)), some (.d wd), some (.d at_), y13]) (fun N2 hN2 => ?_) (fun ρ' M1 c => ?_)
      · decreasing_trivial_pre_omega
        refine RefT.bad x1 x2 x3 (.inl ⟨rfl, ?_⟩)
        decreasing_trivial_pre_omega
        refine ⟨false, _, _, rfl, ha.tx, ?_⟩
        rw [due_f]
        decreasing_trivial_pre_omega
        exact hN2 _ _ ⟨rfl, rfl⟩
      obtain ⟨rfl, rfl⟩ := c
      refine seq_cut (fun ρ' M' => M' = M1 ∧ ρ' = [some (.o (.ref a)), some (.r st), some (.d (.int (m : Nat))), some (.d (.list WRG)), some (.d (.int (0 + (i : Int)))), none, none, none, none, none, some (.d (.bool false)), some (.d wd), some (.d at_), y13]) (fun N2 hN2 => ?_) (fun ρ' M1 c => ?_)
      · decreasing_trivial_pre_omega
        refine RefT.bad x1 x2 x3 (.inl ⟨rfl, ?_⟩)
        decreasing_trivial_pre_omega
        refine ⟨false, _, _, rfl, ha.tx, ?_⟩
        rw [due_f]
        decreasing_trivial_pre_omega
        exact hN2 _ _ ⟨rfl, rfl⟩
      obtain ⟨rfl, rfl⟩ := c
      refine seq_cut (fun ρ' M' => M' = M1 ∧ ρ' = [some (.o (.ref a)), some (.r st), some (.d (.int (m : Nat))), some (.d (.list WRG)), some (.d (.int (0 + (i : Int)))), none, none, none, none, none, some (.d (.bool false)), some (.d wd), some (.d at_), y13]) (fun N2 hN2 => ?_) (fun ρ' M1 c => ?_)
      · decreasing_trivial_pre_omega
        refine RefT.bad x1 x2 x3 (.inl ⟨rfl, ?_⟩)
        decreasing_trivial_pre_omega
        refine ⟨false, _, _, rfl, ha.tx, ?_⟩
        rw [due_f]
        decreasing_trivial_pre_omega
        exact hN2 _ _ ⟨rfl, rfl⟩
      obtain ⟨rfl, rfl⟩ := c
      refine seq_cut (fun ρ' M' => M' = M1 ∧ ρ' = [some (.o (.ref a)), some (.r st), some (.d (.int (m : Nat))), some (.d (.list WRG)), some (.d (.int (0 + (i : Int)))), none, none, none, none, none, some (.d (.bool false)), some (.d wd), some (.d at_), y13]) (fun N2 hN2 => ?_) (fun ρ' M1 c => ?_)
      · decreasing_trivial_pre_omega
        refine RefT.bad x1 x2 x3 (.inl ⟨rfl, ?_⟩)
        decreasing_trivial_pre_omega
        refine ⟨false, _, _, rfl, rfl, ?_⟩
        rw [due_f]
        decreasing_trivial_pre_omega
        exact hN2 _ _ ⟨rfl, rfl⟩
      obtain ⟨rfl, rfl⟩ := c
      refine seq_cut (fun ρ' M' => M' = M1 ∧ ρ' = [some (.o (.ref a)), some (.r st), some (.d (.int (m : Nat))), some (.d (.list WRG)), some (.d (.int (0 + (i : Int)))), none, none, none, none, none, some (.d (.bool false)), some (.d wd), some (.d at_), y13]) (fun N2 hN2 => ?_) (fun ρ' M1 c => ?_)
      · decreasing_trivial_pre_omega
        refine RefT.of (t := nil) tn (RefT.bad x1 x2 x3 (.inl ⟨rfl, ?_⟩))
        decreasing_trivial_pre_omega
        refine ⟨false, _, _, rfl, rfl, ?_⟩
        rw [due_f]
        decreasing_trivial_pre_omega
        exact hN2 _ _ ⟨rfl, rfl⟩
      obtain ⟨rfl, rfl⟩ := c
      refine seq_cut (fun ρ' M' => M' = M1 ∧ ρ' = [some (.o (.ref a)), some (.r st), some (.d (.int (m : Nat))), some (.d (.list WRG)), some (.d (.int (0 + (i : Int)))), none, none, none, none, none, some (.d (.bool false)), some (.d wd), some (.d at_), y13]) (fun N2 hN2 => ?_) (fun ρ' M1 c => ?_)
      · decreasing_trivial_pre_omega
        refine .inl ?_
        decreasing_trivial_pre_omega
        refine ⟨fun z => absurd z (no_bad (by simp) ni12), fun _ _ g2 hg2 => ?_⟩
        have hg2n := TieN.of hg2 (by simp) ni12
        have hz2 := hg2.sz
        rw [show ([.int 1, .int 2] : List PyData).length = 2 from rfl] at hz2
        decreasing_trivial_pre_omega
        refine RefT.of hg2n (RefT.bad x1 x2 x3 (.inl ⟨rfl, ?_⟩))
        decreasing_trivial_pre_omega
        refine ⟨false, _, _, rfl, rfl, ?_⟩
        rw [due_f]
        decreasing_trivial_pre_omega
        exact hN2 _ _ ⟨rfl, rfl⟩
      obtain ⟨rfl, rfl⟩ := c
      decreasing_trivial_pre_omega
      intro u u0 u1
      refine gO_atD (fun d => txt d = true ∧ isItem d = false) u0 (by show u < 7; omega) bad_ok fun bd hbd => ?_
      decreasing_trivial_pre_omega
      refine ⟨wd, at_, bd, m, false, rfl, ⟨.inr ⟨rfl, x1, x2, x3⟩, ha, hbd.1, hbd.2, hT2⟩, ?_⟩
      decreasing_trivial_pre_omega
      intro w9 w90 w91
      refine gO_atD (fun d => d ∈ WRG) w90 (by show w9 < 8; omega) (fun d h => h) fun wd2 hwd2 => ?_
      obtain ⟨z1, z2, z3⟩ := wrg_bad wd2 hwd2
      decreasing_trivial_pre_omega
      refine ⟨wd, wd2, m, false, rfl, ⟨.inr ⟨rfl, x1, x2, x3⟩, z1, z2, z3, hT3⟩, ?_⟩
      decreasing_trivial_pre_omega
      exact hN _ _ ⟨rfl, _, _, _, _, _, rfl⟩
    · decreasing_trivial_pre_omega
      intro r r0 r1
      decreasing_trivial_pre_omega
      intro v v0 v1
      refine gO_atD (fun d => d ∈ ATS (m : Nat) r) v0 (by show v < 8; omega) (fun d h => h) fun at_ hat => ?_
      have ha := ats_ok _ r at_ hat
      have q3 := ha.eq
      have q8 := ha.self
      decreasing_trivial_pre_omega
      refine seq_cut (fun ρ' M' => M' = M1 ∧ ρ' = [some (.o (.ref a)), some (.r st), some (.d (.int (m : Nat))), some (.d (.list WRG)), some (.d (.int (0 + (i : Int)))), none, none, none, none, none, some (.d (.bool true)), some (.d (toD g)), some (.d at_), y13]) (fun N2 hN2 => ?_) (fun ρ' M1 c => ?_)
      · decreasing_trivial_pre_omega
        refine RefT.of ht ⟨ha.tx, fun c => .inr ⟨at_, rfl, ?_⟩, fun k ek hk => ?_⟩
        · decreasing_trivial_pre_omega
          refine ⟨true, at_, _, rfl, ha.tx, ?_⟩
          rw [due_no (m := (m : Int) - 1) (by rw [← c]; congr 1; omega)]
          decreasing_trivial_pre_omega
          exact hN2 _ _ ⟨rfl, rfl⟩
        · have ey : isNum ((m : Int) - 1) at_ = true := by rw [ek, isNum, decide_eq_true (by omega), decide_eq_true (by omega)]; rfl
          intro v hv
          decreasing_trivial_pre_omega
          refine ⟨true, at_, _, rfl, ha.tx, ?_⟩
          rw [due_yes ey]
          decreasing_trivial_pre_omega
          exact hN2 _ _ ⟨rfl, rfl⟩
      obtain ⟨rfl, rfl⟩ := c
      refine seq_cut (fun ρ' M' => M' = M1 ∧ ρ' = [some (.o (.ref a)), some (.r st), some (.d (.int (m : Nat))), some (.d (.list WRG)), some (.d (.int (0 + (i : Int)))), none, none, none, none, none, some (.d (.bool true)), some (.d (toD g)), some (.d at_), y13]) (fun N2 hN2 => ?_) (fun ρ' M1 c => ?_)
      · decreasing_trivial_pre_omega
        refine RefT.of ht ⟨ha.tx, fun c => .inr ⟨at_, rfl, ?_⟩, fun k ek hk => ?_⟩
        · decreasing_trivial_pre_omega
          refine ⟨true, at_, _, rfl, ha.tx, ?_⟩
          rw [due_no (m := (m : Int) - 1) (by rw [← c]; congr 1; omega)]
          decreasing_trivial_pre_omega
          exact hN2 _ _ ⟨rfl, rfl⟩
        · have ey : isNum ((m : Int) - 1) at_ = true := by rw [ek, isNum, decide_eq_true (by omega), decide_eq_true (by omega)]; rfl
          intro t' ht' had
          decreasing_trivial_pre_omega
          refine ⟨true, at_, _, rfl, ha.tx, ?_⟩
          rw [due_yes ey]
          decreasing_trivial_pre_omega
          exact hN2 _ _ ⟨rfl, rfl⟩
      obtain ⟨rfl, rfl⟩ := c
      refine seq_cut (fun ρ' M' => M' = M1 ∧ ρ' = [some (.o (.ref a)), some (.r st), some (.d (.int (m : Nat))), some (.d (.list WRG)), some (.d (.int (0 + (i : Int)))), none, none, none, none, none, some (.d (.bool true)), some (.d (toD g)), some (.d at_), y13]) (fun N2 hN2 => ?_) (fun ρ' M1 c => ?_)
      · decreasing_trivial_pre_omega
        refine RefT.of ht ⟨ha.tx, fun c => .inr ⟨at_, rfl, ?_⟩, fun k ek hk => ?_⟩
        · decreasing_trivial_pre_omega
          refine ⟨true, at_, _, rfl, ha.tx, ?_⟩
          rw [due_no (m := (m : Int)) (by rw [← c]; congr 1; omega)]
          decreasing_trivial_pre_omega
          exact hN2 _ _ ⟨rfl, rfl⟩
        · have ey : isNum ((m : Int)) at_ = true := by rw [ek, isNum, decide_eq_true (by omega), decide_eq_true (by omega)]; rfl
          refine ⟨fun z => ?_, fun _ _ t' ht' had => ?_⟩
          · rcases z with z | z
            · cases z
            · exfalso; omega
          decreasing_trivial_pre_omega
          refine ⟨true, at_, _, rfl, ha.tx, ?_⟩
          rw [due_yes ey]
          decreasing_trivial_pre_omega
          exact hN2 _ _ ⟨rfl, rfl⟩
      obtain ⟨rfl, rfl⟩ := c
      refine seq_cut (fun ρ' M' => M' = M1 ∧ ρ' = [some (.o (.ref a)), some (.r st), some (.d (.int (m : Nat))), some (.d (.list WRG)), some (.d (.int (0 + (i : Int)))), none, none, none, none, none, some (.d (.bool true)), some (.d (toD g)), some (.d at_), y13]) (fun N2 hN2 => ?_) (fun ρ' M1 c => ?_)
      · decreasing_trivial_pre_omega
        refine RefT.of ht ⟨ha.tx, fun c => .inr ⟨at_, rfl, ?_⟩, fun k ek hk => ?_⟩
        · decreasing_trivial_pre_omega
          refine ⟨true, at_, _, rfl, ha.tx, ?_⟩
          rw [due_no (m := (m : Int)) (by rw [← c]; congr 1; omega)]
          decreasing_trivial_pre_omega
          exact hN2 _ _ ⟨rfl, rfl⟩
        · have ey : isNum ((m : Int)) at_ = true := by rw [ek, isNum, decide_eq_true (by omega), decide_eq_true (by omega)]; rfl
          intro p q hp hq ad1 ad2
          decreasing_trivial_pre_omega
          refine ⟨true, at_, _, rfl, ha.tx, ?_⟩
          rw [due_yes ey]
          decreasing_trivial_pre_omega
          exact hN2 _ _ ⟨rfl, rfl⟩
      obtain ⟨rfl, rfl⟩ := c
      refine seq_cut (fun ρ' M' => M' = M1 ∧ ρ' = [some (.o (.ref a)), some (.r st), some (.d (.int (m : Nat))), some (.d (.list WRG)), some (.d (.int (0 + (i : Int)))), none, none, none, none, none, some (.d (.bool true)), some (.d (toD g)), some (.d at_), y13]) (fun N2 hN2 => ?_) (fun ρ' M1 c => ?_)
      · decreasing_trivial_pre_omega
        refine RefT.of ht (RefT.of (t := nil) tn ⟨fun z => by rw [show sz nil = 0 from rfl] at z; omega, fun _ t' ht' had => ?_⟩)
        decreasing_trivial_pre_omega
        refine ⟨true, .int 0, 0, rfl, rfl, ?_⟩
        rw [due_yes (a := .int 0) (m := 0) (by decide)]
        decreasing_trivial_pre_omega
        exact hN2 _ _ ⟨rfl, rfl⟩
      obtain ⟨rfl, rfl⟩ := c
      refine seq_cut (fun ρ' M' => M' = M1 ∧ ρ' = [some (.o (.ref a)), some (.r st), some (.d (.int (m : Nat))), some (.d (.list WRG)), some (.d (.int (0 + (i : Int)))), none, none, none, none, none, some (.d (.bool true)), some (.d (toD g)), some (.d at_), y13]) (fun N2 hN2 => ?_) (fun ρ' M1 c => ?_)
      · decreasing_trivial_pre_omega
        refine RefT.of (t := nil) tn (RefT.of ht ⟨fun z => by rw [show sz nil = 0 from rfl] at z; omega, fun _ t' ht' had => ?_⟩)
        decreasing_trivial_pre_omega
        refine ⟨true, .int 0, 0, rfl, rfl, ?_⟩
        rw [due_yes (a := .int 0) (m := 0) (by decide)]
        decreasing_trivial_pre_omega
        exact hN2 _ _ ⟨rfl, rfl⟩
      obtain ⟨rfl, rfl⟩ := c
      refine seq_cut (fun ρ' M' => M' = M1 ∧ ρ' = [some (.o (.ref a)), some (.r st), some (.d (.int (m : Nat))), some (.d (.list WRG)), some (.d (.int (0 + (i : Int)))), none, none, none, none, none, some (.d (.bool true)), some (.d (toD g)), some (.d at_), y13]) (fun N2 hN2 => ?_) (fun ρ' M1 c => ?_)
      · decreasing_trivial_pre_omega
        refine .inl ?_
        decreasing_trivial_pre_omega
        refine ⟨fun z => absurd z (no_bad (by simp) ni12), fun _ _ g2 hg2 => ?_⟩
        have hg2n := TieN.of hg2 (by simp) ni12
        have hz2 := hg2.sz
        rw [show ([.int 1, .int 2] : List PyData).length = 2 from rfl] at hz2
        decreasing_trivial_pre_omega
        refine RefT.of hg2n (RefT.of ht ⟨fun z => by omega, fun _ t' ht' had => ?_⟩)
        decreasing_trivial_pre_omega
        refine ⟨true, .int 0, 0, rfl, rfl, ?_⟩
        rw [due_yes (a := .int 0) (m := 0) (by decide)]
        decreasing_trivial_pre_omega
        exact hN2 _ _ ⟨rfl, rfl⟩
      obtain ⟨rfl, rfl⟩ := c
      decreasing_trivial_pre_omega
      intro u u0 u1
      refine gO_atD (fun d => txt d = true ∧ isItem d = false) u0 (by show u < 7; omega) bad_ok fun bd hbd => ?_
      decreasing_trivial_pre_omega
      refine ⟨toD g, at_, bd, m, true, rfl, ⟨.inl ⟨rfl, g, rfl, ht, hsz⟩, ha, hbd.1, hbd.2, hT2⟩, ?_⟩
      decreasing_trivial_pre_omega
      intro w9 w90 w91
      refine gO_atD (fun d => d ∈ WRG) w90 (by show w9 < 8; omega) (fun d h => h) fun wd2 hwd2 => ?_
      obtain ⟨z1, z2, z3⟩ := wrg_bad wd2 hwd2
      decreasing_trivial_pre_omega
      refine ⟨toD g, wd2, m, true, rfl, ⟨.inl ⟨rfl, g, rfl, ht, hsz⟩, z1, z2, z3, hT3⟩, ?_⟩
      decreasing_trivial_pre_omega
      exact hN _ _ ⟨rfl, _, _, _, _, _, rfl⟩
  · obtain ⟨rfl, y4, y10, y11, y12, y13, rfl⟩ := p
    decreasing_trivial_pre_omega
    intro u u0 u1
    refine gO_atD (fun d => txt d = true ∧ isItem d = false) u0 (by show u < 6; omega) odd_ok fun od hod => ?_
    have hni := rg_ni (z := 1000) (by omega)
    have hrl := rgD_len 0 1000
    have htx := ni_txt hni
    have hni2 := rg_ni (z := 1001) (by omega)
    have hrl2 := rgD_len 0 1001
    have htx2 := ni_txt hni2
    have tn : TieN nil := ⟨trivial, by decide, fun x hx => by cases hx⟩
    decreasing_trivial_pre_omega
    refine .inl ?_
    decreasing_trivial_pre_omega
    refine ⟨fun z => absurd z (no_bad (by omega) hni), fun _ _ g hg => ?_⟩
    have ht : TieN g := TieN.of hg (by omega) hni
    have hsz : sz g = 1000 := by have := hg.sz; omega
    decreasing_trivial_pre_omega
    refine ⟨hod.1, RefT.of (t := nil) tn ?_⟩
    refine seatOk.of (i := 0) (m := sz nil + 1) (by decide) ?_
    refine ⟨fun z => .inl ⟨rfl, ?_⟩, fun z => by rw [hod.2] at z; cases z⟩
    decreasing_trivial_pre_omega
    intro p hp
    have tpp : tp ≠ p := fun z => by rw [z, hp] at hT1; cases hT1
    have stp_ : st ≠ p := fun z => by rw [z, hp] at hM; cases hM
    have hT9 : ∀ o, (mset M1 p o) tp = some (.tab qLaw) := fun o => by rw [mset_ne tpp]; exact hT1
    have hM9 : ∀ o, (mset M1 p o) st = some (.src false) := fun o => by rw [mset_ne stp_]; exact hM
    have t1 : txtAll [.int 1, od] = true := by rw [txtAll, txtAll, txtAll, hod.1]; rfl
    decreasing_trivial_pre_omega
    refine ⟨hT9 _, ?_⟩
    decreasing_trivial_pre_omega
    refine .inl ?_
    decreasing_trivial_pre_omega
    refine ⟨fun _ => .inl ⟨rfl, ?_⟩, fun _ z => by have := z od (by simp); rw [hod.2] at this; cases this⟩
    decreasing_trivial_pre_omega
    rw [mset_mset]
    refine ⟨hT9 _, ?_⟩
    decreasing_trivial_pre_omega
    refine RefT.of ht ?_
    refine seatOk.of (i := 3) (m := sz g + 1) (by omega) ?_
    refine ⟨fun z => .inl ⟨rfl, ?_⟩, fun _ z => absurd hsz z⟩
    decreasing_trivial_pre_omega
    rw [mset_mset]
    refine ⟨hT9 _, ?_⟩
    decreasing_trivial_pre_omega
    refine .inl ?_
    decreasing_trivial_pre_omega
    refine ⟨fun z => absurd z (no_bad (by simp) ni1), fun _ _ g3 hg3 => ?_⟩
    have hg3n := TieN.of hg3 (by simp) ni1
    have hz3 := hg3.sz
    rw [show ([.int 1] : List PyData).length = 1 from rfl] at hz3
    decreasing_trivial_pre_omega
    refine RefT.of ht (RefT.of hg3n ⟨fun _ => .inl ⟨rfl, ?_⟩, fun z => by omega⟩)
    decreasing_trivial_pre_omega
    rw [mset_mset]
    refine ⟨hT9 _, ?_⟩
    decreasing_trivial_pre_omega
    refine .inl ?_
    decreasing_trivial_pre_omega
    refine ⟨fun _ => .inl ⟨rfl, ?_⟩, fun z => by omega⟩
    decreasing_trivial_pre_omega
    rw [mset_mset]
    refine ⟨hT9 _, ?_⟩
    decreasing_trivial_pre_omega
    refine .inr (.inr (.inl ?_))
    decreasing_trivial_pre_omega
    refine .inl ⟨rfl, ?_⟩
    decreasing_trivial_pre_omega
    rw [mset_mset]
    intro p2 hp2
    have n2 : p2 ≠ p := fun z => by rw [z, mset_same] at hp2; cases hp2
    rw [mset_ne n2] at hp2
    decreasing_trivial_pre_omega
    intro p3 hp3
    have n3 : p3 ≠ p2 := fun z => by rw [z, mset_same] at hp3; cases hp3
    rw [mset_ne n3] at hp3
    have n4 : p3 ≠ p := fun z => by rw [z, mset_same] at hp3; cases hp3
    rw [mset_ne n4] at hp3
    have s2 : st ≠ p2 := fun z => by rw [z, hp2] at hM; cases hM
    have s3 : st ≠ p3 := fun z => by rw [z, hp3] at hM; cases hM
    have u2 : tp ≠ p2 := fun z => by rw [z, hp2] at hT1; cases hT1
    have u3 : tp ≠ p3 := fun z => by rw [z, hp3] at hT1; cases hT1
    have fS : ∀ o o2 o3, (mset (mset (mset M1 p o) p2 o2) p3 o3) st = some (.src false) := fun o o2 o3 => by rw [mset_ne s3, mset_ne s2]; exact hM9 o
    have fT : ∀ o o2 o3, (mset (mset (mset M1 p o) p2 o2) p3 o3) tp = some (.tab qLaw) := fun o o2 o3 => by rw [mset_ne u3, mset_ne u2]; exact hT9 o
    have fP : ∀ o o2 o3, (mset (mset (mset M1 p o) p2 o2) p3 o3) p = some o := fun o o2 o3 => by rw [mset_ne (Ne.symm n4), mset_ne (Ne.symm n2), mset_same]
    have f2 : ∀ o o2 o3, (mset (mset (mset M1 p o) p2 o2) p3 o3) p2 = some o2 := fun o o2 o3 => by rw [mset_ne (Ne.symm n3), mset_same]
    decreasing_trivial_pre_omega
    refine ⟨⟨fS _ _ _, by decide, by decide⟩, fun v v0 v1 => ?_⟩
    decreasing_trivial_pre_omega
    refine gO_atW (NonT p2) v0 (by show v < 10; omega) (nons p2) fun w hw => ?_
    decreasing_trivial_pre_omega
    refine ⟨⟨_, fP _ _ _⟩, ?_⟩
    decreasing_trivial_pre_omega
    refine ⟨fT _ _ _, ?_⟩
    decreasing_trivial_pre_omega
    refine tied_non hw (f2 _ _ _) (.inl ⟨rfl, ?_⟩)
    decreasing_trivial_pre_omega
    refine ⟨_, fP _ _ _, ?_⟩
    decreasing_trivial_pre_omega
    refine ⟨⟨by rw [mset_ne stp_]; exact fS _ _ _, by decide, by decide⟩, fun nu nu0 nu1 => ?_⟩
    decreasing_trivial_pre_omega
    refine ⟨List.replicate 7 (.list [.str "NoTie", .bool true]), mset_same, ?_⟩
    refine ⟨⟨by decide +kernel, by decide +kernel⟩, ?_⟩
    have e7 : PyData.eqv (.list (List.replicate 7 (.list [.str "NoTie", .bool true]))) (.list (List.replicate (Int.toNat 7) [PyData.list [.str "NoTie", .bool true]]).flatten) = true := by decide +kernel
    rw [e7]
    decreasing_trivial_pre_omega
    rfl
end
end Tl
set_option Elab.async false
set_option linter.all false
set_option maxRecDepth 100000
set_option maxHeartbeats 8000000
namespace Tl
open PySem L2 RZ Tie
local macro_rules
  | `(tactic| decreasing_trivial) => `(tactic| ((with_reducible (conv => whnf)); (repeat ((first | (with_reducible refine gTie_i ?_) | (with_reducible refine gTie_n ?_) | (with_reducible refine gTie_4 ?_) | (with_reducible refine gDs_c ?_) | (with_reducible refine gDs_n ?_) | (with_reducible refine gNs_c ?_) | (with_reducible refine gNs_n ?_) | (with_reducible refine gO_i tyAny_lt ?_) | (with_reducible refine gIs_c ?_) | (with_reducible refine gIs_n ?_) | (with_reducible refine gBs_c ?_) | (with_reducible refine gBs_n ?_) | (with_reducible refine gSs_c ?_) | (with_reducible refine gSs_n ?_) | (with_reducible refine gO_i tyIs_int ?_) | (with_reducible refine gO_i tyIs_bool ?_) | (with_reducible refine gO_i tyIs_str ?_) | (with_reducible refine gO_i tyIs_tuple ?_) | (with_reducible refine gO_i tyIs_list ?_) | (with_reducible refine gDs_i ?_) | (with_reducible refine gO_i (Eq.refl _) ?_) | (with_reducible refine gO_i (by assumption) ?_) | (with_reducible refine gO_i at_0 ?_) | (with_reducible refine gO_i at_m0 ?_) | (with_reducible refine gO_i at_1 ?_) | (with_reducible refine gO_i at_m1 ?_) | (with_reducible refine gO_i at_2 ?_) | (with_reducible refine gO_i at_m2 ?_) | (with_reducible refine gO_i at_3 ?_) | (with_reducible refine gO_i at_m3 ?_) | (with_reducible refine gO_i at_4 ?_) | (with_reducible refine gO_i at_m4 ?_) | (with_reducible refine gO_i at_5 ?_) | (with_reducible refine gO_i at_m5 ?_) | (with_reducible refine gO_i at_6 ?_) | (with_reducible refine gO_i at_m6 ?_) | (with_reducible refine gO_i at_7 ?_) | (with_reducible refine gO_i at_m7 ?_) | (with_reducible refine IfB.ngf ?_) | (with_reducible refine IfB.ngt ?_) | (with_reducible refine IfB.not ?_) | (with_reducible refine IfB.nil ?_) | (with_reducible refine IfB.nilT ?_) | (with_reducible refine IfB.f isE_c ?_) | (with_reducible refine IfB.t isE_n ?_) | (with_reducible refine IfB.t ?gha ?_; (case gha => rfl)) | (with_reducible refine IfB.f ?gha ?_; (case gha => rfl)) | (with_reducible refine IfB.t ?gha ?_; (case gha => assumption)) | (with_reducible refine IfB.f ?gha ?_; (case gha => assumption)) | (with_reducible refine IfB.yes (Eq.refl _) ?_) | (with_reducible refine IfB.yes ?gha ?_; (case gha => (first | omega | (simp only [len_c, len_n, List.length_map]; omega)))) | (with_reducible refine IfB.no ?gha ?_; (case gha => (first | omega | (simp only [len_c, len_n, List.length_map]; omega)))) | (with_reducible refine IfB.t ?gha ?_; (case gha => decide +kernel)) | (with_reducible refine IfB.f ?gha ?_; (case gha => decide +kernel))); (with_reducible (conv => whnf))))))
local macro_rules
  | `(tactic| decreasing_trivial_pre_omega) => `(tactic| (decreasing_trivial; (repeat ((first | ((with_reducible refine And.intro ?gha ?_); (case gha => (first | assumption | omega | exact rfl | (exact mset_same) | (exact ⟨_, mset_same⟩) | (exact Exists.intro _ (by first | exact mset_same | assumption | (rw [mset_ne (by assumption)]; first | exact mset_same | assumption))) | (exact sm_of (by omega) (by omega)) | (exact sz1000 (by first | omega | (simp; done) | (simp; omega))) | (exact Or.inl ⟨by decide, by decide⟩) | decide | (simp; done) | (refine ⟨?_, ?_⟩ <;> (first | assumption | omega | exact rfl | (exact mset_same) | (exact ⟨_, mset_same⟩) | (exact Exists.intro _ (by first | exact mset_same | assumption | (rw [mset_ne (by assumption)]; first | exact mset_same | assumption))) | (exact sm_of (by omega) (by omega)) | (exact sz1000 (by first | omega | (simp; done) | (simp; omega))) | (exact Or.inl ⟨by decide, by decide⟩) | decide | (simp; done))) | (refine ⟨?_, ?_, ?_⟩ <;> (first | assumption | omega | exact rfl | (exact mset_same) | (exact ⟨_, mset_same⟩) | (exact Exists.intro _ (by first | exact mset_same | assumption | (rw [mset_ne (by assumption)]; first | exact mset_same | assumption))) | (exact sm_of (by omega) (by omega)) | (exact sz1000 (by first | omega | (simp; done) | (simp; omega))) | (exact Or.inl ⟨by decide, by decide⟩) | decide | (simp; done))) | (refine ⟨?_, ?_, ?_, ?_⟩ <;> (first | assumption | omega | exact rfl | (exact mset_same) | (exact ⟨_, mset_same⟩) | (exact Exists.intro _ (by first | exact mset_same | assumption | (rw [mset_ne (by assumption)]; first | exact mset_same | assumption))) | (exact sm_of (by omega) (by omega)) | (exact sz1000 (by first | omega | (simp; done) | (simp; omega))) | (exact Or.inl ⟨by decide, by decide⟩) | decide | (simp; done)))))) | (with_reducible refine exW (by first | exact mset_same | assumption | (rw [mset_ne (by assumption)]; first | exact mset_same | assumption)) ?_)); decreasing_trivial))))
section
variable {P : Program} {w : World} {K : PySem.W.Frag} {mg : Str → Option Value} {base : Heap}
abbrev sItemAt : Stmt := top 35
theorem scItemAt : FnScope ["tie", "at"] ["tie", "at"] (defScope sItemAt) := ⟨rfl, rfl, rfl, by decide +kernel, rfl, by decide +kernel, by decide +kernel⟩
theorem ok_itemAt {f C C2 : Addr} {fd : FuncData} {k j : Nat} (F : Fun K "item_at" "item_at" sItemAt f fd) (Ucheck_tie : UseX P w K mg base "check_tie" ["thing"] j (spD K 1 (tfChkE C))) (Ucheck_seat : UseX P w K mg base "check_seat" ["at", "behind"] j (spD K 2 (tfSeat C2))) (Umany_in : Use P w K mg base "many_in" ["tie"] j (spD K 1 tfMany)) (Unth : Use P w K mg base "nth" ["tie", "at"] j (spD K 2 (tfNth 30))) (hj : j ≤ k) :
    FnOk P w K mg base (L2.CX P w) (k + 1) f fd ["tie", "at"] (spD K 2 (tfItemAt C C2)) := by
  refine okDX F scItemAt rfl fun cdv A outer s H E hr => ?_
  refine ⟨_, fun RE => _, (pss_cons (ps_expr (pe_callS Ucheck_tie.ok (hr.mono (by omega)) rfl Ucheck_tie.m Ucheck_tie.kp Ucheck_tie.b (fun σ => passAt (takes_of (E := E) rfl rfl rfl rfl) σ) (pa_cons (pv 0) pa_nil)))
    (pss_cons (ps_expr (pe_callS Ucheck_seat.ok (hr.mono (by omega)) rfl Ucheck_seat.m Ucheck_seat.kp Ucheck_seat.b (fun σ => passAt (takes_of (E := E) rfl rfl rfl rfl) σ) (pa_cons (pv 1) (pa_cons (PE.nox (pe_call Umany_in.ok (hr.mono (by omega)) rfl Umany_in.m Umany_in.kp Umany_in.b .nil pass0 (pa_cons (pv 0) pa_nil))) pa_nil))))
    (pss_one (ps_ret (PE.nox (pe_call Unth.ok (hr.mono (by omega)) rfl Unth.m Unth.kp Unth.b .nil pass0 (pa_cons (pv 0) (pa_cons (pv 1) pa_nil)))))))), fun RE => (ss_cons (ss_drop (se_callX (sa_cons se_nm sa_nil)))
    (ss_cons (ss_drop (se_callX (sa_cons se_nm (sa_cons (se_call (sa_cons se_nm sa_nil)) sa_nil))))
    (ss_ret (se_call (sa_cons se_nm (sa_cons se_nm sa_nil)))))), fun ws M R RX hl h => ?_⟩
  obtain ⟨x, y, rfl, h1⟩ := g2_of h
  obtain ⟨d, rfl, h3⟩ := gD_of h1
  obtain ⟨a, rfl, h4⟩ := gD_of h3
  clear h h1 h3
  simp only [start0, len_c, len_n, map_c, map_n, app_c, app_n, rep_0, rep_s, Nat.reduceAdd, Nat.reduceSub]
  (with_reducible (conv => whnf))
  refine h4.ok fun t e g h2 => ?_
  subst e
  obtain ⟨ha, hno, hyes⟩ := h2
  have fl := flat_of g.ev g.le
  have hev := g.ev
  have hle := g.le
  decreasing_trivial_pre_omega
  refine ⟨fun c => ?_, hno⟩
  obtain ⟨i, rfl, hi⟩ := isNum_of c
  decreasing_trivial_pre_omega
  intro v hv
  exact hyes i rfl hi v hv
end
end Tl
set_option Elab.async false
set_option linter.all false
set_option maxRecDepth 100000
set_option maxHeartbeats 16000000
namespace Tl
open PySem L2 RZ
section
variable {P : Program} {w : World} {K : PySem.W.Frag} {mg : Str → Option Value}
structure Defs (K : PySem.W.Frag) (mg : Str → Option Value) where
  d_is_count : At K mg "is_count" sIsCount
  d_is_number : At K mg "is_number" sIsNumber
  d__law_take : At K mg "_law_take" sTake
  d_is_value : At K mg "is_value" sIsVal
  d_is_item : At K mg "is_item" sIsItem
  d_has_tie_form : At K mg "has_tie_form" sTieForm
  d_is_balance : At K mg "is_balance" sBal
  d_room_behind_tie : At K mg "room_behind_tie" sRoomT
  d_is_even : At K mg "is_even" sIsEven
  d_check_tie : At K mg "check_tie" sChkTie
  d_many_in : At K mg "many_in" sMany
  d_knit : At K mg "knit" sKnit
  d_single : At K mg "single" sSingle
  d_turned_right : At K mg "turned_right" sTurnR
  d_turned_left : At K mg "turned_left" sTurnL
  d_linked : At K mg "linked" sLinked
  d_nth : At K mg "nth" sNth
  d_with_item : At K mg "with_item" sWithI
  d_both_of : At K mg "both_of" sBoth
  d_without_item : At K mg "without_item" sWo
  d_halves : At K mg "halves" sHalves
  d_built : At K mg "built" sBuilt
  d_check_seat : At K mg "check_seat" sSeat
  d_out_at : At K mg "out_at" sOutAt
  d_parted : At K mg "parted" sParted
  d_put_at : At K mg "put_at" sPutAt
  d_tied_both : At K mg "tied_both" sTBoth
  d_tied : At K mg "tied" sTied
  d_steps_of : At K mg "steps_of" sSteps
  d_number_within : At K mg "number_within" sNumW
  d__law_word : At K mg "_law_word" sWord
  d_fresh : At K mg "fresh" sFresh
  d__law_due : At K mg "_law_due" sDue
  d__law_late_item : At K mg "_law_late_item" sLate
  d__law_fresh_so : At K mg "_law_fresh_so" sFreshSo
  d__law_steps : At K mg "_law_steps" sLSteps
  d_law : At K mg "law" sLaw
  d_item_at : At K mg "item_at" sItemAt
def calls (D : Defs K mg) (T : Bl mg) (A : Cls K mg) (CF : ∃ t, mg "FIELDS" = some (.int 8 t)) (CT : ∃ t, mg "TIED" = some (.int 1000 t)) {cA tpA cB tpB : Addr} (hcA : D.d__law_late_item.fd.code = .ref cA) (hcB : D.d__law_fresh_so.fd.code = .ref cB) (base : Heap) (TBA : LamX.TabB base mg cA tpA) (TBB : LamX.TabB base mg cB tpB) : Calls P w K mg base A tpA tpB :=
  let uCount := use (P := P) (w := w) (base := base) D.d_is_count (D.d_is_count.F.binds (ps := ["thing"]) fun _ _ _ _ _ _ us hl => match us, hl with | [_], _ => rfl) (ok_count (k := 0) D.d_is_count.F T)
  let uNumber := use (P := P) (w := w) (base := base) D.d_is_number (D.d_is_number.F.binds (ps := ["thing", "most"]) fun _ _ _ _ _ _ us hl => match us, hl with | [_, _], _ => rfl) (ok_number (k := 1) D.d_is_number.F uCount (by decide) T)
  let uVal := use (P := P) (w := w) (base := base) D.d_is_value (D.d_is_value.F.binds (ps := ["thing"]) fun _ _ _ _ _ _ us hl => match us, hl with | [_], _ => rfl) (ok_isVal (k := 0) D.d_is_value.F T)
  let uItem := use (P := P) (w := w) (base := base) D.d_is_item (D.d_is_item.F.binds (ps := ["thing"]) fun _ _ _ _ _ _ us hl => match us, hl with | [_], _ => rfl) (ok_isItem (k := 1) D.d_is_item.F uVal (by decide) T CF)
  let uTieF := use (P := P) (w := w) (base := base) D.d_has_tie_form (D.d_has_tie_form.F.binds (ps := ["thing"]) fun _ _ _ _ _ _ us hl => match us, hl with | [_], _ => rfl) (ok_tieForm (k := 2) D.d_has_tie_form.F uItem uCount (by decide) (by decide) T)
  let uBal := use (P := P) (w := w) (base := base) D.d_is_balance (D.d_is_balance.F.binds (ps := ["one", "other"]) fun _ _ _ _ _ _ us hl => match us, hl with | [_, _], _ => rfl) (ok_bal (k := 2) D.d_is_balance.F T)
  let uRoomT := use (P := P) (w := w) (base := base) D.d_room_behind_tie (D.d_room_behind_tie.F.binds (ps := ["thing", "room"]) fun _ _ _ _ _ _ us hl => match us, hl with | [_, _], _ => rfl) (ok_roomT (j := 3) D.d_room_behind_tie.F D.d_room_behind_tie.m uTieF uBal T 70)
  let uEven := use (P := P) (w := w) (base := base) D.d_is_even (D.d_is_even.F.binds (ps := ["thing"]) fun _ _ _ _ _ _ us hl => match us, hl with | [_], _ => rfl) (ok_isEven (k := 73) D.d_is_even.F uRoomT (by decide) T CT)
  let uChk := useX (P := P) (w := w) (base := base) D.d_check_tie (D.d_check_tie.F.binds (ps := ["thing"]) fun _ _ _ _ _ _ us hl => match us, hl with | [_], _ => rfl) (ok_chkTie (k := 74) D.d_check_tie.F A.e_NoTie uEven (by decide))
  let uMany := use (P := P) (w := w) (base := base) D.d_many_in (D.d_many_in.F.binds (ps := ["tie"]) fun _ _ _ _ _ _ us hl => match us, hl with | [_], _ => rfl) (ok_many (k := 0) D.d_many_in.F T)
  let uKnit := use (P := P) (w := w) (base := base) D.d_knit (D.d_knit.F.binds (ps := ["left", "item", "right"]) fun _ _ _ _ _ _ us hl => match us, hl with | [_, _, _], _ => rfl) (ok_knit (k := 1) D.d_knit.F uMany (by decide) T)
  let uSingle := use (P := P) (w := w) (base := base) D.d_single (D.d_single.F.binds (ps := ["item"]) fun _ _ _ _ _ _ us hl => match us, hl with | [_], _ => rfl) (ok_single (k := 2) D.d_single.F uKnit (by decide) T)
  let uTurnR := use (P := P) (w := w) (base := base) D.d_turned_right (D.d_turned_right.F.binds (ps := ["heavy", "top"]) fun _ _ _ _ _ _ us hl => match us, hl with | [_, _], _ => rfl) (ok_turnR (j := 3) (k := 3) D.d_turned_right.F (uMany.up (by decide)) (uKnit.up (by decide)) uBal (by decide) T)
  let uTurnL := use (P := P) (w := w) (base := base) D.d_turned_left (D.d_turned_left.F.binds (ps := ["heavy", "top"]) fun _ _ _ _ _ _ us hl => match us, hl with | [_, _], _ => rfl) (ok_turnL (j := 3) (k := 3) D.d_turned_left.F (uMany.up (by decide)) (uKnit.up (by decide)) uBal (by decide) T)
  let uLinked := use (P := P) (w := w) (base := base) D.d_linked (D.d_linked.F.binds (ps := ["left", "item", "right"]) fun _ _ _ _ _ _ us hl => match us, hl with | [_, _, _], _ => rfl) (ok_linked (j := 4) D.d_linked.F D.d_linked.m (uMany.up (by decide)) (uKnit.up (by decide)) uTurnR uTurnL T 60)
  let uNth := use (P := P) (w := w) (base := base) D.d_nth (D.d_nth.F.binds (ps := ["tie", "at"]) fun _ _ _ _ _ _ us hl => match us, hl with | [_, _], _ => rfl) (ok_nth (j := 1) D.d_nth.F D.d_nth.m uMany T 30)
  let uWith := use (P := P) (w := w) (base := base) D.d_with_item (D.d_with_item.F.binds (ps := ["tie", "at", "item"]) fun _ _ _ _ _ _ us hl => match us, hl with | [_, _, _], _ => rfl) (ok_withI (j := 64) D.d_with_item.F D.d_with_item.m (uMany.up (by decide)) (uSingle.up (by decide)) uLinked T 30)
  let uWo := use (P := P) (w := w) (base := base) D.d_without_item (D.d_without_item.F.binds (ps := ["tie", "at"]) fun _ _ _ _ _ _ us hl => match us, hl with | [_, _], _ => rfl) (ok_wo (j := 64) D.d_without_item.F D.d_without_item.m D.d_both_of.F D.d_both_of.m (uNth.up (by decide)) (uMany.up (by decide)) uLinked T 30)
  let uBoth := use (P := P) (w := w) (base := base) D.d_both_of (D.d_both_of.F.binds (ps := ["one", "other"]) fun _ _ _ _ _ _ us hl => match us, hl with | [_, _], _ => rfl) (ok_both1 (j := 124) (n := 30) D.d_both_of.F uWo (uNth.up (by decide)) (uLinked.up (by decide)) T)
  let uHalves := use (P := P) (w := w) (base := base) D.d_halves (D.d_halves.F.binds (ps := ["tie", "at"]) fun _ _ _ _ _ _ us hl => match us, hl with | [_, _], _ => rfl) (ok_halves (j := 64) D.d_halves.F D.d_halves.m (uMany.up (by decide)) uLinked T 30)
  let uBuiltL := use (P := P) (w := w) (base := base) D.d_built (D.d_built.F.binds (ps := ["items"]) fun _ _ _ _ _ _ us hl => match us, hl with | [_], _ => rfl) (ok_builtL (j := 2) D.d_built.F D.d_built.m uKnit T 11)
  let uSeat := useX (P := P) (w := w) (base := base) D.d_check_seat (D.d_check_seat.F.binds (ps := ["at", "behind"]) fun _ _ _ _ _ _ us hl => match us, hl with | [_, _], _ => rfl) (ok_seat (k := 2) D.d_check_seat.F A.e_NoItem uNumber (by decide) (by decide))
  let uItemAt := useX (P := P) (w := w) (base := base) D.d_item_at (D.d_item_at.F.binds (ps := ["tie", "at"]) fun _ _ _ _ _ _ us hl => match us, hl with | [_, _], _ => rfl) (ok_itemAt (j := 75) (k := 75) D.d_item_at.F uChk (uSeat.up (by decide)) (uMany.up (by decide)) (uNth.up (by decide)) (by decide))
  let uOutAt := useX (P := P) (w := w) (base := base) D.d_out_at (D.d_out_at.F.binds (ps := ["tie", "at"]) fun _ _ _ _ _ _ us hl => match us, hl with | [_, _], _ => rfl) (ok_outAt (j := 130) (k := 130) D.d_out_at.F (uChk.up (by decide)) (uSeat.up (by decide)) (uMany.up (by decide)) (uWo.up (by decide)) (by decide))
  let uParted := useX (P := P) (w := w) (base := base) D.d_parted (D.d_parted.F.binds (ps := ["tie", "at"]) fun _ _ _ _ _ _ us hl => match us, hl with | [_, _], _ => rfl) (ok_parted (j := 130) (k := 130) D.d_parted.F (uChk.up (by decide)) (uSeat.up (by decide)) (uMany.up (by decide)) (uHalves.up (by decide)) (by decide))
  let uPutAt := useX (P := P) (w := w) (base := base) D.d_put_at (D.d_put_at.F.binds (ps := ["tie", "at", "item"]) fun _ _ _ _ _ _ us hl => match us, hl with | [_, _, _], _ => rfl) (ok_putAt (j := 130) (k := 130) D.d_put_at.F A.e_NoTie (uChk.up (by decide)) (uSeat.up (by decide)) (uMany.up (by decide)) (uItem.up (by decide)) (uWith.up (by decide)) (by decide) CT)
  let uTBoth := useX (P := P) (w := w) (base := base) D.d_tied_both (D.d_tied_both.F.binds (ps := ["one", "other"]) fun _ _ _ _ _ _ us hl => match us, hl with | [_, _], _ => rfl) (ok_tBoth (j := 130) (k := 130) D.d_tied_both.F A.e_NoTie (uChk.up (by decide)) (uMany.up (by decide)) (uBoth.up (by decide)) (by decide) CT)
  let uTied := useX (P := P) (w := w) (base := base) D.d_tied (D.d_tied.F.binds (ps := ["items"]) fun _ _ _ _ _ _ us hl => match us, hl with | [_], _ => rfl) (ok_tied (j := 13) (k := 13) D.d_tied.F A.e_NoTie (uItem.up (by decide)) uBuiltL (by decide) T CT)
  let uSteps := use (P := P) (w := w) (base := base) D.d_steps_of (D.d_steps_of.F.binds (ps := ["many"]) fun _ _ _ _ _ _ us hl => match us, hl with | [_], _ => rfl) (ok_steps (k := 0) D.d_steps_of.F T)
  let uNumW := use (P := P) (w := w) (base := base) D.d_number_within (D.d_number_within.F.binds (ps := ["tie", "numbers"]) fun _ _ _ _ _ _ us hl => match us, hl with | [_, _], _ => rfl) (ok_numW D.d_number_within.F D.d_number_within.m T 30)
  let uFresh := useX (P := P) (w := w) (base := base) D.d_fresh (D.d_fresh.F.binds (ps := ["tie", "some"]) fun _ _ _ _ _ _ us hl => match us, hl with | [_, _], _ => rfl) (ok_freshX (j := 75) (k := 75) D.d_fresh.F A.e_NoTie uChk (uNumW.up (by decide)) (by decide) T)
  let uTake := use (P := P) (w := w) (base := base) D.d__law_take (D.d__law_take.F.binds (ps := ["_law_state", "_law_below"]) fun _ _ _ _ _ _ us hl => match us, hl with | [_, _], _ => rfl) (ok_take (k := 0) D.d__law_take.F T)
  let uWord := ok_word (P := P) (w := w) (base := base) D.d__law_word.F D.d__law_word.m D.d__law_word.F.kp (D.d__law_word.F.binds (ps := ["_law_call"]) fun _ _ _ _ _ _ us hl => match us, hl with | [_], _ => rfl) A T
  let uDue := use (P := P) (w := w) (base := base) D.d__law_due (D.d__law_due.F.binds (ps := ["_law_is_tie", "_law_at", "_law_most"]) fun _ _ _ _ _ _ us hl => match us, hl with | [_, _, _], _ => rfl) (ok_due (k := 0) D.d__law_due.F T)
  let uLate := use (P := P) (w := w) (base := base) D.d__law_late_item (D.d__law_late_item.F.binds (ps := ["_law_tie", "_law_at", "_law_many", "_law_is_tie", "_law_odd"]) fun _ _ _ _ _ _ us hl => match us, hl with | [_, _, _, _, _], _ => rfl) (ok_late (j := 131) (k := 133) D.d__law_late_item.F hcA TBA A uWord (uDue.up (by decide)) uPutAt (by decide) T)
  let uFreshSo := use (P := P) (w := w) (base := base) D.d__law_fresh_so (D.d__law_fresh_so.F.binds (ps := ["_law_tie", "_law_is_tie", "_law_odd"]) fun _ _ _ _ _ _ us hl => match us, hl with | [_, _, _], _ => rfl) (ok_freshSo (j := 76) (k := 78) D.d__law_fresh_so.F hcB TBB A uWord (uTied.up (by decide)) uFresh (by decide) T)
  let uLSteps := use (P := P) (w := w) (base := base) D.d__law_steps (D.d__law_steps.F.binds (ps := ["_law_many"]) fun _ _ _ _ _ _ us hl => match us, hl with | [_], _ => rfl) (ok_lSteps (k := 0) D.d__law_steps.F T)
  ⟨190, by decide, uTied.up (by decide), uItemAt.up (by decide), uPutAt.up (by decide), uOutAt.up (by decide), uParted.up (by decide), uTBoth.up (by decide), uSteps.up (by decide), uTake.up (by decide), uWord, uDue.up (by decide), uLate.up (by decide), uFreshSo.up (by decide), uLSteps.up (by decide)⟩
end
theorem all_mk {P : Program} {w : World} {K : PySem.W.Frag} {h : Heap} {mg : Str → Option Value} {fa : Addr} (X : K.In h) (G : h.Ns mainGlobals mg) (hfa : mg "law" = some (.ref fa)) {t1 t2 : Tok}
    {f1 : Addr} {od1 an1 : Option Addr} {sl1 : Array (Option Value)} {oc1 kV1 dc1 pm1 cd1 ct1 : Value}
    {f2 : Addr} {od2 an2 : Option Addr} {sl2 : Array (Option Value)} {oc2 kV2 dc2 pm2 cd2 ct2 : Value}
    {f3 : Addr} {od3 an3 : Option Addr} {sl3 : Array (Option Value)} {oc3 kV3 dc3 pm3 cd3 ct3 : Value}
    {f4 : Addr} {od4 an4 : Option Addr} {sl4 : Array (Option Value)} {oc4 kV4 dc4 pm4 cd4 ct4 : Value}
    {f5 : Addr} {od5 an5 : Option Addr} {sl5 : Array (Option Value)} {oc5 kV5 dc5 pm5 cd5 ct5 : Value}
    {f6 : Addr} {od6 an6 : Option Addr} {sl6 : Array (Option Value)} {oc6 kV6 dc6 pm6 cd6 ct6 : Value}
    {f7 : Addr} {od7 an7 : Option Addr} {sl7 : Array (Option Value)} {oc7 kV7 dc7 pm7 cd7 ct7 : Value}
    {f8 : Addr} {od8 an8 : Option Addr} {sl8 : Array (Option Value)} {oc8 kV8 dc8 pm8 cd8 ct8 : Value}
    {f9 : Addr} {od9 an9 : Option Addr} {sl9 : Array (Option Value)} {oc9 kV9 dc9 pm9 cd9 ct9 : Value}
    {f10 : Addr} {od10 an10 : Option Addr} {sl10 : Array (Option Value)} {oc10 kV10 dc10 pm10 cd10 ct10 : Value}
    {f11 : Addr} {od11 an11 : Option Addr} {sl11 : Array (Option Value)} {oc11 kV11 dc11 pm11 cd11 ct11 : Value}
    {f12 : Addr} {od12 an12 : Option Addr} {sl12 : Array (Option Value)} {oc12 kV12 dc12 pm12 cd12 ct12 : Value}
    {f13 : Addr} {od13 an13 : Option Addr} {sl13 : Array (Option Value)} {oc13 kV13 dc13 pm13 cd13 ct13 : Value}
    {f14 : Addr} {od14 an14 : Option Addr} {sl14 : Array (Option Value)} {oc14 kV14 dc14 pm14 cd14 ct14 : Value}
    {f15 : Addr} {od15 an15 : Option Addr} {sl15 : Array (Option Value)} {oc15 kV15 dc15 pm15 cd15 ct15 : Value}
    {f16 : Addr} {od16 an16 : Option Addr} {sl16 : Array (Option Value)} {oc16 kV16 dc16 pm16 cd16 ct16 : Value}
    {f17 : Addr} {od17 an17 : Option Addr} {sl17 : Array (Option Value)} {oc17 kV17 dc17 pm17 cd17 ct17 : Value}
    {f18 : Addr} {od18 an18 : Option Addr} {sl18 : Array (Option Value)} {oc18 kV18 dc18 pm18 cd18 ct18 : Value}
    {f19 : Addr} {od19 an19 : Option Addr} {sl19 : Array (Option Value)} {oc19 kV19 dc19 pm19 cd19 ct19 : Value}
    {f20 : Addr} {od20 an20 : Option Addr} {sl20 : Array (Option Value)} {oc20 kV20 dc20 pm20 cd20 ct20 : Value}
    {f21 : Addr} {od21 an21 : Option Addr} {sl21 : Array (Option Value)} {oc21 kV21 dc21 pm21 cd21 ct21 : Value}
    {f22 : Addr} {od22 an22 : Option Addr} {sl22 : Array (Option Value)} {oc22 kV22 dc22 pm22 cd22 ct22 : Value}
    {f23 : Addr} {od23 an23 : Option Addr} {sl23 : Array (Option Value)} {oc23 kV23 dc23 pm23 cd23 ct23 : Value}
    {f24 : Addr} {od24 an24 : Option Addr} {sl24 : Array (Option Value)} {oc24 kV24 dc24 pm24 cd24 ct24 : Value}
    {f25 : Addr} {od25 an25 : Option Addr} {sl25 : Array (Option Value)} {oc25 kV25 dc25 pm25 cd25 ct25 : Value}
    {f26 : Addr} {od26 an26 : Option Addr} {sl26 : Array (Option Value)} {oc26 kV26 dc26 pm26 cd26 ct26 : Value}
    {f27 : Addr} {od27 an27 : Option Addr} {sl27 : Array (Option Value)} {oc27 kV27 dc27 pm27 cd27 ct27 : Value}
    {f28 : Addr} {od28 an28 : Option Addr} {sl28 : Array (Option Value)} {oc28 kV28 dc28 pm28 cd28 ct28 : Value}
    {f29 : Addr} {od29 an29 : Option Addr} {sl29 : Array (Option Value)} {oc29 kV29 dc29 pm29 cd29 ct29 : Value}
    {f30 : Addr} {od30 an30 : Option Addr} {sl30 : Array (Option Value)} {oc30 kV30 dc30 pm30 cd30 ct30 : Value}
    {f31 : Addr} {od31 an31 : Option Addr} {sl31 : Array (Option Value)} {oc31 kV31 dc31 pm31 cd31 ct31 : Value}
    {f32 : Addr} {od32 an32 : Option Addr} {sl32 : Array (Option Value)} {oc32 kV32 dc32 pm32 cd32 ct32 : Value}
    {f33 : Addr} {od33 an33 : Option Addr} {sl33 : Array (Option Value)} {oc33 kV33 dc33 pm33 cd33 ct33 : Value}
    {f34 : Addr} {od34 an34 : Option Addr} {sl34 : Array (Option Value)} {oc34 kV34 dc34 pm34 cd34 ct34 : Value}
    {f35 : Addr} {od35 an35 : Option Addr} {sl35 : Array (Option Value)} {oc35 kV35 dc35 pm35 cd35 ct35 : Value}
    {f36 : Addr} {od36 an36 : Option Addr} {sl36 : Array (Option Value)} {oc36 kV36 dc36 pm36 cd36 ct36 : Value}
    {f37 : Addr} {od37 an37 : Option Addr} {sl37 : Array (Option Value)} {oc37 kV37 dc37 pm37 cd37 ct37 : Value}
    {f38 : Addr} {od38 an38 : Option Addr} {sl38 : Array (Option Value)} {oc38 kV38 dc38 pm38 cd38 ct38 : Value}
    {c_TreeError c_NoThing c_NoFit c_Cut c_NoTie c_NoItem : Addr}
    {nm_NoItem q_NoItem : Str} {N_NoItem : Addr} {bs_NoItem bm_NoItem : List Value} {sn_NoItem : List Str} {sub_NoItem : List Value} {ab_NoItem : Bool} {col_NoItem : Option Bool} {dd_NoItem : Option Addr} {g0_NoItem g1_NoItem g2_NoItem g3_NoItem g5_NoItem : Option Value}
    {fI_NoItem : Addr} {odI_NoItem anI_NoItem : Option Addr} {slI_NoItem : Array (Option Value)} {ocI_NoItem kVI_NoItem dcI_NoItem pmI_NoItem cdI_NoItem ctI_NoItem : Value}
    (a1 : PySem.W.nsIn K mainGlobals "is_count" = some (some (.ref f1)))
    (l1 : K.lookup f1 = some ⟨oc1, od1, .func (PySem.W.fnOf "is_count" "is_count" (defArgs sIsCount) (defBody sIsCount) (defScope sIsCount) .none kV1 dc1 pm1 an1 cd1 ct1), sl1⟩)
    (c1 : PySem.W.codeIn K cd1 "is_count" = true)
    (k1 : PySem.W.keepIn K (.ref f1) = true)
    (a2 : PySem.W.nsIn K mainGlobals "is_number" = some (some (.ref f2)))
    (l2 : K.lookup f2 = some ⟨oc2, od2, .func (PySem.W.fnOf "is_number" "is_number" (defArgs sIsNumber) (defBody sIsNumber) (defScope sIsNumber) .none kV2 dc2 pm2 an2 cd2 ct2), sl2⟩)
    (c2 : PySem.W.codeIn K cd2 "is_number" = true)
    (k2 : PySem.W.keepIn K (.ref f2) = true)
    (a3 : PySem.W.nsIn K mainGlobals "_law_take" = some (some (.ref f3)))
    (l3 : K.lookup f3 = some ⟨oc3, od3, .func (PySem.W.fnOf "_law_take" "_law_take" (defArgs sTake) (defBody sTake) (defScope sTake) .none kV3 dc3 pm3 an3 cd3 ct3), sl3⟩)
    (c3 : PySem.W.codeIn K cd3 "_law_take" = true)
    (k3 : PySem.W.keepIn K (.ref f3) = true)
    (a4 : PySem.W.nsIn K mainGlobals "is_value" = some (some (.ref f4)))
    (l4 : K.lookup f4 = some ⟨oc4, od4, .func (PySem.W.fnOf "is_value" "is_value" (defArgs sIsVal) (defBody sIsVal) (defScope sIsVal) .none kV4 dc4 pm4 an4 cd4 ct4), sl4⟩)
    (c4 : PySem.W.codeIn K cd4 "is_value" = true)
    (k4 : PySem.W.keepIn K (.ref f4) = true)
    (a5 : PySem.W.nsIn K mainGlobals "is_item" = some (some (.ref f5)))
    (l5 : K.lookup f5 = some ⟨oc5, od5, .func (PySem.W.fnOf "is_item" "is_item" (defArgs sIsItem) (defBody sIsItem) (defScope sIsItem) .none kV5 dc5 pm5 an5 cd5 ct5), sl5⟩)
    (c5 : PySem.W.codeIn K cd5 "is_item" = true)
    (k5 : PySem.W.keepIn K (.ref f5) = true)
    (a6 : PySem.W.nsIn K mainGlobals "has_tie_form" = some (some (.ref f6)))
    (l6 : K.lookup f6 = some ⟨oc6, od6, .func (PySem.W.fnOf "has_tie_form" "has_tie_form" (defArgs sTieForm) (defBody sTieForm) (defScope sTieForm) .none kV6 dc6 pm6 an6 cd6 ct6), sl6⟩)
    (c6 : PySem.W.codeIn K cd6 "has_tie_form" = true)
    (k6 : PySem.W.keepIn K (.ref f6) = true)
    (a7 : PySem.W.nsIn K mainGlobals "is_balance" = some (some (.ref f7)))
    (l7 : K.lookup f7 = some ⟨oc7, od7, .func (PySem.W.fnOf "is_balance" "is_balance" (defArgs sBal) (defBody sBal) (defScope sBal) .none kV7 dc7 pm7 an7 cd7 ct7), sl7⟩)
    (c7 : PySem.W.codeIn K cd7 "is_balance" = true)
    (k7 : PySem.W.keepIn K (.ref f7) = true)
    (a8 : PySem.W.nsIn K mainGlobals "room_behind_tie" = some (some (.ref f8)))
    (l8 : K.lookup f8 = some ⟨oc8, od8, .func (PySem.W.fnOf "room_behind_tie" "room_behind_tie" (defArgs sRoomT) (defBody sRoomT) (defScope sRoomT) .none kV8 dc8 pm8 an8 cd8 ct8), sl8⟩)
    (c8 : PySem.W.codeIn K cd8 "room_behind_tie" = true)
    (k8 : PySem.W.keepIn K (.ref f8) = true)
    (a9 : PySem.W.nsIn K mainGlobals "is_even" = some (some (.ref f9)))
    (l9 : K.lookup f9 = some ⟨oc9, od9, .func (PySem.W.fnOf "is_even" "is_even" (defArgs sIsEven) (defBody sIsEven) (defScope sIsEven) .none kV9 dc9 pm9 an9 cd9 ct9), sl9⟩)
    (c9 : PySem.W.codeIn K cd9 "is_even" = true)
    (k9 : PySem.W.keepIn K (.ref f9) = true)
    (a10 : PySem.W.nsIn K mainGlobals "check_tie" = some (some (.ref f10)))
    (l10 : K.lookup f10 = some ⟨oc10, od10, .func (PySem.W.fnOf "check_tie" "check_tie" (defArgs sChkTie) (defBody sChkTie) (defScope sChkTie) .none kV10 dc10 pm10 an10 cd10 ct10), sl10⟩)
    (c10 : PySem.W.codeIn K cd10 "check_tie" = true)
    (k10 : PySem.W.keepIn K (.ref f10) = true)
    (a11 : PySem.W.nsIn K mainGlobals "many_in" = some (some (.ref f11)))
    (l11 : K.lookup f11 = some ⟨oc11, od11, .func (PySem.W.fnOf "many_in" "many_in" (defArgs sMany) (defBody sMany) (defScope sMany) .none kV11 dc11 pm11 an11 cd11 ct11), sl11⟩)
    (c11 : PySem.W.codeIn K cd11 "many_in" = true)
    (k11 : PySem.W.keepIn K (.ref f11) = true)
    (a12 : PySem.W.nsIn K mainGlobals "knit" = some (some (.ref f12)))
    (l12 : K.lookup f12 = some ⟨oc12, od12, .func (PySem.W.fnOf "knit" "knit" (defArgs sKnit) (defBody sKnit) (defScope sKnit) .none kV12 dc12 pm12 an12 cd12 ct12), sl12⟩)
    (c12 : PySem.W.codeIn K cd12 "knit" = true)
    (k12 : PySem.W.keepIn K (.ref f12) = true)
    (a13 : PySem.W.nsIn K mainGlobals "single" = some (some (.ref f13)))
    (l13 : K.lookup f13 = some ⟨oc13, od13, .func (PySem.W.fnOf "single" "single" (defArgs sSingle) (defBody sSingle) (defScope sSingle) .none kV13 dc13 pm13 an13 cd13 ct13), sl13⟩)
    (c13 : PySem.W.codeIn K cd13 "single" = true)
    (k13 : PySem.W.keepIn K (.ref f13) = true)
    (a14 : PySem.W.nsIn K mainGlobals "turned_right" = some (some (.ref f14)))
    (l14 : K.lookup f14 = some ⟨oc14, od14, .func (PySem.W.fnOf "turned_right" "turned_right" (defArgs sTurnR) (defBody sTurnR) (defScope sTurnR) .none kV14 dc14 pm14 an14 cd14 ct14), sl14⟩)
    (c14 : PySem.W.codeIn K cd14 "turned_right" = true)
    (k14 : PySem.W.keepIn K (.ref f14) = true)
    (a15 : PySem.W.nsIn K mainGlobals "turned_left" = some (some (.ref f15)))
    (l15 : K.lookup f15 = some ⟨oc15, od15, .func (PySem.W.fnOf "turned_left" "turned_left" (defArgs sTurnL) (defBody sTurnL) (defScope sTurnL) .none kV15 dc15 pm15 an15 cd15 ct15), sl15⟩)
    (c15 : PySem.W.codeIn K cd15 "turned_left" = true)
    (k15 : PySem.W.keepIn K (.ref f15) = true)
    (a16 : PySem.W.nsIn K mainGlobals "linked" = some (some (.ref f16)))
    (l16 : K.lookup f16 = some ⟨oc16, od16, .func (PySem.W.fnOf "linked" "linked" (defArgs sLinked) (defBody sLinked) (defScope sLinked) .none kV16 dc16 pm16 an16 cd16 ct16), sl16⟩)
    (c16 : PySem.W.codeIn K cd16 "linked" = true)
    (k16 : PySem.W.keepIn K (.ref f16) = true)
    (a17 : PySem.W.nsIn K mainGlobals "nth" = some (some (.ref f17)))
    (l17 : K.lookup f17 = some ⟨oc17, od17, .func (PySem.W.fnOf "nth" "nth" (defArgs sNth) (defBody sNth) (defScope sNth) .none kV17 dc17 pm17 an17 cd17 ct17), sl17⟩)
    (c17 : PySem.W.codeIn K cd17 "nth" = true)
    (k17 : PySem.W.keepIn K (.ref f17) = true)
    (a18 : PySem.W.nsIn K mainGlobals "with_item" = some (some (.ref f18)))
    (l18 : K.lookup f18 = some ⟨oc18, od18, .func (PySem.W.fnOf "with_item" "with_item" (defArgs sWithI) (defBody sWithI) (defScope sWithI) .none kV18 dc18 pm18 an18 cd18 ct18), sl18⟩)
    (c18 : PySem.W.codeIn K cd18 "with_item" = true)
    (k18 : PySem.W.keepIn K (.ref f18) = true)
    (a19 : PySem.W.nsIn K mainGlobals "both_of" = some (some (.ref f19)))
    (l19 : K.lookup f19 = some ⟨oc19, od19, .func (PySem.W.fnOf "both_of" "both_of" (defArgs sBoth) (defBody sBoth) (defScope sBoth) .none kV19 dc19 pm19 an19 cd19 ct19), sl19⟩)
    (c19 : PySem.W.codeIn K cd19 "both_of" = true)
    (k19 : PySem.W.keepIn K (.ref f19) = true)
    (a20 : PySem.W.nsIn K mainGlobals "without_item" = some (some (.ref f20)))
    (l20 : K.lookup f20 = some ⟨oc20, od20, .func (PySem.W.fnOf "without_item" "without_item" (defArgs sWo) (defBody sWo) (defScope sWo) .none kV20 dc20 pm20 an20 cd20 ct20), sl20⟩)
    (c20 : PySem.W.codeIn K cd20 "without_item" = true)
    (k20 : PySem.W.keepIn K (.ref f20) = true)
    (a21 : PySem.W.nsIn K mainGlobals "halves" = some (some (.ref f21)))
    (l21 : K.lookup f21 = some ⟨oc21, od21, .func (PySem.W.fnOf "halves" "halves" (defArgs sHalves) (defBody sHalves) (defScope sHalves) .none kV21 dc21 pm21 an21 cd21 ct21), sl21⟩)
    (c21 : PySem.W.codeIn K cd21 "halves" = true)
    (k21 : PySem.W.keepIn K (.ref f21) = true)
    (a22 : PySem.W.nsIn K mainGlobals "built" = some (some (.ref f22)))
    (l22 : K.lookup f22 = some ⟨oc22, od22, .func (PySem.W.fnOf "built" "built" (defArgs sBuilt) (defBody sBuilt) (defScope sBuilt) .none kV22 dc22 pm22 an22 cd22 ct22), sl22⟩)
    (c22 : PySem.W.codeIn K cd22 "built" = true)
    (k22 : PySem.W.keepIn K (.ref f22) = true)
    (a23 : PySem.W.nsIn K mainGlobals "check_seat" = some (some (.ref f23)))
    (l23 : K.lookup f23 = some ⟨oc23, od23, .func (PySem.W.fnOf "check_seat" "check_seat" (defArgs sSeat) (defBody sSeat) (defScope sSeat) .none kV23 dc23 pm23 an23 cd23 ct23), sl23⟩)
    (c23 : PySem.W.codeIn K cd23 "check_seat" = true)
    (k23 : PySem.W.keepIn K (.ref f23) = true)
    (a24 : PySem.W.nsIn K mainGlobals "out_at" = some (some (.ref f24)))
    (l24 : K.lookup f24 = some ⟨oc24, od24, .func (PySem.W.fnOf "out_at" "out_at" (defArgs sOutAt) (defBody sOutAt) (defScope sOutAt) .none kV24 dc24 pm24 an24 cd24 ct24), sl24⟩)
    (c24 : PySem.W.codeIn K cd24 "out_at" = true)
    (k24 : PySem.W.keepIn K (.ref f24) = true)
    (a25 : PySem.W.nsIn K mainGlobals "parted" = some (some (.ref f25)))
    (l25 : K.lookup f25 = some ⟨oc25, od25, .func (PySem.W.fnOf "parted" "parted" (defArgs sParted) (defBody sParted) (defScope sParted) .none kV25 dc25 pm25 an25 cd25 ct25), sl25⟩)
    (c25 : PySem.W.codeIn K cd25 "parted" = true)
    (k25 : PySem.W.keepIn K (.ref f25) = true)
    (a26 : PySem.W.nsIn K mainGlobals "put_at" = some (some (.ref f26)))
    (l26 : K.lookup f26 = some ⟨oc26, od26, .func (PySem.W.fnOf "put_at" "put_at" (defArgs sPutAt) (defBody sPutAt) (defScope sPutAt) .none kV26 dc26 pm26 an26 cd26 ct26), sl26⟩)
    (c26 : PySem.W.codeIn K cd26 "put_at" = true)
    (k26 : PySem.W.keepIn K (.ref f26) = true)
    (a27 : PySem.W.nsIn K mainGlobals "tied_both" = some (some (.ref f27)))
    (l27 : K.lookup f27 = some ⟨oc27, od27, .func (PySem.W.fnOf "tied_both" "tied_both" (defArgs sTBoth) (defBody sTBoth) (defScope sTBoth) .none kV27 dc27 pm27 an27 cd27 ct27), sl27⟩)
    (c27 : PySem.W.codeIn K cd27 "tied_both" = true)
    (k27 : PySem.W.keepIn K (.ref f27) = true)
    (a28 : PySem.W.nsIn K mainGlobals "tied" = some (some (.ref f28)))
    (l28 : K.lookup f28 = some ⟨oc28, od28, .func (PySem.W.fnOf "tied" "tied" (defArgs sTied) (defBody sTied) (defScope sTied) .none kV28 dc28 pm28 an28 cd28 ct28), sl28⟩)
    (c28 : PySem.W.codeIn K cd28 "tied" = true)
    (k28 : PySem.W.keepIn K (.ref f28) = true)
    (a29 : PySem.W.nsIn K mainGlobals "steps_of" = some (some (.ref f29)))
    (l29 : K.lookup f29 = some ⟨oc29, od29, .func (PySem.W.fnOf "steps_of" "steps_of" (defArgs sSteps) (defBody sSteps) (defScope sSteps) .none kV29 dc29 pm29 an29 cd29 ct29), sl29⟩)
    (c29 : PySem.W.codeIn K cd29 "steps_of" = true)
    (k29 : PySem.W.keepIn K (.ref f29) = true)
    (a30 : PySem.W.nsIn K mainGlobals "number_within" = some (some (.ref f30)))
    (l30 : K.lookup f30 = some ⟨oc30, od30, .func (PySem.W.fnOf "number_within" "number_within" (defArgs sNumW) (defBody sNumW) (defScope sNumW) .none kV30 dc30 pm30 an30 cd30 ct30), sl30⟩)
    (c30 : PySem.W.codeIn K cd30 "number_within" = true)
    (k30 : PySem.W.keepIn K (.ref f30) = true)
    (a31 : PySem.W.nsIn K mainGlobals "_law_word" = some (some (.ref f31)))
    (l31 : K.lookup f31 = some ⟨oc31, od31, .func (PySem.W.fnOf "_law_word" "_law_word" (defArgs sWord) (defBody sWord) (defScope sWord) .none kV31 dc31 pm31 an31 cd31 ct31), sl31⟩)
    (c31 : PySem.W.codeIn K cd31 "_law_word" = true)
    (k31 : PySem.W.keepIn K (.ref f31) = true)
    (a32 : PySem.W.nsIn K mainGlobals "fresh" = some (some (.ref f32)))
    (l32 : K.lookup f32 = some ⟨oc32, od32, .func (PySem.W.fnOf "fresh" "fresh" (defArgs sFresh) (defBody sFresh) (defScope sFresh) .none kV32 dc32 pm32 an32 cd32 ct32), sl32⟩)
    (c32 : PySem.W.codeIn K cd32 "fresh" = true)
    (k32 : PySem.W.keepIn K (.ref f32) = true)
    (a33 : PySem.W.nsIn K mainGlobals "_law_due" = some (some (.ref f33)))
    (l33 : K.lookup f33 = some ⟨oc33, od33, .func (PySem.W.fnOf "_law_due" "_law_due" (defArgs sDue) (defBody sDue) (defScope sDue) .none kV33 dc33 pm33 an33 cd33 ct33), sl33⟩)
    (c33 : PySem.W.codeIn K cd33 "_law_due" = true)
    (k33 : PySem.W.keepIn K (.ref f33) = true)
    (a34 : PySem.W.nsIn K mainGlobals "_law_late_item" = some (some (.ref f34)))
    (l34 : K.lookup f34 = some ⟨oc34, od34, .func (PySem.W.fnOf "_law_late_item" "_law_late_item" (defArgs sLate) (defBody sLate) (defScope sLate) .none kV34 dc34 pm34 an34 cd34 ct34), sl34⟩)
    (c34 : PySem.W.codeIn K cd34 "_law_late_item" = true)
    (k34 : PySem.W.keepIn K (.ref f34) = true)
    (a35 : PySem.W.nsIn K mainGlobals "_law_fresh_so" = some (some (.ref f35)))
    (l35 : K.lookup f35 = some ⟨oc35, od35, .func (PySem.W.fnOf "_law_fresh_so" "_law_fresh_so" (defArgs sFreshSo) (defBody sFreshSo) (defScope sFreshSo) .none kV35 dc35 pm35 an35 cd35 ct35), sl35⟩)
    (c35 : PySem.W.codeIn K cd35 "_law_fresh_so" = true)
    (k35 : PySem.W.keepIn K (.ref f35) = true)
    (a36 : PySem.W.nsIn K mainGlobals "_law_steps" = some (some (.ref f36)))
    (l36 : K.lookup f36 = some ⟨oc36, od36, .func (PySem.W.fnOf "_law_steps" "_law_steps" (defArgs sLSteps) (defBody sLSteps) (defScope sLSteps) .none kV36 dc36 pm36 an36 cd36 ct36), sl36⟩)
    (c36 : PySem.W.codeIn K cd36 "_law_steps" = true)
    (k36 : PySem.W.keepIn K (.ref f36) = true)
    (a37 : PySem.W.nsIn K mainGlobals "law" = some (some (.ref f37)))
    (l37 : K.lookup f37 = some ⟨oc37, od37, .func (PySem.W.fnOf "law" "law" (defArgs sLaw) (defBody sLaw) (defScope sLaw) .none kV37 dc37 pm37 an37 cd37 ct37), sl37⟩)
    (c37 : PySem.W.codeIn K cd37 "law" = true)
    (k37 : PySem.W.keepIn K (.ref f37) = true)
    (a38 : PySem.W.nsIn K mainGlobals "item_at" = some (some (.ref f38)))
    (l38 : K.lookup f38 = some ⟨oc38, od38, .func (PySem.W.fnOf "item_at" "item_at" (defArgs sItemAt) (defBody sItemAt) (defScope sItemAt) .none kV38 dc38 pm38 an38 cd38 ct38), sl38⟩)
    (c38 : PySem.W.codeIn K cd38 "item_at" = true)
    (k38 : PySem.W.keepIn K (.ref f38) = true)
    (z1 : PySem.W.nsIn K mainGlobals "isinstance" = some none)
    (z2 : PySem.W.nsIn K mainGlobals "int" = some none)
    (z3 : PySem.W.nsIn K mainGlobals "bool" = some none)
    (z4 : PySem.W.nsIn K mainGlobals "str" = some none)
    (z5 : PySem.W.nsIn K mainGlobals "tuple" = some none)
    (z6 : PySem.W.nsIn K mainGlobals "list" = some none)
    (z7 : PySem.W.nsIn K mainGlobals "len" = some none)
    (z8 : PySem.W.nsIn K mainGlobals "all" = some none)
    (z9 : PySem.W.nsIn K mainGlobals "repr" = some none)
    (z10 : PySem.W.nsIn K mainGlobals "max" = some none)
    (z11 : PySem.W.nsIn K mainGlobals "range" = some none)
    (z12 : PySem.W.nsIn K mainGlobals "enumerate" = some none)
    (n1 : PySem.W.nsIn K mainGlobals "TIED" = some (some (.int 1000 t1)))
    (n2 : PySem.W.nsIn K mainGlobals "FIELDS" = some (some (.int 8 t2)))
    (y_TreeError : PySem.W.nsIn K mainGlobals "TreeError" = some (some (.ref c_TreeError)))
    (y_NoThing : PySem.W.nsIn K mainGlobals "NoThing" = some (some (.ref c_NoThing)))
    (y_NoFit : PySem.W.nsIn K mainGlobals "NoFit" = some (some (.ref c_NoFit)))
    (y_Cut : PySem.W.nsIn K mainGlobals "Cut" = some (some (.ref c_Cut)))
    (y_NoTie : PySem.W.nsIn K mainGlobals "NoTie" = some (some (.ref c_NoTie)))
    (y_NoItem : PySem.W.nsIn K mainGlobals "NoItem" = some (some (.ref c_NoItem)))
    (o1_TreeError : PySem.W.isClsIn K c_TreeError = true)
    (o2_TreeError : PySem.W.typeIn K (.ref c_TreeError) = some (.type "type"))
    (o1_NoThing : PySem.W.isClsIn K c_NoThing = true)
    (o2_NoThing : PySem.W.typeIn K (.ref c_NoThing) = some (.type "type"))
    (o1_NoFit : PySem.W.isClsIn K c_NoFit = true)
    (o2_NoFit : PySem.W.typeIn K (.ref c_NoFit) = some (.type "type"))
    (o1_Cut : PySem.W.isClsIn K c_Cut = true)
    (o2_Cut : PySem.W.typeIn K (.ref c_Cut) = some (.type "type"))
    (o1_NoTie : PySem.W.isClsIn K c_NoTie = true)
    (o2_NoTie : PySem.W.typeIn K (.ref c_NoTie) = some (.type "type"))
    (o1_NoItem : PySem.W.isClsIn K c_NoItem = true)
    (o2_NoItem : PySem.W.typeIn K (.ref c_NoItem) = some (.type "type"))
    (b1_NoTie : PySem.W.subIn K (.ref c_NoTie) (.type "BaseException") = some true)
    (b2_NoTie : PySem.W.hasDictIn K c_NoTie = true)
    (b1_NoItem : PySem.W.subIn K (.ref c_NoItem) (.type "BaseException") = some true)
    (b2_NoItem : PySem.W.hasDictIn K c_NoItem = true)
    (hnG : PySem.W.specialIn K (.builtin "object.__class__") "__get__" = some (some (.builtin "getset_descriptor.__get__")))
    (htG : PySem.W.takesIn K (.builtin "object.__class__") = some true)
    (w_NoTieg : PySem.W.findIn K (.ref c_NoTie) "__getattribute__" = some (some (.builtin "BaseException.__getattribute__")))
    (w_NoTiek : PySem.W.findIn K (.ref c_NoTie) "__getattr__" = some none)
    (w_NoTies : PySem.W.subIn K (.ref c_NoTie) (.type "BaseException") = some true)
    (w_NoTied : PySem.W.hasDictIn K c_NoTie = true)
    (w_NoTiea : PySem.W.findIn K (.ref c_NoTie) "__class__" = some (some (.builtin "object.__class__")))
    (w_NoTiem : PySem.W.mroIn K c_NoTie (.type "object") = some true)
    (w_NoTiev : PySem.W.subIn K (.ref c_NoTie) (.type "ValueError") = some true)
    (w_NoTie_TreeError : PySem.W.subIn K (.ref c_NoTie) (.ref c_TreeError) = some true)
    (w_NoTie_NoThing : PySem.W.subIn K (.ref c_NoTie) (.ref c_NoThing) = some true)
    (w_NoTie_NoFit : PySem.W.subIn K (.ref c_NoTie) (.ref c_NoFit) = some false)
    (w_NoTie_Cut : PySem.W.subIn K (.ref c_NoTie) (.ref c_Cut) = some false)
    (w_NoTie_NoTie : PySem.W.subIn K (.ref c_NoTie) (.ref c_NoTie) = some true)
    (w_NoTie_NoItem : PySem.W.subIn K (.ref c_NoTie) (.ref c_NoItem) = some false)
    (x1_NoTie : PySem.W.excIn K c_NoTie [.type "ValueError", .type "Exception", .type "BaseException", .type "object"] "ValueError.__new__" = true)
    (x2_NoTie : PySem.W.keepIn K (.ref c_NoTie) = true)
    (w_NoItemg : PySem.W.findIn K (.ref c_NoItem) "__getattribute__" = some (some (.builtin "BaseException.__getattribute__")))
    (w_NoItemk : PySem.W.findIn K (.ref c_NoItem) "__getattr__" = some none)
    (w_NoItems : PySem.W.subIn K (.ref c_NoItem) (.type "BaseException") = some true)
    (w_NoItemd : PySem.W.hasDictIn K c_NoItem = true)
    (w_NoItema : PySem.W.findIn K (.ref c_NoItem) "__class__" = some (some (.builtin "object.__class__")))
    (w_NoItemm : PySem.W.mroIn K c_NoItem (.type "object") = some true)
    (w_NoItemv : PySem.W.subIn K (.ref c_NoItem) (.type "ValueError") = some true)
    (w_NoItem_TreeError : PySem.W.subIn K (.ref c_NoItem) (.ref c_TreeError) = some true)
    (w_NoItem_NoThing : PySem.W.subIn K (.ref c_NoItem) (.ref c_NoThing) = some false)
    (w_NoItem_NoFit : PySem.W.subIn K (.ref c_NoItem) (.ref c_NoFit) = some true)
    (w_NoItem_Cut : PySem.W.subIn K (.ref c_NoItem) (.ref c_Cut) = some false)
    (w_NoItem_NoTie : PySem.W.subIn K (.ref c_NoItem) (.ref c_NoTie) = some false)
    (w_NoItem_NoItem : PySem.W.subIn K (.ref c_NoItem) (.ref c_NoItem) = some true)
    (xl1_NoItem : K.lookup c_NoItem = some (excClassObj nm_NoItem q_NoItem c_NoItem N_NoItem bs_NoItem bm_NoItem true sn_NoItem sub_NoItem ab_NoItem col_NoItem dd_NoItem g0_NoItem g1_NoItem g2_NoItem g3_NoItem g5_NoItem "ValueError.__new__"))
    (xl2_NoItem : PySem.HandSPX.refsVE bm_NoItem = true)
    (xl3_NoItem : PySem.W.findIn K (.ref c_NoItem) "__setattr__" = some (some (.builtin "object.__setattr__")))
    (xl4_NoItem : PySem.W.keepIn K (.ref c_NoItem) = true)
    (xl5_NoItem : PySem.W.findIn K (.ref c_NoItem) "__init__" = some (some (.ref fI_NoItem)))
    (xl6_NoItem : PySem.W.typeIn K (.ref fI_NoItem) = some (.type "function"))
    (xl7_NoItem : PySem.W.findIn K (.ref c_NoItem) "at" = some none)
    (lI_NoItem : K.lookup fI_NoItem = some ⟨ocI_NoItem, odI_NoItem, .func (PySem.W.fnOf "__init__" "NoItem.__init__" (defArgs sI_NoItem) (defBody sI_NoItem) (defScope sI_NoItem) .none kVI_NoItem dcI_NoItem pmI_NoItem anI_NoItem cdI_NoItem ctI_NoItem), slI_NoItem⟩)
    (cI_NoItem : PySem.W.codeIn K cdI_NoItem "NoItem.__init__" = true)
    (kI_NoItem : PySem.W.keepIn K (.ref fI_NoItem) = true)
    {s₁ : Shared} {base : Heap} {H : Hp} {a : Addr} {ns : List Int} (hlen : ns.length ≤ 63) (hS : SqL K H a (ns.map V.int)) {cO1 tp1 : Addr} (ht1 : H tp1 = some (.tbl #[])) (hb1 : LamX.TabB base mg cO1 tp1) (hi1 : PySem.W.tabIn K "law" = some (cO1, tp1)) {cO2 tp2 : Addr} (ht2 : H tp2 = some (.tbl #[])) (hb2 : LamX.TabB base mg cO2 tp2) (hi2 : PySem.W.tabIn K "_law_late_item" = some (cO2, tp2)) {cO3 tp3 : Addr} (ht3 : H tp3 = some (.tbl #[])) (hb3 : LamX.TabB base mg cO3 tp3) (hi3 : PySem.W.tabIn K "_law_fresh_so" = some (cO3, tp3)) (hnd : [tp1, tp2, tp3].Nodup) (e0 : Env0 P w K mg base callerA [] s₁ H) :
    codeAny (model P w) callerA (.call (.ref fa) ⟨[.ref a], []⟩) (CR CX0 [] P w H s₁ (fun v _ => v = V.bl true) fun _ _ _ => False) s₁ := by
  have T : Bl mg := ⟨PySem.W.mg_none_of X G z1, PySem.W.mg_none_of X G z2, PySem.W.mg_none_of X G z3, PySem.W.mg_none_of X G z4, PySem.W.mg_none_of X G z5, PySem.W.mg_none_of X G z6, PySem.W.mg_none_of X G z7, PySem.W.mg_none_of X G z8, PySem.W.mg_none_of X G z9, PySem.W.mg_none_of X G z10, PySem.W.mg_none_of X G z11, PySem.W.mg_none_of X G z12⟩
  have cTIED : ∃ t, mg "TIED" = some (.int 1000 t) := ⟨_, PySem.W.mg_of X G n1⟩
  have cFIELDS : ∃ t, mg "FIELDS" = some (.int 8 t) := ⟨_, PySem.W.mg_of X G n2⟩
  let A : Cls K mg := ⟨c_TreeError, c_NoThing, c_NoFit, c_Cut, c_NoTie, c_NoItem, PySem.W.mg_of X G y_TreeError, PySem.W.mg_of X G y_NoThing, PySem.W.mg_of X G y_NoFit, PySem.W.mg_of X G y_Cut, PySem.W.mg_of X G y_NoTie, PySem.W.mg_of X G y_NoItem, ⟨PySem.W.mg_of X G y_NoTie, x1_NoTie, x2_NoTie, w_NoTies, o2_NoTie⟩, ⟨w_NoTieg, w_NoTiek, w_NoTies, w_NoTied, w_NoTiea, hnG, htG, w_NoTiem⟩, kit_ve w_NoTiev, kit_sub o1_TreeError o2_TreeError w_NoTie_TreeError, kit_sub o1_NoThing o2_NoThing w_NoTie_NoThing, kit_no o1_NoFit o2_NoFit w_NoTie_NoTie w_NoTie_NoFit, kit_no o1_Cut o2_Cut w_NoTie_NoTie w_NoTie_Cut, kit_sub o1_NoTie o2_NoTie w_NoTie_NoTie, kit_no o1_NoItem o2_NoItem w_NoTie_NoTie w_NoTie_NoItem, PySem.W.exm_ref b1_NoTie b2_NoTie o2_NoTie w_NoTie_NoTie, PySem.W.exm_ref b1_NoItem b2_NoItem o2_NoItem w_NoTie_NoItem, ⟨⟨⟨_, _, _, _, _, _, _, _, _, _, _, _, _, _, _, xl1_NoItem, xl2_NoItem⟩, xl3_NoItem, w_NoItems, o2_NoItem, xl4_NoItem⟩, PySem.W.mg_of X G y_NoItem, xl7_NoItem, _, _, xl5_NoItem, xl6_NoItem, fun_mk (st := sI_NoItem) lI_NoItem cI_NoItem kI_NoItem⟩, ⟨w_NoItemg, w_NoItemk, w_NoItems, w_NoItemd, w_NoItema, hnG, htG, w_NoItemm⟩, kit_ve w_NoItemv, kit_sub o1_TreeError o2_TreeError w_NoItem_TreeError, kit_no o1_NoThing o2_NoThing w_NoItem_NoItem w_NoItem_NoThing, kit_sub o1_NoFit o2_NoFit w_NoItem_NoFit, kit_no o1_Cut o2_Cut w_NoItem_NoItem w_NoItem_Cut, kit_no o1_NoTie o2_NoTie w_NoItem_NoItem w_NoItem_NoTie, kit_sub o1_NoItem o2_NoItem w_NoItem_NoItem, PySem.W.exm_ref b1_NoTie b2_NoTie o2_NoTie w_NoItem_NoTie, PySem.W.exm_ref b1_NoItem b2_NoItem o2_NoItem w_NoItem_NoItem⟩
  have D : Nonempty (Defs K mg) := ⟨⟨at_mk X G a1 l1 c1 k1, at_mk X G a2 l2 c2 k2, at_mk X G a3 l3 c3 k3, at_mk X G a4 l4 c4 k4, at_mk X G a5 l5 c5 k5, at_mk X G a6 l6 c6 k6, at_mk X G a7 l7 c7 k7, at_mk X G a8 l8 c8 k8, at_mk X G a9 l9 c9 k9, at_mk X G a10 l10 c10 k10, at_mk X G a11 l11 c11 k11, at_mk X G a12 l12 c12 k12, at_mk X G a13 l13 c13 k13, at_mk X G a14 l14 c14 k14, at_mk X G a15 l15 c15 k15, at_mk X G a16 l16 c16 k16, at_mk X G a17 l17 c17 k17, at_mk X G a18 l18 c18 k18, at_mk X G a19 l19 c19 k19, at_mk X G a20 l20 c20 k20, at_mk X G a21 l21 c21 k21, at_mk X G a22 l22 c22 k22, at_mk X G a23 l23 c23 k23, at_mk X G a24 l24 c24 k24, at_mk X G a25 l25 c25 k25, at_mk X G a26 l26 c26 k26, at_mk X G a27 l27 c27 k27, at_mk X G a28 l28 c28 k28, at_mk X G a29 l29 c29 k29, at_mk X G a30 l30 c30 k30, at_mk X G a31 l31 c31 k31, at_mk X G a32 l32 c32 k32, at_mk X G a33 l33 c33 k33, at_mk X G a34 l34 c34 k34, at_mk X G a35 l35 c35 k35, at_mk X G a36 l36 c36 k36, at_mk X G a37 l37 c37 k37, at_mk X G a38 l38 c38 k38⟩⟩
  obtain ⟨D⟩ := D
  have e : D.d_law.f = fa := by
    have := hfa.symm.trans D.d_law.m
    cases this
    rfl
  rw [← e]
  have hc1 : D.d_law.fd.code = .ref cO1 := code_of X G D.d_law.F D.d_law.m hi1
  have hc2 : D.d__law_late_item.fd.code = .ref cO2 := code_of X G D.d__law_late_item.F D.d__law_late_item.m hi2
  have hc3 : D.d__law_fresh_so.fd.code = .ref cO3 := code_of X G D.d__law_fresh_so.F D.d__law_fresh_so.m hi3
  exact ok_law (tp := tp1) (tp2 := tp2) (tp3 := tp3) D.d_law.F hc1 hb1 T (calls D T A cFIELDS cTIED hc2 hc3 base hb2 hb3) cTIED (all1 ht1 (all1 ht2 (all1 ht3 all0))) hnd hlen hS e0
end Tl
open PySem PySem.W PyProof.Rows
set_option Elab.async false
set_option maxRecDepth 100000 in
set_option maxHeartbeats 0 in
theorem PySem.Challenge.cw_treelore_k67_ties_refused_holds : PySem.Challenge.rw_treelore_k67_ties_refused.Holds := by
  refine tl_head ?_
  k_fill
  refine' Tl.walk_at_topT (l := PySem.Challenge.rw_treelore_k67_ties_refused) (n := 63) (ts := [("law", _, _), ("_law_late_item", _, _), ("_law_fresh_so", _, _)]) rfl (by decide) rfl (fun w h Y => PySem.W.km_in_of Y) ?HT ?F
  case HT =>
    refine' ⟨⟨⟨_, ?R0⟩, fun w => ⟨Tl.tabIn_mk ?A0 ?B0 ?C0 ?D0 ?E0, ?N0⟩⟩, ⟨⟨⟨_, ?R1⟩, fun w => ⟨Tl.tabIn_mk ?A1 ?B1 ?C1 ?D1 ?E1, ?N1⟩⟩, ⟨⟨⟨_, ?R2⟩, fun w => ⟨Tl.tabIn_mk ?A2 ?B2 ?C2 ?D2 ?E2, ?N2⟩⟩, trivial⟩⟩⟩
    (case R0 => rfl)
    (case A0 => k_is)
    (case B0 => k_is)
    (case C0 => rfl)
    (case D0 => k_is)
    (case E0 => rfl)
    (case N0 => kernel_rfl)
    (case R1 => rfl)
    (case A1 => k_is)
    (case B1 => k_is)
    (case C1 => rfl)
    (case D1 => k_is)
    (case E1 => rfl)
    (case N1 => kernel_rfl)
    (case R2 => rfl)
    (case A2 => k_is)
    (case B2 => k_is)
    (case C2 => rfl)
    (case D2 => k_is)
    (case E2 => rfl)
    (case N2 => kernel_rfl)
  case F =>
    intro w mg fa h KX G hmg s₁ base H a ns hlen hKb hNb hS hT hB hI e0
    refine' Tl.all_mk KX G hmg ?a1 ?l1 ?c1 ?k1 ?a2 ?l2 ?c2 ?k2 ?a3 ?l3 ?c3 ?k3 ?a4 ?l4 ?c4 ?k4 ?a5 ?l5 ?c5 ?k5 ?a6 ?l6 ?c6 ?k6 ?a7 ?l7 ?c7 ?k7 ?a8 ?l8 ?c8 ?k8 ?a9 ?l9 ?c9 ?k9 ?a10 ?l10 ?c10 ?k10 ?a11 ?l11 ?c11 ?k11 ?a12 ?l12 ?c12 ?k12 ?a13 ?l13 ?c13 ?k13 ?a14 ?l14 ?c14 ?k14 ?a15 ?l15 ?c15 ?k15 ?a16 ?l16 ?c16 ?k16 ?a17 ?l17 ?c17 ?k17 ?a18 ?l18 ?c18 ?k18 ?a19 ?l19 ?c19 ?k19 ?a20 ?l20 ?c20 ?k20 ?a21 ?l21 ?c21 ?k21 ?a22 ?l22 ?c22 ?k22 ?a23 ?l23 ?c23 ?k23 ?a24 ?l24 ?c24 ?k24 ?a25 ?l25 ?c25 ?k25 ?a26 ?l26 ?c26 ?k26 ?a27 ?l27 ?c27 ?k27 ?a28 ?l28 ?c28 ?k28 ?a29 ?l29 ?c29 ?k29 ?a30 ?l30 ?c30 ?k30 ?a31 ?l31 ?c31 ?k31 ?a32 ?l32 ?c32 ?k32 ?a33 ?l33 ?c33 ?k33 ?a34 ?l34 ?c34 ?k34 ?a35 ?l35 ?c35 ?k35 ?a36 ?l36 ?c36 ?k36 ?a37 ?l37 ?c37 ?k37 ?a38 ?l38 ?c38 ?k38 ?z1 ?z2 ?z3 ?z4 ?z5 ?z6 ?z7 ?z8 ?z9 ?z10 ?z11 ?z12 ?n1 ?n2 ?y_TreeError ?y_NoThing ?y_NoFit ?y_Cut ?y_NoTie ?y_NoItem ?o1_TreeError ?o2_TreeError ?o1_NoThing ?o2_NoThing ?o1_NoFit ?o2_NoFit ?o1_Cut ?o2_Cut ?o1_NoTie ?o2_NoTie ?o1_NoItem ?o2_NoItem ?b1_NoTie ?b2_NoTie ?b1_NoItem ?b2_NoItem ?hnG ?htG ?w_NoTieg ?w_NoTiek ?w_NoTies ?w_NoTied ?w_NoTiea ?w_NoTiem ?w_NoTiev ?w_NoTie_TreeError ?w_NoTie_NoThing ?w_NoTie_NoFit ?w_NoTie_Cut ?w_NoTie_NoTie ?w_NoTie_NoItem ?x1_NoTie ?x2_NoTie ?w_NoItemg ?w_NoItemk ?w_NoItems ?w_NoItemd ?w_NoItema ?w_NoItemm ?w_NoItemv ?w_NoItem_TreeError ?w_NoItem_NoThing ?w_NoItem_NoFit ?w_NoItem_Cut ?w_NoItem_NoTie ?w_NoItem_NoItem ?xl1_NoItem ?xl2_NoItem ?xl3_NoItem ?xl4_NoItem ?xl5_NoItem ?xl6_NoItem ?xl7_NoItem ?lI_NoItem ?cI_NoItem ?kI_NoItem hlen hS (hT _ (.head _)) (hB _ (.head _)) (hI _ (.head _)) (hT _ (.tail _ (.head _))) (hB _ (.tail _ (.head _))) (hI _ (.tail _ (.head _))) (hT _ (.tail _ (.tail _ (.head _)))) (hB _ (.tail _ (.tail _ (.head _)))) (hI _ (.tail _ (.tail _ (.head _)))) (by decide) e0
    (case a1 => k_is)
    (case l1 => k_is)
    (case c1 => k_is)
    (case k1 => k_is)
    (case a2 => k_is)
    (case l2 => k_is)
    (case c2 => k_is)
    (case k2 => k_is)
    (case a3 => k_is)
    (case l3 => k_is)
    (case c3 => k_is)
    (case k3 => k_is)
    (case a4 => k_is)
    (case l4 => k_is)
    (case c4 => k_is)
    (case k4 => k_is)
    (case a5 => k_is)
    (case l5 => k_is)
    (case c5 => k_is)
    (case k5 => k_is)
    (case a6 => k_is)
    (case l6 => k_is)
    (case c6 => k_is)
    (case k6 => k_is)
    (case a7 => k_is)
    (case l7 => k_is)
    (case c7 => k_is)
    (case k7 => k_is)
    (case a8 => k_is)
    (case l8 => k_is)
    (case c8 => k_is)
    (case k8 => k_is)
    (case a9 => k_is)
    (case l9 => k_is)
    (case c9 => k_is)
    (case k9 => k_is)
    (case a10 => k_is)
    (case l10 => k_is)
    (case c10 => k_is)
    (case k10 => k_is)
    (case a11 => k_is)
    (case l11 => k_is)
    (case c11 => k_is)
    (case k11 => k_is)
    (case a12 => k_is)
    (case l12 => k_is)
    (case c12 => k_is)
    (case k12 => k_is)
    (case a13 => k_is)
    (case l13 => k_is)
    (case c13 => k_is)
    (case k13 => k_is)
    (case a14 => k_is)
    (case l14 => k_is)
    (case c14 => k_is)
    (case k14 => k_is)
    (case a15 => k_is)
    (case l15 => k_is)
    (case c15 => k_is)
    (case k15 => k_is)
    (case a16 => k_is)
    (case l16 => k_is)
    (case c16 => k_is)
    (case k16 => k_is)
    (case a17 => k_is)
    (case l17 => k_is)
    (case c17 => k_is)
    (case k17 => k_is)
    (case a18 => k_is)
    (case l18 => k_is)
    (case c18 => k_is)
    (case k18 => k_is)
    (case a19 => k_is)
    (case l19 => k_is)
    (case c19 => k_is)
    (case k19 => k_is)
    (case a20 => k_is)
    (case l20 => k_is)
    (case c20 => k_is)
    (case k20 => k_is)
    (case a21 => k_is)
    (case l21 => k_is)
    (case c21 => k_is)
    (case k21 => k_is)
    (case a22 => k_is)
    (case l22 => k_is)
    (case c22 => k_is)
    (case k22 => k_is)
    (case a23 => k_is)
    (case l23 => k_is)
    (case c23 => k_is)
    (case k23 => k_is)
    (case a24 => k_is)
    (case l24 => k_is)
    (case c24 => k_is)
    (case k24 => k_is)
    (case a25 => k_is)
    (case l25 => k_is)
    (case c25 => k_is)
    (case k25 => k_is)
    (case a26 => k_is)
    (case l26 => k_is)
    (case c26 => k_is)
    (case k26 => k_is)
    (case a27 => k_is)
    (case l27 => k_is)
    (case c27 => k_is)
    (case k27 => k_is)
    (case a28 => k_is)
    (case l28 => k_is)
    (case c28 => k_is)
    (case k28 => k_is)
    (case a29 => k_is)
    (case l29 => k_is)
    (case c29 => k_is)
    (case k29 => k_is)
    (case a30 => k_is)
    (case l30 => k_is)
    (case c30 => k_is)
    (case k30 => k_is)
    (case a31 => k_is)
    (case l31 => k_is)
    (case c31 => k_is)
    (case k31 => k_is)
    (case a32 => k_is)
    (case l32 => k_is)
    (case c32 => k_is)
    (case k32 => k_is)
    (case a33 => k_is)
    (case l33 => k_is)
    (case c33 => k_is)
    (case k33 => k_is)
    (case a34 => k_is)
    (case l34 => k_is)
    (case c34 => k_is)
    (case k34 => k_is)
    (case a35 => k_is)
    (case l35 => k_is)
    (case c35 => k_is)
    (case k35 => k_is)
    (case a36 => k_is)
    (case l36 => k_is)
    (case c36 => k_is)
    (case k36 => k_is)
    (case a37 => k_is)
    (case l37 => k_is)
    (case c37 => k_is)
    (case k37 => k_is)
    (case a38 => k_is)
    (case l38 => k_is)
    (case c38 => k_is)
    (case k38 => k_is)
    (case z1 => k_is)
    (case z2 => k_is)
    (case z3 => k_is)
    (case z4 => k_is)
    (case z5 => k_is)
    (case z6 => k_is)
    (case z7 => k_is)
    (case z8 => k_is)
    (case z9 => k_is)
    (case z10 => k_is)
    (case z11 => k_is)
    (case z12 => k_is)
    (case n1 => k_is)
    (case n2 => k_is)
    (case y_TreeError => k_is)
    (case y_NoThing => k_is)
    (case y_NoFit => k_is)
    (case y_Cut => k_is)
    (case y_NoTie => k_is)
    (case y_NoItem => k_is)
    (case o1_TreeError => k_is)
    (case o2_TreeError => k_is)
    (case o1_NoThing => k_is)
    (case o2_NoThing => k_is)
    (case o1_NoFit => k_is)
    (case o2_NoFit => k_is)
    (case o1_Cut => k_is)
    (case o2_Cut => k_is)
    (case o1_NoTie => k_is)
    (case o2_NoTie => k_is)
    (case o1_NoItem => k_is)
    (case o2_NoItem => k_is)
    (case b1_NoTie => k_is)
    (case b2_NoTie => k_is)
    (case b1_NoItem => k_is)
    (case b2_NoItem => k_is)
    (case hnG => k_is)
    (case htG => k_is)
    (case w_NoTieg => k_is)
    (case w_NoTiek => k_is)
    (case w_NoTies => k_is)
    (case w_NoTied => k_is)
    (case w_NoTiea => k_is)
    (case w_NoTiem => k_is)
    (case w_NoTiev => k_is)
    (case w_NoTie_TreeError => first | k_is | rfl)
    (case w_NoTie_NoThing => first | k_is | rfl)
    (case w_NoTie_NoFit => first | k_is | rfl)
    (case w_NoTie_Cut => first | k_is | rfl)
    (case w_NoTie_NoTie => first | k_is | rfl)
    (case w_NoTie_NoItem => first | k_is | rfl)
    (case x1_NoTie => k_exc)
    (case x2_NoTie => k_is)
    (case w_NoItemg => k_is)
    (case w_NoItemk => k_is)
    (case w_NoItems => k_is)
    (case w_NoItemd => k_is)
    (case w_NoItema => k_is)
    (case w_NoItemm => k_is)
    (case w_NoItemv => k_is)
    (case w_NoItem_TreeError => first | k_is | rfl)
    (case w_NoItem_NoThing => first | k_is | rfl)
    (case w_NoItem_NoFit => first | k_is | rfl)
    (case w_NoItem_Cut => first | k_is | rfl)
    (case w_NoItem_NoTie => first | k_is | rfl)
    (case w_NoItem_NoItem => first | k_is | rfl)
    (case xl1_NoItem => k_is)
    (case xl2_NoItem => first | rfl | decide | k_is)
    (case xl3_NoItem => k_is)
    (case xl4_NoItem => k_is)
    (case xl5_NoItem => k_is)
    (case xl6_NoItem => k_is)
    (case xl7_NoItem => k_is)
    (case lI_NoItem => k_is)
    (case cI_NoItem => k_is)
    (case kI_NoItem => k_is)
