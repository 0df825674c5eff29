import PyProof.Rows.All
import Wide.All
import OpenK.AllK
import Wide.FinOn
import HandS.ForMost
import HandS.IsInst
import HandS.TupAny
import HandS.TupMul
import HandS.Style
import HandS.Flow
import HandS.Walk
import KE.GoesMore
import HandS.FStrTup
import HandS.ExcValue
import HandS.ExcIs
import HandS.ExcField
import KE.KExcIs
import HandS.ExcInit
import HandS.WordsExc
import HandS.SortKw
import KE.DataMinMax
import HandS.Zip
import PySem.Challenge.RW_treelore_k02_trees_told
set_option Elab.async false
set_option linter.all false
set_option maxRecDepth 100000
set_option maxHeartbeats 4000000
/-! Data in the heap, by value: what stays when the heap grows, what isinstance and len answer of it. -/
namespace Tl
open PySem L2

theorem same_new {H : Hp} {p : Addr} {o : HO} (h : H p = none) : Same H (upd H p o) := fun b u q => by
  rw [upd_ne (ne_of_none q h)]
  exact q
/-- what F does not know may change -/
theorem same_mut {F H : Hp} {p : Addr} {o : HO} (e : Same F H) (h : F p = none) : Same F (upd H p o) := fun b u q => by
  rw [upd_ne (ne_of_none q h)]
  exact e b u q
theorem same_rd {H H' : Hp} {a : Addr} {u : HO} (e : Same H H') (h : Rd H a u) : Rd H' a u := by
  rcases h with h | ⟨o, h⟩
  · exact .inl (e a _ h)
  · exact .inr ⟨o, e a _ h⟩
theorem same_t {K : PySem.W.Frag} {H H' : Hp} {a : Addr} {xs : List V} (e : Same H H') (h : SqT K H a xs) : SqT K H' a xs := by
  rcases h with h | h
  · exact .inl (same_rd e h)
  · exact .inr h
theorem same_l {K : PySem.W.Frag} {H H' : Hp} {a : Addr} {xs : List V} (e : Same H H') (h : SqL K H a xs) : SqL K H' a xs := by
  rcases h with h | h
  · exact .inl (same_rd e h)
  · exact .inr h
mutual
theorem dp_mono {K : PySem.W.Frag} {H H' : Hp} (e : Same H H') : ∀ (d : PyData) (v : V), Dp K H v d → Dp K H' v d
  | .none, _, h => by cases h; exact .non
  | .bool b, _, h => by cases h; exact .bl b
  | .int i, _, h => by cases h; exact .int i
  | .str x, _, h => by cases h; exact .str x
  | .list ds, _, h => by
    cases h with
    | lst hs ha => exact .lst (same_l e hs) (dpAll_mono e ds _ ha)
  | .tuple ds, _, h => by
    cases h with
    | tup hs ha => exact .tup (same_t e hs) (dpAll_mono e ds _ ha)
  | .dict _, _, h => by cases h
theorem dpAll_mono {K : PySem.W.Frag} {H H' : Hp} (e : Same H H') : ∀ (ds : List PyData) (vs : List V), DpAll K H vs ds → DpAll K H' vs ds
  | [], _, h => by cases h; exact .nil
  | d :: ds, _, h => by
    cases h with
    | cons h1 h2 => exact .cons (dp_mono e d _ h1) (dpAll_mono e ds _ h2)
end
/-- a thing of the law: data, or the empty dict -/
inductive Dt (K : PySem.W.Frag) (H : Hp) : V → PyData → Prop
  | d {v : V} {d : PyData} : Dp K H v d → Dt K H v d
  | e {a : Addr} : H a = some (.dK []) → Dt K H (.ref a) (.dict [])
theorem Dt.mono {K : PySem.W.Frag} {H H' : Hp} {v : V} {d : PyData} (e : Same H H') (h : Dt K H v d) : Dt K H' v d := by
  cases h with
  | d h => exact .d (dp_mono e _ _ h)
  | e h => exact .e (e _ _ h)
theorem DpAll.len {K : PySem.W.Frag} {H : Hp} : ∀ {vs : List V} {ds : List PyData}, DpAll K H vs ds → vs.length = ds.length
  | _, _, .nil => rfl
  | _, _, .cons _ h => by rw [List.length_cons, List.length_cons, DpAll.len h]
theorem DpAll.get {K : PySem.W.Frag} {H : Hp} : ∀ {vs : List V} {ds : List PyData} {i : Nat} {v : V}, DpAll K H vs ds → vs[i]? = some v → ∃ d, ds[i]? = some d ∧ Dp K H v d
  | _, _, _, _, .nil, e => by simp at e
  | _, _, 0, _, .cons h _, e => by simp at e; subst e; exact ⟨_, rfl, h⟩
  | _, _, i + 1, v, .cons _ h, e => by
    obtain ⟨d, h1, h2⟩ := DpAll.get (i := i) (v := v) h (by simpa using e)
    exact ⟨d, by simpa using h1, h2⟩
theorem DpAll.got {K : PySem.W.Frag} {H : Hp} : ∀ {vs : List V} {ds : List PyData} {i : Nat} {d : PyData}, DpAll K H vs ds → ds[i]? = some d → ∃ v, vs[i]? = some v ∧ Dp K H v d
  | _, _, _, _, .nil, e => by simp at e
  | _, _, 0, _, .cons h _, e => by simp at e; subst e; exact ⟨_, rfl, h⟩
  | _, _, i + 1, d, .cons _ h, e => by
    obtain ⟨v, h1, h2⟩ := DpAll.got (i := i) (d := d) h (by simpa using e)
    exact ⟨v, by simpa using h1, h2⟩
theorem DpAll.app {K : PySem.W.Frag} {H : Hp} : ∀ {vs ws : List V} {ds es : List PyData}, DpAll K H vs ds → DpAll K H ws es → DpAll K H (vs ++ ws) (ds ++ es)
  | _, _, _, _, .nil, h => h
  | _, _, _, _, .cons a b, h => .cons a (DpAll.app b h)
theorem DpAll.take {K : PySem.W.Frag} {H : Hp} : ∀ {vs : List V} {ds : List PyData} (n : Nat), DpAll K H vs ds → DpAll K H (vs.take n) (ds.take n)
  | _, _, 0, _ => .nil
  | _, _, _ + 1, .nil => .nil
  | _, _, n + 1, .cons a b => .cons a (DpAll.take n b)
theorem DpAll.drop {K : PySem.W.Frag} {H : Hp} : ∀ {vs : List V} {ds : List PyData} (n : Nat), DpAll K H vs ds → DpAll K H (vs.drop n) (ds.drop n)
  | _, _, 0, h => h
  | _, _, _ + 1, .nil => .nil
  | _, _, n + 1, .cons a b => DpAll.drop n b
theorem DpAll.rev {K : PySem.W.Frag} {H : Hp} : ∀ {vs : List V} {ds : List PyData}, DpAll K H vs ds → DpAll K H vs.reverse ds.reverse
  | _, _, .nil => .nil
  | _, _, .cons a b => by rw [List.reverse_cons, List.reverse_cons]; exact DpAll.app (DpAll.rev b) (.cons a .nil)
theorem DpAll.rep {K : PySem.W.Frag} {H : Hp} {vs : List V} {ds : List PyData} (h : DpAll K H vs ds) : ∀ n : Nat, DpAll K H (List.replicate n vs).flatten (List.replicate n ds).flatten
  | 0 => .nil
  | n + 1 => by
    rw [List.replicate_succ, List.replicate_succ, List.flatten_cons, List.flatten_cons]
    exact DpAll.app h (DpAll.rep h n)

theorem DpAll.two {K : PySem.W.Frag} {H : Hp} : ∀ {vs : List V} {ds : List PyData}, DpAll K H vs ds → vs.length = 2 → ∃ x y a b, vs = [x, y] ∧ ds = [a, b] ∧ Dp K H x a ∧ Dp K H y b
  | _, _, .nil, e => by simp at e
  | _, _, .cons _ .nil, e => by simp at e
  | _, _, .cons h1 (.cons h2 .nil), _ => ⟨_, _, _, _, rfl, rfl, h1, h2⟩
  | _, _, .cons _ (.cons _ (.cons _ _)), e => by simp at e

/-! ### what isinstance answers -/
def tyName : PyData → String
  | .none => "NoneType"
  | .bool _ => "bool"
  | .int _ => "int"
  | .str _ => "str"
  | .list _ => "list"
  | .tuple _ => "tuple"
  | .dict _ => "dict"
def isStr : PyData → Bool
  | .str _ => true
  | _ => false
def isTup : PyData → Bool
  | .tuple _ => true
  | _ => false
def isInt : PyData → Bool
  | .int _ => true
  | .bool _ => true
  | _ => false
def isBl : PyData → Bool
  | .bool _ => true
  | _ => false
theorem kit_str (d : PyData) : kitB (tyName d) "str" = some (isStr d) := by cases d <;> (simp only [tyName, isStr]; decide +kernel)
theorem kit_tup (d : PyData) : kitB (tyName d) "tuple" = some (isTup d) := by cases d <;> (simp only [tyName, isTup]; decide +kernel)
theorem kit_int (d : PyData) : kitB (tyName d) "int" = some (isInt d) := by cases d <;> (simp only [tyName, isInt]; decide +kernel)
theorem kit_bl (d : PyData) : kitB (tyName d) "bool" = some (isBl d) := by cases d <;> (simp only [tyName, isBl]; decide +kernel)
theorem ty_data {K : PySem.W.Frag} {H : Hp} {v : V} {d : PyData} (h : Dt K H v d) : TyX K H v (.type (tyName d)) := by
  cases h with
  | e h => exact .base (.dK h)
  | d h =>
    cases h with
    | non => exact .base .non
    | bl b => exact .base (.bl b)
    | int i => exact .base (.int i)
    | str x => exact .base (.str x)
    | lst hs _ =>
      rcases hs with (h | ⟨o, h⟩) | ⟨o, its, n, h1, h2, _⟩
      · exact .base (.lst h)
      · exact .base (.frz h)
      · exact .kList h1 h2
    | tup hs _ =>
      rcases hs with (h | ⟨o, h⟩) | ⟨o, its, n, h1, h2, _⟩
      · exact .base (.tup h)
      · exact .fTuple h
      · exact .kTuple h1 h2
theorem isi_d {K : PySem.W.Frag} {H : Hp} {v : V} {d : PyData} {T : String} {b : Bool} {Q : VK} (h : Dt K H v d) (e : kitB (tyName d) T = some b) (q : Q (.bl b) H) : rIsi K [v, .ty T] H Q :=
  ⟨v, .ty T, _, _, b, rfl, .ty T, ty_data h, kit_ty e, q⟩

/-! ### texts within are short -/
mutual
def txt : PyData → Bool
  | .str s => decide (s.length ≤ 1000) && PyData.strOk s
  | .list ds => txtAll ds
  | .tuple ds => txtAll ds
  | _ => true
def txtAll : List PyData → Bool
  | [] => true
  | d :: ds => txt d && txtAll ds
end
theorem txtAll_get : ∀ {ds : List PyData} {i : Nat} {d : PyData}, txtAll ds = true → ds[i]? = some d → txt d = true
  | [], _, _, _, e => by simp at e
  | a :: r, 0, d, h, e => by
    rw [txtAll, Bool.and_eq_true] at h
    simp at e
    subst e
    exact h.1
  | a :: r, i + 1, d, h, e => by
    rw [txtAll, Bool.and_eq_true] at h
    exact txtAll_get h.2 (by simpa using e)
theorem txtAll_app : ∀ {ds es : List PyData}, txtAll ds = true → txtAll es = true → txtAll (ds ++ es) = true
  | [], es, _, h => h
  | a :: r, es, h, h2 => by
    rw [txtAll, Bool.and_eq_true] at h
    rw [List.cons_append, txtAll, Bool.and_eq_true]
    exact ⟨h.1, txtAll_app h.2 h2⟩
theorem txtAll_rep {ds : List PyData} (h : txtAll ds = true) : ∀ n, txtAll (List.replicate n ds).flatten = true
  | 0 => rfl
  | n + 1 => by
    rw [List.replicate_succ, List.flatten_cons]
    exact txtAll_app h (txtAll_rep h n)
theorem txt_str {s : Str} (h : txt (.str s) = true) : s.length ≤ 1000 ∧ PyData.strOk s = true := by
  rw [txt, Bool.and_eq_true] at h
  exact ⟨of_decide_eq_true h.1, h.2⟩
/-- a list of plain values can be compared -/
def flatD : PyData → Bool
  | .none => true
  | .bool _ => true
  | .int _ => true
  | .str s => PyData.strOk s
  | _ => false
theorem flat_all : ∀ ds : List PyData, ds.all flatD = true → PyData.canLayAll0 ds = true ∧ PyData.depthAll ds = 0
  | [], _ => ⟨rfl, rfl⟩
  | d :: r, h => by
    rw [List.all_cons, Bool.and_eq_true] at h
    obtain ⟨h1, h2⟩ := flat_all r h.2
    have h0 := h.1
    rw [PyData.canLayAll0, PyData.depthAll, h1, h2]
    cases d with
    | none => exact ⟨rfl, rfl⟩
    | bool b => exact ⟨rfl, rfl⟩
    | int b => exact ⟨rfl, rfl⟩
    | str b =>
      rw [flatD] at h0
      rw [PyData.canLay0, PyData.depth, h0]
      exact ⟨rfl, rfl⟩
    | list b => exact Bool.noConfusion h0
    | tuple b => exact Bool.noConfusion h0
    | dict b => exact Bool.noConfusion h0
theorem flat_shaped {ds : List PyData} (h : ds.all flatD = true) : SeqAt.shaped (.list ds) = true := by
  obtain ⟨h1, h2⟩ := flat_all ds h
  unfold SeqAt.shaped
  rw [PyData.canLay0, PyData.depth, h1, h2]
  rfl
theorem sz1000 {n : Nat} (h : n ≤ 1000) : n ≤ sizeLine := Nat.le_of_lt (small1000 h)
/-- the built-in names that are still the built-in's -/
structure Bl (mg : Str → Option Value) : Prop where
  isi : mg "isinstance" = none
  int : mg "int" = none
  bool : mg "bool" = none
  str : mg "str" = none
  tuple : mg "tuple" = none
  list : mg "list" = none
  len : mg "len" = none
  all : mg "all" = none
  repr : mg "repr" = none
  max : mg "max" = none
  range : mg "range" = none
  enum : mg "enumerate" = none
section
variable {X : Cx}
theorem b_int (T : Bl X.mg) {p : Pos} (hg : Gl X "int" := by rfl) : PE X (.Name "int" p) (tC (.ty "int")) := pe_bltn hg T.int PyProof.Rows.boot_int rfl
theorem b_bool (T : Bl X.mg) {p : Pos} (hg : Gl X "bool" := by rfl) : PE X (.Name "bool" p) (tC (.ty "bool")) := pe_bltn hg T.bool PyProof.Rows.boot_bool rfl
theorem b_str (T : Bl X.mg) {p : Pos} (hg : Gl X "str" := by rfl) : PE X (.Name "str" p) (tC (.ty "str")) := pe_bltn hg T.str PyProof.Rows.boot_str rfl
theorem b_tuple (T : Bl X.mg) {p : Pos} (hg : Gl X "tuple" := by rfl) : PE X (.Name "tuple" p) (tC (.ty "tuple")) := pe_bltn hg T.tuple PyProof.Rows.boot_tuple rfl
end
theorem iteD {p A B : Prop} [Decidable p] (h1 : p → A) (h2 : ¬ p → B) : if decide p = true then A else B := by
  by_cases h : p
  · rw [if_pos (decide_eq_true h)]
    exact h1 h
  · rw [if_neg (by rw [decide_eq_false h]; exact Bool.false_ne_true)]
    exact h2 h
theorem iteN {p A B : Prop} [Decidable p] (h1 : ¬ p → A) (h2 : p → B) : if (!decide p) = true then A else B := by
  by_cases h : p
  · rw [if_neg (by rw [decide_eq_true h]; exact Bool.false_ne_true)]
    exact h2 h
  · rw [if_pos (by rw [decide_eq_false h]; rfl)]
    exact h1 h
theorem iteB {b : Bool} {A B : Prop} (h1 : b = true → A) (h2 : b = false → B) : if b = true then A else B := by
  cases b with
  | true => exact h1 rfl
  | false => rw [if_neg Bool.false_ne_true]; exact h2 rfl
/-! ### comprehensions whose parts leave all as it was -/
section
variable {K : PySem.W.Frag} {a : Addr} {xs : List V}
theorem fn_list : Walk (Itl K a) xs.length (fun H => SqL K H a xs) (YFn fun i => xs.getD i .non) :=
  walk_list.mono (fun _ h => h) fun i H x H' hi _ y => ⟨y.1, by show x = xs.getD i .non; rw [List.getD_eq_getElem?_getD, y.2]; rfl⟩
theorem fn_tup : Walk (Itt K a) xs.length (fun H => SqT K H a xs) (YFn fun i => xs.getD i .non) :=
  walk_tup.mono (fun _ h => h) fun i H x H' hi _ y => ⟨y.1, by show x = xs.getD i .non; rw [List.getD_eq_getElem?_getD, y.2]; rfl⟩
theorem fn_str {z : Str} : Walk (Its z) z.cps.toList.length (fun _ => True) (YFn fun i => .str ⟨#[z.cps.toList.getD i 0]⟩) :=
  walk_str.mono (fun _ h => h) fun i H x H' hi _ y => by
    obtain ⟨e, c, hc, rfl⟩ := y
    refine ⟨e, ?_⟩
    show V.str ⟨#[c]⟩ = V.str ⟨#[z.cps.toList.getD i 0]⟩
    rw [List.getD_eq_getElem?_getD, Array.getElem?_toList, hc]
    rfl
end
def picked {α : Type} (n : Nat) (f : Nat → Bool) (v : Nat → α) : List α := ((List.range n).filter f).map v
theorem picked_yes {α : Type} {n : Nat} {f : Nat → Bool} {v : Nat → α} (h : f n = true) : picked (n + 1) f v = picked n f v ++ [v n] := by
  unfold picked
  rw [List.range_succ, List.filter_append, List.map_append]
  simp [h]
theorem picked_no {α : Type} {n : Nat} {f : Nat → Bool} {v : Nat → α} (h : f n = false) : picked (n + 1) f v = picked n f v := by
  unfold picked
  rw [List.range_succ, List.filter_append, List.map_append]
  simp [h]
theorem picked_len {α : Type} (n : Nat) (f : Nat → Bool) (v : Nat → α) : (picked n f v).length ≤ n := by
  unfold picked
  rw [List.length_map]
  exact Nat.le_trans (List.length_filter_le _ _) (by rw [List.length_range]; exact Nat.le_refl n)
theorem picked_all {α β : Type} (xs : List α) (d : α) (g : α → β) : picked xs.length (fun _ => true) (fun i => g (xs.getD i d)) = xs.map g := by
  unfold picked
  rw [List.filter_eq_self.mpr (fun _ _ => rfl)]
  apply List.ext_getElem
  · simp
  · intro i h1 h2
    simp at h1 h2 ⊢
    rw [List.getElem?_eq_getElem h2]
    rfl
theorem picked_some {α β : Type} (xs : List α) (d : α) (p : α → Bool) (g : α → β) : picked xs.length (fun i => p (xs.getD i d)) (fun i => g (xs.getD i d)) = (xs.filter p).map g := by
  have h := picked_all xs d id
  unfold picked at h ⊢
  rw [List.filter_eq_self.mpr (fun _ _ => rfl), List.map_id] at h
  have e : (List.range xs.length).map (fun i => xs.getD i d) = xs := by simpa using h
  conv => rhs; rw [← e]
  rw [List.filter_map, List.map_map]
  rfl
theorem lc_pure {J : It} {n j : Nat} {G : Hp → Prop} {Xi : Nat → V} {tt : TT} {te : TE} {vs : List Nat} {σ : L2.St} {H1 : Hp} {D : Addr} {Qd : Hp → Prop} (wk : Walk J n G (YFn Xi)) (f : Nat → Bool) (v : Nat → V)
    (hG : ∀ H, Same H1 H → G H) (hn : n ≤ 1000000) (hw : ∀ x, wipe ((wipe σ vs).set j (some x)) vs = wipe σ vs) (hD : H1 D = none)
    (ht : ∀ i H, i < n → Same H1 H → ∀ Qt : Bool → Hp → Prop, (∀ H3, Same H H3 → Qt (f i) H3) → tt ((wipe σ vs).set j (some (Xi i))) H Qt)
    (he : ∀ i H, i < n → f i = true → Same H1 H → ∀ Qe : VK, (∀ H3, Same H H3 → Qe (v i) H3) → te ((wipe σ vs).set j (some (Xi i))) H Qe)
    (q : ∀ H2, Same H1 H2 → H2 D = some (.lst (picked n f v)) → Qd H2) :
    ∃ W : Nat → Nat → Hp → Prop, (∃ m, W 0 m (upd H1 D (.lst []))) ∧ ∀ i m H, W i m H →
      (J.stop i H ∧ Qd H) ∨ (J.go i H ∧ ∃ Nx : Hp → Prop, (∀ H', Nx H' → ∃ m', m' < m ∧ W (i + 1) m' H') ∧ ∀ x H', J.yld i H x H' → gName j x (wipe σ vs) H' fun σ2 H2 => wipe σ2 vs = wipe σ vs ∧ tt σ2 H2 fun b H3 =>
        if b = true then te σ2 H3 fun y H4 => ∃ acc, H4 D = some (.lst acc) ∧ acc.length < sizeLine ∧ Nx (upd H4 D (.lst (acc ++ [y]))) else Nx H3) := by
  refine lc_it wk (fun i H => Same H1 H ∧ H D = some (.lst (picked i f v))) ⟨same_new hD, upd_same⟩ (fun i H _ p => hG H p.1) (fun i x H H' hi p y => ?_) (fun H p => q H p.1 p.2)
  obtain ⟨rfl, rfl⟩ := y
  obtain ⟨p1, p2⟩ := p
  refine ⟨hw _, ht i _ hi p1 _ fun H3 e3 => ?_⟩
  refine ite2 (fun c => ?_) (fun c => ?_)
  · refine he i H3 hi c (p1.trans e3) _ fun H4 e4 => ?_
    refine ⟨_, e4 _ _ (e3 _ _ p2), ?_, ?_⟩
    · exact Nat.lt_of_le_of_lt (picked_len i f v) (Nat.lt_of_lt_of_le (Nat.lt_of_lt_of_le hi hn) (by decide))
    · exact ⟨same_mut ((p1.trans e3).trans e4) hD, by rw [upd_same, picked_yes c]⟩
  · have c' : f i = false := Bool.eq_false_iff.mpr c
    exact ⟨p1.trans e3, by rw [picked_no c']; exact e3 _ _ p2⟩
/-- a def of the program that is called: where it stands, and what it promises -/
structure Use (P : Program) (w : World) (K : PySem.W.Frag) (mg : Str → Option Value) (base : Heap) (x : Str) (ps : List Str) (k : Nat) (sp : Sp) where
  f : Addr
  fd : FuncData
  ok : FnOk P w K mg base CX0 k f fd ps sp
  m : mg x = some (.ref f)
  kp : PySem.W.keepIn K (.ref f) = true
  b : Binds K fd ps []
end Tl

set_option Elab.async false
set_option linter.all false
set_option maxRecDepth 100000
set_option maxHeartbeats 4000000
/-! Rules of our own: tuple * int of any small count, text * int, enumerate of a tuple, repr of data. -/
namespace Tl
open PySem PySem.Spec PyProof.Rows L2
open AutoSeq1 (wpAny_loadPart')
/-- one way through tuple.__mul__ where the tuple itself comes back -/
theorem mulSame (l : Addr) (items : Array Value) (n : Nat) (dd : Option Addr) (sl : Array (Option Value)) (x : Int) (u : Tok)
    (c0 : (decide (x < -(2 ^ 63)) || decide (x ≥ 2 ^ 63)) = false) (c1 : (items.isEmpty || x == 1) = true) :
    Meets (Builtin.«tuple.__mul__» ⟨[.ref l, .int x u], []⟩) (fun _ R s =>
      s.heap.get? l = some { cls := .type "tuple", dict := dd, data := .seq items n, slots := sl } ∧
        R (.ok (.ret (Value.ref l))) s) :=
  .of_wp fun prog w A R s h => by
    obtain ⟨hp, g, d, tk, os⟩ := s
    obtain ⟨hl, h⟩ := h
    have f1 := AutoSeq1.idx_int
    wp_walk using wpAny_loadPart' hl
    refine wpAny_ite_false (decide_eq_false (by rw [c0]; exact Bool.false_ne_true)) ?_
    wp_walk using wpAny_loadPart' hl
    exact ⟨_, rfl, h⟩
theorem mulNone (l : Addr) (items : Array Value) (n : Nat) (dd : Option Addr) (sl : Array (Option Value)) (x : Int) (u : Tok)
    (c0 : (decide (x < -(2 ^ 63)) || decide (x ≥ 2 ^ 63)) = false) (c1 : (items.isEmpty || x == 1) = false) (c2 : (decide (x ≤ 0) || items.isEmpty) = true) :
    Meets (Builtin.«tuple.__mul__» ⟨[.ref l, .int x u], []⟩) (fun _ R s =>
      s.heap.get? l = some { cls := .type "tuple", dict := dd, data := .seq items n, slots := sl } ∧
        R (.ok (.ret (Value.ref s.heap.objs.size))) { s with heap := s.heap.push { cls := Value.type "tuple", data := Data.seq #[] }, toks := s.toks }) :=
  .of_wp fun prog w A R s h => by
    obtain ⟨hp, g, d, tk, os⟩ := s
    obtain ⟨hl, h⟩ := h
    have f1 := AutoSeq1.idx_int
    wp_walk using wpAny_loadPart' hl
    refine wpAny_ite_false (decide_eq_false (by rw [c0]; exact Bool.false_ne_true)) ?_
    wp_walk using wpAny_loadPart' hl
    exact ⟨_, rfl, h⟩
def rRepA (K : PySem.W.Frag) : R2 := fun x y H Q => ∃ l k xs, x = .ref l ∧ y = .int k ∧ SqT K H l xs ∧ 0 ≤ k ∧ k ≤ 1000 ∧ xs.length ≤ 1000 ∧ (xs = [] ∨ k = 1 → Q (.ref l) H) ∧
  (¬ (xs = [] ∨ k = 1) → ∀ p, H p = none → Q (.ref p) (upd H p (.tup (List.replicate k.toNat xs).flatten)))
theorem op_repA {X : Cx} : OpR X (binaryOp .Mult) (rRepA X.K) := by
  intro pins s σ H x y v u Q I rx ry h
  obtain ⟨l, k, xs, rfl, rfl, hT, h1, h2, hz, q0, q1⟩ := h
  by_cases hc : xs = [] ∨ k = 1
  · cases rx
    obtain ⟨t, rfl⟩ := ry
    obtain ⟨its, r, ⟨⟨cls, dd, data, sl⟩, ho, hcl, n, hd⟩, hs⟩ := I.tuple hT
    simp only at hcl hd
    subst hcl hd
    have c0 : (decide (k < -(2 ^ 63)) || decide (k ≥ 2 ^ 63)) = false := by
      rw [decide_eq_false (by omega), decide_eq_false (by omega)]
      rfl
    have c1 : (its.toArray.isEmpty || k == 1) = true := by
      rcases hc with e | e
      · subst e
        cases r
        rfl
      · rw [e, Bool.or_eq_true]
        exact .inr rfl
    refine wpAny_binaryOp_repeat_ref (T := "tuple") (U := "int") (by decide) ⟨_, ho, rfl⟩ (fun s' => typeIs_int s' k t)
      noFill_tuple_mul F.fills_int_mul F.slot_int_rmul repeat_tuple F.slot_int_index.lookup
      (call_meets F.slot_int_rmul (typeIs_int s k t) F.entry_int_rmul (F.args_int_rmul_2 _ _)
        (int_rmul_tuple k t l its.toArray n dd sl) ⟨ho, rfl, ⟨_, ho, rfl⟩, call_meets F.slot_tuple_mul ⟨_, ho, rfl⟩ F.entry_tuple_mul (F.args_tuple_mul_2 _ _) (mulSame l its.toArray n dd sl k t c0 c1) ⟨ho, ?_⟩⟩)
    exact ⟨.ref l, H, I, rfl, q0 hc⟩
  · by_cases hk : 2 ≤ k
    · exact op_repT pins s σ H _ _ v u Q I rx ry ⟨l, k, xs, rfl, rfl, hT, fun e => hc (.inl e), hk, h2, hz, q1 hc⟩
    · have hk0 : k = 0 := by
        have : ¬ k = 1 := fun e => hc (.inr e)
        omega
      subst hk0
      cases rx
      obtain ⟨t, rfl⟩ := ry
      obtain ⟨its, r, ⟨⟨cls, dd, data, sl⟩, ho, hcl, n, hd⟩, hs⟩ := I.tuple hT
      simp only at hcl hd
      subst hcl hd
      have hi : its.toArray.isEmpty = false := by
        cases r with
        | nil => exact absurd (.inl rfl) hc
        | cons a b => rfl
      have c1 : (its.toArray.isEmpty || (0 : Int) == 1) = false := by rw [hi]; rfl
      refine wpAny_binaryOp_repeat_ref (T := "tuple") (U := "int") (by decide) ⟨_, ho, rfl⟩ (fun s' => typeIs_int s' 0 t)
        noFill_tuple_mul F.fills_int_mul F.slot_int_rmul repeat_tuple F.slot_int_index.lookup
        (call_meets F.slot_int_rmul (typeIs_int s 0 t) F.entry_int_rmul (F.args_int_rmul_2 _ _)
          (int_rmul_tuple 0 t l its.toArray n dd sl) ⟨ho, rfl, ⟨_, ho, rfl⟩, call_meets F.slot_tuple_mul ⟨_, ho, rfl⟩ F.entry_tuple_mul (F.args_tuple_mul_2 _ _) (mulNone l its.toArray n dd sl 0 t (by decide) c1 (by rfl)) ⟨ho, ?_⟩⟩)
      refine ⟨.ref s.heap.objs.size, _, I.laid (t' := s.toks) (o := .tup []) (fun b ob q => Heap.get?_push_of_some _ q) (Nat.le_refl _) ?_, rfl, q1 hc _ (I.hok.fresh (Nat.le_refl _))⟩
      exact ⟨Nat.zero_le _, [], .nil, IsTup.new _ _⟩
/-- text * int -/
def repS (x : Str) (n : Nat) : Str := ⟨(List.replicate n x.cps.toList).flatten.toArray⟩
theorem fold_rep (x : Array Nat) : ∀ (n : Nat) (a : Array Nat), (List.replicate n x).foldl (· ++ ·) a = a ++ (List.replicate n x.toList).flatten.toArray
  | 0, a => by simp
  | n + 1, a => by
    rw [List.replicate_succ, List.foldl_cons, fold_rep x n, List.replicate_succ, List.flatten_cons, Array.append_assoc]
    congr 1
    simp
theorem repS_len (a : Str) (n : Nat) : (repS a n).length = n * a.length := by
  show ((List.replicate n a.cps.toList).flatten.toArray).size = n * a.cps.size
  rw [List.size_toArray, PyProof.Rows.lm_len_rep_flat]
  rfl
theorem op_rep_str {X : Cx} : OpR X (binaryOp .Mult) (fun x y H Q => ∃ (a : Str) (n : Int), x = .str a ∧ y = .int n ∧ a.length = 1 ∧ 0 ≤ n ∧ n ≤ 1000 ∧ Q (.str (repS a n.toNat)) H) := by
  intro pins s σ H x y v u Q I rx ry h
  obtain ⟨a, n, rfl, rfl, ha, h0, h1, q⟩ := h
  obtain ⟨t, rfl⟩ := rx
  obtain ⟨t', rfl⟩ := ry
  refine PySem.P.mul_str ?_ (fun _ _ => ?_) (fun _ _ => ?_) ?_
  · rw [decide_eq_false (by omega), decide_eq_false (by omega)]
    rfl
  · rw [ha]
    rename_i hn _
    have h5 : (2 ^ 63 - 1 : Int) / 1000 ≤ (2 ^ 63 - 1) / n := by
      apply (Int.le_ediv_iff_mul_le (by omega)).mpr
      have h6 : (2 ^ 63 - 1 : Int) / 1000 = 9223372036854775 := by decide
      rw [h6]
      omega
    have h7 : (2 ^ 63 - 1 : Int) / 1000 = 9223372036854775 := by decide
    omega
  · rw [ha, Nat.one_mul]
    unfold Builtin.Str.tooLong
    rw [sizeLine_eq]
    exact decide_eq_false (by omega)
  · have done : ∀ (t2 : Tok) (k2 : Nat), EP X pins σ Q (.str (repS a n.toNat) t2) { s with toks := k2 } := fun t2 k2 => ⟨.str _, H, I.tok k2, ⟨t2, rfl⟩, q⟩
    by_cases c1 : n < 1
    · rw [if_pos c1]
      have e : n.toNat = 0 := by omega
      have e2 : repS a n.toNat = Str.empty := by rw [e]; rfl
      rw [e2] at done
      exact ⟨by decide, done _ _⟩
    · rw [if_neg c1]
      by_cases c2 : (n == 1 || a.length == 0) = true
      · rw [if_pos c2]
        have e : n = 1 := by
          rw [Bool.or_eq_true, ha] at c2
          rcases c2 with c2 | c2
          · exact eq_of_beq c2
          · exact absurd c2 (by decide)
        have e2 : repS a n.toNat = a := by
          rw [e]
          unfold repS
          simp
        rw [e2] at done
        exact done t s.toks
      · rw [if_neg c2]
        have e2 : (⟨(List.replicate n.toNat a.cps).foldl (· ++ ·) #[]⟩ : Str) = repS a n.toNat := by
          unfold repS
          rw [fold_rep]
          simp
        rw [e2]
        refine ⟨?_, done _ _⟩
        rw [repS_len, ha, sizeLine_eq]
        omega
/-! ### enumerate(t), t a tuple -/
set_option maxHeartbeats 4000000 in
theorem enumNew {v : Value} {o : Obj} {Hh : Heap → Prop} (B : Begins v o Hh) :
    Meets (Builtin.«enumerate.__new__» ⟨[.type "enumerate", v], []⟩) (fun _ R s => Hh s.heap ∧
      R (.ok (.ret (.ref (s.heap.push o).objs.size)))
        { s with heap := (s.heap.push o).push { cls := .type "enumerate", data := .fields #[.none, .bool false, .ref s.heap.objs.size, rawInt 0, .none, .none] } }) :=
  .of_wp fun prog w A R s h => by
    obtain ⟨hp, g, d, tk, os⟩ := s
    obtain ⟨h1, h⟩ := h
    have hsub := sub_enumerate
    have it : ∀ {A' : Around} {E : Value → Shared → Prop} {Q : Value → Shared → Prop}, Q (.ref hp.objs.size) ⟨hp.push o, g, d, tk, os⟩ →
        wpAny (model prog w) A' (pyIter v) Q E ⟨hp, g, d, tk, os⟩ := fun q => B.iter prog w _ _ ⟨hp, g, d, tk, os⟩ _ h1 q
    wp_walk using it
    refine wpAny_stack_any fun st => wpAny_pure ?_
    split
    · rename_i c _ _ _ _ _
      cases (c == Value.type "enumerate")
      · wp_walk using it
        exact ⟨_, rfl, h⟩
      · wp_walk using it
        exact ⟨_, rfl, h⟩
    · wp_walk using it
      exact ⟨_, rfl, h⟩
theorem enumTup {prog : Program} {w : World} {A : Around} {E : Value → Shared → Prop} {s : Shared} {l : Addr} {items : Array Value} {Q : Value → Shared → Prop} (hL : s.heap.IsTuple l items)
    (h : ∀ h', IsEnum h' (s.heap.objs.size + 1) s.heap.objs.size 0 .none → h'.IsTupleIter s.heap.objs.size l 0 →
      (∀ b o, s.heap.get? b = some o → h'.get? b = some o) → Q (.ref (s.heap.objs.size + 1)) { s with heap := h' }) :
    wpAny (model prog w) A (call (.type "enumerate") [.ref l]) Q E s := by
  refine callType_new F.called_enumerate (by decide) (F.typeCall_enumerate_1 _) (F.newCall_enumerate_1 _)
    (fun obj => F.args_object_init_2 obj _) F.entry_enumerate_new (enumNew (begins_tuple l items)) ⟨hL, ?_⟩
  have hz : (s.heap.push { cls := .type "tuple_iterator", data := .fields #[.ref l, .int 0 0] }).objs.size = s.heap.objs.size + 1 := Heap.size_push ..
  show _ ∧ _
  rw [hz]
  generalize hk : (s.heap.push { cls := .type "tuple_iterator", data := .fields #[.ref l, .int 0 0] }) = h1 at hz ⊢
  have g0 : h1.get? s.heap.objs.size = some { cls := .type "tuple_iterator", data := .fields #[.ref l, .int 0 0] } := by rw [← hk]; exact Heap.get?_push_size _ rfl
  have g1 := Heap.get?_push_size h1 (o := { cls := .type "enumerate", data := .fields #[.none, .bool false, .ref s.heap.objs.size, rawInt 0, .none, .none] }) rfl
  rw [hz] at g1
  refine ⟨⟨_, g1, rfl⟩, h _ g1 ⟨_, Heap.get?_push_of_some _ g0, rfl, rfl⟩ fun b o x => Heap.get?_push_of_some _ ?_⟩
  rw [← hk]
  exact Heap.get?_push_of_some _ x
def Iet (K : PySem.W.Frag) (a : Addr) : It where
  go := fun i H => ∃ (xs : List V) (x : V), SqT K H a xs ∧ xs[i]? = some x
  yld := fun i H v H' => ∃ T x, v = .ref T ∧ H T = none ∧ H' = upd H T (.tup [.int (i : Nat), x]) ∧ ∀ xs, SqT K H a xs → xs[i]? = some x
  stop := fun i H => ∃ xs : List V, SqT K H a xs ∧ xs.length = i
theorem turnET {P : Program} {w : World} {K : PySem.W.Frag} {elts : List Expr} {kk : Nat} {tpos : Pos} (a e it : Addr) :
    Turn P w K (.Tuple elts kk tpos) (Iet K a) [e, it] e
      (fun i h => (∃ old, IsEnum h e it ((i : Nat) : Int) old) ∧ h.IsTupleIter it a i ∧ e ≠ it) where
  mem := by simp
  obj := fun i h st b hb => by
    obtain ⟨⟨old, he⟩, ⟨o, ho, hc, hd⟩, _⟩ := st
    have hb2 : b = e ∨ b = it := by simpa using hb
    rcases hb2 with rfl | rfl
    · exact ⟨_, he, fun v q => nomatch q⟩
    · exact ⟨o, ho, fun v q => by rw [hd] at q; cases q⟩
  keep := fun i h h' st k => by
    obtain ⟨⟨old, he⟩, hi, hne⟩ := st
    exact ⟨⟨old, k e (by simp) _ he⟩, hi.at fun o q => k it (by simp) o q, hne⟩
  item := by
    intro X hP hw hK hc i pins s σ H E I hf st hg
    subst hP hw hK
    obtain ⟨⟨old, he⟩, hit, hne⟩ := st
    obtain ⟨xs, x, hq, hx⟩ := hg
    obtain ⟨its, rv, p, hz⟩ := I.tuple hq
    obtain ⟨u, hu, ru⟩ := rv.get hx
    have hel : e < s.heap.objs.size := Heap.lt_size he
    have hil : it < s.heap.objs.size := by
      obtain ⟨_, q, _⟩ := hit
      exact Heap.lt_size q
    have hae : a ≠ e := fun z => by
      obtain ⟨o, ho, hcl, _⟩ := p
      rw [z, he] at ho
      cases ho
      have h9 : Value.type "enumerate" = Value.type "tuple" := hcl
      exact absurd h9 (by decide)
    have hai : a ≠ it := fun z => by
      obtain ⟨o, ho, hcl, _⟩ := p
      obtain ⟨o', ho', hcl', _⟩ := hit
      rw [z, ho'] at ho
      cases ho
      rw [hcl'] at hcl
      exact absurd hcl (by decide)
    have hlt : i < its.toArray.size := by
      rw [List.size_toArray]
      exact (List.getElem?_eq_some_iff.mp hu).1
    refine wpAny_pyNext_enum_itemD (Draws.tuple (prog := X.prog) (w := X.w) (A := X.A.in1) (I.ok.hd hc) it a hai its.toArray) he ⟨hit, p⟩ hlt hne (by simp [hne, Ne.symm hae]) fun y h' tk hy ho hst hT hsz hk => ?_
    have ey : y = u := by
      have hu' : its.toArray[i]? = some u := by simpa using hu
      rw [hu'] at hy
      exact (Option.some.inj hy).symm
    subst ey
    refine ⟨_, rfl, wpAny_letOwnedTupleGo_enum (s := { s with heap := h', toks := tk + 1 }) ho fun h'' he' sb => ?_⟩
    have hT2 := (sb.2 _ (Nat.ne_of_gt hel)).trans hT
    have new : ObjOk X.prog X.w (upd H s.heap.objs.size (.tup [.int (i : Nat), x])) h'' s.heap.objs.size (.tup [.int (i : Nat), x]) :=
      ⟨by show 2 ≤ sizeLine; decide, [.int i tk, y], .cons ⟨_, rfl⟩ (.cons ru .nil), ⟨_, hT2, rfl, _, rfl⟩⟩
    have I1 : Inv X pins σ (upd H s.heap.objs.size (.tup [.int (i : Nat), x])) { s with heap := h'', toks := tk + 1 } :=
      I.turnedNew (ch := [e, it]) (fun b ob hb q => (sb.2 b fun z => hb (by simp [z])).trans
        (hk b ob (fun z => hb (by simp [z])) (fun z => hb (by simp [z])) q)) hf (Nat.le_refl _) new
    refine ⟨.ref s.heap.objs.size, _, I1, rfl, ⟨_, x, rfl, I.hok.fresh (Nat.le_refl _), rfl, fun ys hy => by rw [I.tuple_inj hy hq]; exact hx⟩, ⟨⟨y, ?_⟩, hst.1.at fun o q => (sb.2 it (Ne.symm hne)).trans q, hne⟩, fun b hb => ?_⟩
    · rw [show ((i + 1 : Nat) : Int) = (i : Int) + 1 by omega]
      exact he'
    · have hb2 : b = e ∨ b = it := by simpa using hb
      have hb3 : b < s.heap.objs.size := by
        rcases hb2 with rfl | rfl
        · exact hel
        · exact hil
      rw [upd_ne (Nat.ne_of_lt hb3)]
      exact (hf b hb).1
  done := by
    intro X hP hw hK hc i pins s σ H E I hf st hg
    subst hP hw hK
    obtain ⟨⟨old, he⟩, hit, hne⟩ := st
    obtain ⟨xs, hq, hx⟩ := hg
    obtain ⟨its, rv, p, hz⟩ := I.tuple hq
    obtain ⟨f0, f1, f2, f3, f4, f5⟩ := hf it (by simp)
    have hai : a ≠ it := fun z => by
      obtain ⟨o, ho, hcl, _⟩ := p
      obtain ⟨o', ho', hcl', _⟩ := hit
      rw [z, ho'] at ho
      cases ho
      rw [hcl'] at hcl
      exact absurd hcl (by decide)
    have hn : its.toArray.size = i := by rw [List.size_toArray, ← rv.length, hx]
    have hst : s.heap.IsTupleIter it a its.toArray.size ∧ s.heap.IsTuple a its.toArray := ⟨by rw [hn]; exact hit, p⟩
    exact wpAny_pyNext_enum_endD (Draws.tuple (prog := X.prog) (w := X.w) (A := X.A.in1) (I.ok.hd hc) it a hai its.toArray) he hst fun h' eb => ⟨rfl, I.turned (t' := s.toks) (fun b o hb q => eb b o hb q) f0 f1 f3 f4 f5⟩
  self := fun A i s Q E st h => by
    obtain ⟨⟨_, he⟩, _⟩ := st
    exact wpAny_pyIter_enum he h
def iEnumT (K : PySem.W.Frag) (ta : TA) : TI := fun σ H R => ta σ H fun vs H1 => ∃ a xs, vs = [.ref a] ∧ SqT K H1 a xs ∧ R (Iet K a) H1
theorem pi_enumT {X : Cx} {e : Expr} {ta : TA} {p pos tpos : Pos} {elts : List Expr} {kk : Nat} (hg : Gl X "enumerate") (hm : X.mg "enumerate" = none)
    (ha : PA X [e] ta) (hs : starEach [e] X.env = [(false, eval e X.env)] := by rfl) : PI X (.Tuple elts kk tpos) (.Call (.Name "enumerate" p) [e] [] pos) (iEnumT X.K ta) := by
  refine ⟨fun pins s σ H R I h => ?_⟩
  refine Call_ (ld_blt I hg hm boot_enumerate (callWith_type1
    (thn (ha.run pos pins s σ H _ I h) fun us s1 ⟨vs, H1, I1, r1, q1⟩ => ?_) hs rfl))
  obtain ⟨a, xs, ex, hq, q⟩ := q1
  subst ex
  cases r1 with
  | cons r rr =>
    cases rr
    cases r
    obtain ⟨its, rv, p', hz⟩ := I1.tuple hq
    refine enumTup p' fun h' he hit hk => wpAny_pyIter_enum he ?_
    have I2 : Inv X pins σ H1 { s1 with heap := h' } := I1.kept (t' := s1.toks) hk
    refine ⟨s1.heap.objs.size + 1, [s1.heap.objs.size + 1, s1.heap.objs.size], _, _, H1, rfl, I2,
      turnET a (s1.heap.objs.size + 1) s1.heap.objs.size, ⟨⟨.none, he⟩, hit, Nat.succ_ne_self _⟩, fun b hb => ?_, q⟩
    have hle : s1.heap.objs.size ≤ b := by
      have hb2 : b = s1.heap.objs.size + 1 ∨ b = s1.heap.objs.size := by simpa using hb
      rcases hb2 with z | z
      · rw [z]
        exact Nat.le_add_right _ _
      · rw [z]
        exact Nat.le_refl _
    exact I1.fpOk hle (I1.hok.fresh hle)
theorem walk_enumT {K : PySem.W.Frag} {a : Addr} {xs : List V} : Walk (Iet K a) xs.length (fun H => SqT K H a xs)
    (fun i H v H' => ∃ T x, v = .ref T ∧ H T = none ∧ H' = upd H T (.tup [.int (i : Nat), x]) ∧ xs[i]? = some x) := by
  refine ⟨fun i _ hi q => ⟨xs, xs[i], q, by simp [hi]⟩, fun _ q => ⟨xs, q, rfl⟩, fun i H v H' _ q y => ?_⟩
  obtain ⟨T, x, h1, h2, h3, h4⟩ := y
  exact ⟨T, x, h1, h2, h3, h4 xs q⟩
/-! ### repr of data -/
def rReprD (K : PySem.W.Frag) : List V → Hp → VK → Prop := fun vs H Q => ∃ (v : V) (d : PyData), vs = [v] ∧ Dt K H v d ∧ d.showable = true ∧ d.depth ≤ 100 ∧ d.shown.length ≤ sizeLine ∧ Q (.str d.shown) H
mutual
theorem noD {K : PySem.W.Frag} {H : Hp} : ∀ (d : PyData) {v : V}, Dp K H v d → d.hasDict = false
  | .none, _, _ => rfl
  | .bool _, _, _ => rfl
  | .int _, _, _ => rfl
  | .str _, _, _ => rfl
  | .list ds, _, h => by
    cases h with
    | lst _ ha => rw [PyData.hasDict]; exact noDAll ds ha
  | .tuple ds, _, h => by
    cases h with
    | tup _ ha => rw [PyData.hasDict]; exact noDAll ds ha
  | .dict _, _, h => by cases h
theorem noDAll {K : PySem.W.Frag} {H : Hp} : ∀ (ds : List PyData) {vs : List V}, DpAll K H vs ds → PyData.hasDictAll ds = false
  | [], _, _ => rfl
  | d :: ds, _, h => by
    cases h with
    | cons h1 h2 => rw [PyData.hasDictAll, noD d h1, noDAll ds h2]; rfl
end
theorem call_reprD {X : Cx} (hg : X.A.guards = some []) (hu : X.A.units + 200 < cLine) : CallR X (.builtin "repr") (rReprD X.K) := by
  intro pins s σ H vs us Q I r h
  obtain ⟨v, d, rfl, hd, hs, hdp, hz, q⟩ := h
  cases r with
  | cons r1 rr =>
    cases rr
    rename_i u
    cases hd with
    | d hd =>
      obtain ⟨as, hR⟩ := Dp.reads I d v u hd r1
      have fin : ∀ (t' : Tok) (k : Nat), EP X pins σ Q (.str d.shown t') { s with toks := k } := fun t' k => ⟨.str _, H, I.tok k, ⟨t', rfl⟩, q⟩
      cases hd with
      | non =>
        cases (show u = Value.none from r1)
        exact PySem.P.repr_of_none (fin _ _)
      | bl b =>
        cases (show u = Value.bool b from r1)
        refine PySem.P.repr_of_bool ?_
        have := fin s.toks (s.toks + 1)
        cases b <;> exact this
      | int i =>
        obtain ⟨t', rfl⟩ := r1
        exact PySem.P.repr_of_int (of_decide_eq_true hs) (fin _ _)
      | str x =>
        obtain ⟨t', rfl⟩ := r1
        exact PySem.P.repr_of_str (fin _ _) hz
      | @lst a xs ds hs2 ha =>
        cases (show u = Value.ref a from r1)
        have hnd : (PyData.list ds).hasDict = true → sysModules ∉ as := PyData.noDict_hsm (noD _ (.lst hs2 ha))
        exact repr_of_reads' hR hs hnd hg (by omega) (fun b o e => e) (fun h' t' tk hk => ⟨.str _, H, I.kept (t' := tk) hk, ⟨t', rfl⟩, q⟩) hz
      | @tup a xs ds hs2 ha =>
        cases (show u = Value.ref a from r1)
        have hnd : (PyData.tuple ds).hasDict = true → sysModules ∉ as := PyData.noDict_hsm (noD _ (.tup hs2 ha))
        exact repr_of_reads' hR hs hnd hg (by omega) (fun b o e => e) (fun h' t' tk hk => ⟨.str _, H, I.kept (t' := tk) hk, ⟨t', rfl⟩, q⟩) hz
    | @e a hd =>
      cases (show u = Value.ref a from r1)
      obtain ⟨hz2, hsm, vs, hkv, o, es, ep, h1, h2, h3⟩ := (show ObjOk X.prog X.w H s.heap a (.dK []) from I.hok a _ hd)
      cases hkv
      have hes : es.toList = [] := by
        have hp := h3.2.2.1
        generalize es.toList = l at hp
        cases hp
        rfl
      have hR : Reads s.heap (.ref a) (.dict []) (a :: [] ++ []) := Reads.dict h1 h2.1 h3.1 (by rw [hes]; exact .nil) (by rw [hes]; exact .nil)
      have hne : ¬ a = sysModules := fun z => by rw [z] at hsm; simp at hsm
      exact repr_of_reads' hR hs (fun _ z => hne (by simpa using Eq.symm (by simpa using z))) hg (by omega) (fun b o e => e) (fun h' t' tk hk => ⟨.str _, H, I.kept (t' := tk) hk, ⟨t', rfl⟩, q⟩) hz
end Tl

set_option Elab.async false
set_option linter.all false
set_option maxRecDepth 100000
set_option maxHeartbeats 4000000
/-! Data that is good to be shown: short texts, small numbers; how long its text can be. -/
namespace Tl
open PySem L2
mutual
def wt : PyData → Nat
  | .none => 4
  | .bool _ => 5
  | .int _ => 1930
  | .str s => 10 * s.length + 4
  | .list ds => 3 + wtAll ds
  | .tuple ds => 3 + wtAll ds
  | .dict _ => 2
def wtAll : List PyData → Nat
  | [] => 0
  | d :: ds => wt d + 2 + wtAll ds
end
mutual
def gd : PyData → Bool
  | .none => true
  | .bool _ => true
  | .int i => decide (i.natAbs < 10 ^ 41)
  | .str s => decide (s.length ≤ 1000) && PyData.strOk s
  | .list ds => gdAll ds
  | .tuple ds => gdAll ds
  | .dict _ => false
def gdAll : List PyData → Bool
  | [] => true
  | d :: ds => gd d && gdAll ds
end
mutual
theorem gd_txt : ∀ d : PyData, gd d = true → txt d = true
  | .none, _ => rfl
  | .bool _, _ => rfl
  | .int _, _ => rfl
  | .str s, h => by rw [gd] at h; rw [txt]; exact h
  | .list ds, h => by rw [gd] at h; rw [txt]; exact gdAll_txt ds h
  | .tuple ds, h => by rw [gd] at h; rw [txt]; exact gdAll_txt ds h
  | .dict _, h => Bool.noConfusion h
theorem gdAll_txt : ∀ ds : List PyData, gdAll ds = true → txtAll ds = true
  | [], _ => rfl
  | d :: ds, h => by
    rw [gdAll, Bool.and_eq_true] at h
    rw [txtAll, gd_txt d h.1, gdAll_txt ds h.2]
    rfl
end
theorem big41 : (10 : Nat) ^ 41 ≤ 2 ^ 1920 := Nat.le_trans (show (10 : Nat) ^ 41 ≤ 2 ^ 200 by decide) (Nat.pow_le_pow_right (by decide) (by decide))
mutual
theorem gd_show : ∀ d : PyData, gd d = true → d.showable = true
  | .none, _ => rfl
  | .bool _, _ => rfl
  | .int i, h => by
    rw [gd] at h
    have h2 : i.natAbs < 10 ^ 41 := of_decide_eq_true h
    rw [PyData.showable]
    apply decide_eq_true
    by_cases h0 : i.natAbs = 0
    · rw [h0]; decide
    · exact (Nat.log2_lt h0).mpr (Nat.lt_of_lt_of_le h2 big41)
  | .str s, h => rfl
  | .list ds, h => by rw [gd] at h; rw [PyData.showable]; exact gdAll_show ds h
  | .tuple ds, h => by rw [gd] at h; rw [PyData.showable]; exact gdAll_show ds h
  | .dict _, h => Bool.noConfusion h
theorem gdAll_show : ∀ ds : List PyData, gdAll ds = true → PyData.showableAll ds = true
  | [], _ => rfl
  | d :: ds, h => by
    rw [gdAll, Bool.and_eq_true] at h
    rw [PyData.showableAll, gd_show d h.1, gdAll_show ds h.2]
    rfl
end
theorem textFrom_le : ∀ (ts : List Str) (k : Nat) (acc : Str), (textFrom k acc ts).length ≤ acc.length + piled ts
  | [], k, acc => by rw [piled_nil]; exact Nat.le_refl _
  | t :: r, k, acc => by
    have ih := textFrom_le r (k + 1) (acc ++ (if k > 0 then ", " else "" : String) ++ t)
    have e : (acc ++ (if k > 0 then ", " else "" : String) ++ t).length ≤ acc.length + 2 + t.length := by
      rw [strLen_append, strLen_append]
      have : ((if k > 0 then ", " else "" : String) : Str).length ≤ 2 := by split <;> decide +kernel
      omega
    show (textFrom (k + 1) _ r).length ≤ _
    rw [piled_cons]
    omega
theorem listText_le (ts : List Str) : (listText ts).length ≤ piled ts + 2 := by
  unfold listText
  rw [strLen_append]
  have h := textFrom_le ts 0 "["
  have e1 : ((("[" : String) : Str)).length = 1 := rfl
  have e2 : ((("]" : String) : Str)).length = 1 := rfl
  rw [e1] at h
  rw [e2]
  omega
mutual
theorem shown_le : ∀ d : PyData, gd d = true → d.shown.length ≤ wt d
  | .none, _ => by decide +kernel
  | .bool true, _ => by decide +kernel
  | .bool false, _ => by decide +kernel
  | .int i, h => by
    rw [gd] at h
    have h2 : i.natAbs < 10 ^ 41 := of_decide_eq_true h
    have h4 : i.natAbs.log2 < 1920 := by
      by_cases h0 : i.natAbs = 0
      · rw [h0]; decide
      · exact (Nat.log2_lt h0).mpr (Nat.lt_of_lt_of_le h2 big41)
    have h3 := PyProof.Rows.int_text_len_1921 h4
    show (Str.ofString (toString i)).length ≤ 1930
    omega
  | .str s, h => by
    rw [gd, Bool.and_eq_true] at h
    have h2 := h.2
    rw [PyData.strOk, ← Array.all_toList, List.all_eq_true] at h2
    have h3 := StrLaws.reprText_len s fun c hc => Nat.lt_of_lt_of_le (of_decide_eq_true (h2 c hc)) (by decide)
    show (reprText s).length ≤ 10 * s.length + 4
    omega
  | .list ds, h => by
    rw [gd] at h
    have h2 := shownAll_le ds h
    have h3 := listText_le (PyData.shownAll ds)
    show (listText (PyData.shownAll ds)).length ≤ 3 + wtAll ds
    omega
  | .tuple ds, h => by
    rw [gd] at h
    have h2 := shownAll_le ds h
    have h3 := fmt_text (PyData.shownAll ds)
    show (tupleText (PyData.shownAll ds)).length ≤ 3 + wtAll ds
    omega
  | .dict _, h => Bool.noConfusion h
theorem shownAll_le : ∀ ds : List PyData, gdAll ds = true → piled (PyData.shownAll ds) ≤ wtAll ds
  | [], _ => Nat.le_refl _
  | d :: ds, h => by
    rw [gdAll, Bool.and_eq_true] at h
    have h1 := shown_le d h.1
    have h2 := shownAll_le ds h.2
    rw [PyData.shownAll, piled_cons, wtAll]
    omega
end
theorem gdAll_get : ∀ {ds : List PyData} {i : Nat} {d : PyData}, gdAll ds = true → ds[i]? = some d → gd d = true ∧ wt d + 2 ≤ wtAll ds ∧ d.depth ≤ PyData.depthAll ds
  | [], _, _, _, e => by simp at e
  | a :: r, 0, d, h, e => by
    rw [gdAll, Bool.and_eq_true] at h
    simp at e
    subst e
    rw [wtAll, PyData.depthAll]
    exact ⟨h.1, by omega, Nat.le_max_left _ _⟩
  | a :: r, i + 1, d, h, e => by
    rw [gdAll, Bool.and_eq_true] at h
    obtain ⟨h1, h2, h3⟩ := gdAll_get (i := i) h.2 (by simpa using e)
    rw [wtAll, PyData.depthAll]
    exact ⟨h1, by omega, Nat.le_trans h3 (Nat.le_max_right _ _)⟩
theorem gdAll_app : ∀ {ds es : List PyData}, gdAll (ds ++ es) = (gdAll ds && gdAll es)
  | [], es => by rw [List.nil_append, gdAll, Bool.true_and]
  | a :: r, es => by rw [List.cons_append, gdAll, gdAll, gdAll_app, Bool.and_assoc]
theorem wtAll_app : ∀ {ds es : List PyData}, wtAll (ds ++ es) = wtAll ds + wtAll es
  | [], es => by rw [List.nil_append, wtAll, Nat.zero_add]
  | a :: r, es => by rw [List.cons_append, wtAll, wtAll, wtAll_app]; omega
theorem depthAll_app : ∀ {ds es : List PyData}, PyData.depthAll (ds ++ es) = max (PyData.depthAll ds) (PyData.depthAll es)
  | [], es => by rw [List.nil_append, PyData.depthAll]; omega
  | a :: r, es => by rw [List.cons_append, PyData.depthAll, PyData.depthAll, depthAll_app]; omega
theorem gdAll_rep {ds : List PyData} (h : gdAll ds = true) : ∀ n, gdAll (List.replicate n ds).flatten = true
  | 0 => rfl
  | n + 1 => by rw [List.replicate_succ, List.flatten_cons, gdAll_app, h, gdAll_rep h n]; rfl
theorem wtAll_rep (ds : List PyData) : ∀ n, wtAll (List.replicate n ds).flatten = n * wtAll ds
  | 0 => by rw [Nat.zero_mul]; rfl
  | n + 1 => by rw [List.replicate_succ, List.flatten_cons, wtAll_app, wtAll_rep ds n, Nat.succ_mul]; omega
theorem depthAll_rep (ds : List PyData) : ∀ n, PyData.depthAll (List.replicate n ds).flatten ≤ PyData.depthAll ds
  | 0 => Nat.zero_le _
  | n + 1 => by
    have := depthAll_rep ds n
    rw [List.replicate_succ, List.flatten_cons, depthAll_app]
    omega
theorem depthAll_le {ds : List PyData} {m : Nat} : (∀ d ∈ ds, d.depth ≤ m) → PyData.depthAll ds ≤ m := by
  induction ds with
  | nil => intro _; exact Nat.zero_le _
  | cons a r ih =>
    intro h
    rw [PyData.depthAll]
    have h1 := h a List.mem_cons_self
    have h2 := ih fun d hd => h d (List.mem_cons_of_mem _ hd)
    omega
theorem gdAll_of {ds : List PyData} : (∀ d ∈ ds, gd d = true) → gdAll ds = true := by
  induction ds with
  | nil => intro _; rfl
  | cons a r ih =>
    intro h
    rw [gdAll, h a List.mem_cons_self, ih fun d hd => h d (List.mem_cons_of_mem _ hd)]
    rfl
theorem len_wt : ∀ ds : List PyData, 2 * ds.length ≤ wtAll ds
  | [] => Nat.zero_le _
  | a :: r => by
    have := len_wt r
    rw [wtAll, List.length_cons]
    omega

/-! ### trees -/
def tags6 : List Str := ["a", "b", "ab", "zz", "abcdefgh", "z"]
def tagOk (s : Str) : Prop := 1 ≤ s.length ∧ s.length ≤ 8 ∧ (PyData.strOk s = true ∧ s ∈ tags6)
def TrD : Nat → PyData → Prop
  | 0, _ => False
  | h + 1, d => ∃ (s : Str) (ks : List PyData), d = .tuple [.str s, .tuple ks] ∧ tagOk s ∧ ∀ k ∈ ks, TrD h k
theorem TrD.mono : ∀ {h h' : Nat} {d : PyData}, h ≤ h' → TrD h d → TrD h' d
  | 0, _, _, _, t => t.elim
  | h + 1, 0, _, e, _ => by omega
  | h + 1, h' + 1, d, e, t => by
    obtain ⟨s, ks, rfl, a, b⟩ := t
    exact ⟨s, ks, rfl, a, fun k hk => TrD.mono (by omega) (b k hk)⟩
theorem gd_tag {s : Str} (h : tagOk s) : gd (.str s) = true := by
  rw [gd, h.2.2.1, decide_eq_true (by have := h.2.1; omega)]
  rfl
theorem TrD.gd : ∀ {h : Nat} {d : PyData}, TrD h d → gd d = true ∧ d.depth ≤ 2 * h
  | 0, _, t => t.elim
  | h + 1, d, t => by
    obtain ⟨s, ks, rfl, a, b⟩ := t
    have g1 : gdAll ks = true := gdAll_of fun k hk => (TrD.gd (b k hk)).1
    have g2 : PyData.depthAll ks ≤ 2 * h := depthAll_le fun k hk => (TrD.gd (b k hk)).2
    refine ⟨?_, ?_⟩
    · rw [Tl.gd, gdAll, gdAll, gdAll, gd_tag a, Tl.gd, g1]
      rfl
    · simp only [PyData.depth, PyData.depthAll]
      omega
theorem wt_node (s : Str) (ks : List PyData) : wt (.tuple [.str s, .tuple ks]) = 10 * s.length + 14 + wtAll ks := by
  simp only [wt, wtAll]
  omega

/-! ### the heap: data in F within H, the source of numbers at st -/
structure Gw (F H F' H' : Hp) : Prop where
  ff : Same F F'
  fh : Same F' H'
  hh : Same H H'
  nw : ∀ b, H b ≠ none → F b = none → F' b = none
theorem Gw.refl {F H : Hp} (e : Same F H) : Gw F H F H := ⟨Same.refl _, e, Same.refl _, fun _ _ h => h⟩
theorem Gw.trans {F H F1 H1 F2 H2 : Hp} (a : Gw F H F1 H1) (b : Gw F1 H1 F2 H2) : Gw F H F2 H2 :=
  ⟨a.ff.trans b.ff, b.fh, a.hh.trans b.hh, fun x h1 h2 => b.nw x (fun z => h1 (a.hh.free z)) (a.nw x h1 h2)⟩
theorem Gw.new {F H : Hp} {p : Addr} {o : HO} (e : Same F H) (h : H p = none) : Gw F H (upd F p o) (upd H p o) := by
  refine ⟨same_new (e.free h), fun b u q => ?_, same_new h, fun b h1 h2 => ?_⟩
  · by_cases z : b = p
    · subst z
      rw [upd_same] at q ⊢
      exact q
    · rw [upd_ne z] at q ⊢
      exact e b u q
  · rw [upd_ne (fun z => h1 (by rw [z]; exact h))]
    exact h2
theorem Gw.temp {F H : Hp} {p : Addr} {o : HO} (e : Same F H) (h : H p = none) : Gw F H F (upd H p o) :=
  ⟨Same.refl _, same_mut e (e.free h), same_new h, fun _ _ h2 => h2⟩
theorem Gw.more {F H F1 H1 H2 : Hp} (a : Gw F H F1 H1) (b : Same H1 H2) : Gw F H F1 H2 := ⟨a.ff, a.fh.trans b, a.hh.trans b, a.nw⟩
end Tl

set_option Elab.async false
set_option linter.all false
set_option maxRecDepth 100000
set_option maxHeartbeats 4000000
/-! A def called at one place alone (what stands around it is known), and a law's end by it. -/
namespace Tl
open PySem PySem.Spec PyProof.Rows L2
theorem run_at {P : Program} {w : World} {K : PySem.W.Frag} {mg : Str → Option Value} {base : Heap} {k : Nat} {f : Addr} {fd : FuncData} {x qual : Str} {st : Stmt} {N ps : List Str} {A0 : Around} {outer : List Env} {s : Shared} {H : Hp} {args : Args} {us : List Value} {vs : List V} {Q : VK} {E : XK}
    (F : Fun K x qual st f fd) (S : FnScope N ps (defScope st)) (hr : Room (k + 1) A0) (e0 : Env0 P w K mg base A0 outer s H) (hb : BindsTo s fd args (ps.zip us)) (r : Vals vs us) (hl : vs.length = ps.length)
    (body : ∀ cdv : Value, Room k (A0.deeper (envOfC qual (defScope st) s.heap.objs.size f cdv)) →
      ∃ t, PSs (cxOf CX0 P w K mg base N qual (defScope st) f cdv A0 outer s H E).nox (defBody st) t ∧ t { nx := fun _ H' => Q .non H', rt := Q } (start N vs) H) :
    codeAny (model P w) A0 (.call (.ref f) args) (CR CX0 outer P w H s Q E) s := by
  obtain ⟨oc, od, kV, doc, pm, an, cdv, ct, osl, rfl, lk, hcd⟩ := F.ex
  have keep : ∀ b o, base.get? b = some o → s.heap.get? b = some o := fun b o q => (e0.bs b o q).1
  have KX : K.In s.heap := e0.mod.kin.keeps keep
  have hkind : ∀ y ∈ ps.zip us, (defScope st).names.lookup y.1 = some .local ∨
      ((defScope st).names.lookup y.1 = some .cell ∧ ((cellsFrom (s.heap.objs.size + 1) (defScope st).names []).lookup y.1).isSome = true) := by
    rintro ⟨n, v⟩ hy
    exact (S.par n (List.of_mem_zip hy).1).imp id fun q => ⟨q, PySem.W.cellsFrom_some _ _ _ (.inl q)⟩
  refine codeAny_call_function hr.depth (KX _ _ lk) rfl S.co S.gen rfl
    (PySem.W.codeRec_of KX hcd) (hb _ _ _ _ ?_)
  refine wpAny_newFunctionEnv_cells S.kind hkind fun env he s1 xx => ?_
  subst he
  refine ⟨(e0.mod.nolimit.keeps keep).keeps xx.toInCall.keep, codeAny_func ?_⟩
  obtain ⟨t, ht, hq⟩ := body cdv (hr.deeper _)
  have I := inv_start (CX := CX0) (E := E) S hr.hd e0 hl r xx
  refine wpAny_mono (ht.nox.run [] s1 (start N vs) H _ I hq) (fun fl s' hs => ?_) fun e s' hs => hs
  cases fl with
  | ret u =>
    obtain ⟨v, σ', H', J, rv, q⟩ := hs
    exact ⟨v, H', J.os, J.bare, J.base, J.hok, rv, q⟩
  | next =>
    obtain ⟨σ', H', J, q⟩ := hs
    exact ⟨V.non, H', J.os, J.bare, J.base, J.hok, rfl, q⟩
  | brk =>
    obtain ⟨_, _, _, q⟩ := hs
    exact q.elim
  | cont =>
    obtain ⟨_, _, _, q⟩ := hs
    exact q.elim
/-- what is tracked as a law begins: nothing, or the script alone, locked -/
def onlyAt (a : Addr) (o : Obj) (xs : List V) : Hp := fun b => if b = a then some (.frz o (.lst xs)) else none
theorem end_at {P : Program} {w : World} {K : PySem.W.Frag} {mg mb : Str → Option Value} {fa a : Addr} {s₁ : Shared} {vs : List Value} {ns : List Int}
    (KX : K.In s₁.heap) (hns : s₁.heap.Ns mainGlobals mg) (hmb : s₁.heap.Ns builtinsNs mb) (hbb : ∀ x : Str, x ≠ "__name__" → mb x = bootBuiltins x)
    (hlim : s₁.heap.NoLimit) (hg : s₁.gens = #[]) (ha : s₁.heap.get? a = some { cls := .type "list", data := .seq vs.toArray }) (hi : IntsAre vs ns) (hl : ns.length ≤ sizeLine)
    (run : ∀ (base : Heap) (H : Hp), K.In base → base.Ns mainGlobals mg → SqL K H a (ns.map V.int) → Env0 P w K mg base callerA [] s₁ H →
      codeAny (model P w) callerA (.call (.ref fa) ⟨[.ref a], []⟩) (CR CX0 [] P w H s₁ (fun v _ => v = V.bl true) fun _ _ _ => False) s₁) :
    codeAny (model P w) callerA (.call (.ref fa) ⟨[.ref a], []⟩)
      (fun r s' => r = .ok (.ret (.bool true)) ∧ OldK s₁.heap s'.heap ∧ s'.os = s₁.os ∧ AllBare s'.gens) s₁ := by
  have rv := vals_ints hi
  have go : ∀ H : Hp, (∀ b u, H b = some u → b = a ∧ ∃ o xs, u = .frz o (.lst xs)) → SqL K H a (ns.map V.int) → HOk P w H s₁.heap → (H a ≠ none → K.lookup a = none) →
      codeAny (model P w) callerA (.call (.ref fa) ⟨[.ref a], []⟩)
        (fun r s' => r = .ok (.ret (.bool true)) ∧ OldK s₁.heap s'.heap ∧ s'.os = s₁.os ∧ AllBare s'.gens) s₁ := by
    intro H hO hS hok hK
    have bo : ∀ {b : Addr} {o : Obj}, s₁.heap.get? b = some o → H b = none → (hidT s₁.heap H).get? b = some o := fun q n => hidT_get q n
    have nd : ∀ {b : Addr} {o : Obj} {es : Array DictEntry} {ep : Nat}, s₁.heap.get? b = some o → o.data = .dict es ep → H b = none := by
      intro b o es ep q d
      cases z : H b with
      | none => rfl
      | some u =>
        obtain ⟨rfl, _⟩ := hO b u z
        rw [ha] at q
        cases q
        have d' : Data.seq vs.toArray _ = Data.dict es ep := d
        cases d'
    have nsK : ∀ {b : Addr} {m : Str → Option Value}, s₁.heap.Ns b m → (hidT s₁.heap H).Ns b m := by
      rintro b m ⟨o, es, ep, q, d, r⟩
      exact ⟨o, es, ep, bo q (nd q d), d, r⟩
    have hKb : K.In (hidT s₁.heap H) := fun b o q => bo (KX b o q) (by
      cases z : H b with
      | none => rfl
      | some u =>
        obtain ⟨rfl, _⟩ := hO b u z
        have := hK (by rw [z]; exact fun y => nomatch y)
        rw [this] at q
        cases q)
    obtain ⟨mc, l1, l2⟩ := hlim
    have hM : Mod K mg (hidT s₁.heap H) := ⟨hKb, nsK hns, ⟨mb, nsK hmb, hbb⟩, ⟨mc, nsK l1, l2⟩⟩
    have e0 : Env0 P w K mg (hidT s₁.heap H) callerA [] s₁ H :=
      ⟨rfl, hM, fun b o q => of_hidT q, Nat.le_of_eq (hidT_size _ _), trivial, fun b hb => absurd (show b ∈ ([] : List Addr) from hb) (by simp), hok, .of_eq hg⟩
    refine codeAny_mono (run _ H hKb (nsK hns) hS e0) fun r s' h => ?_
    cases r with
    | error e => exact h.elim
    | ok fl =>
      cases fl with
      | ret u =>
        obtain ⟨v, H', os, bare, un, hok', r', q⟩ := h
        have q' : v = .bl true := q
        subst q'
        obtain rfl : u = Value.bool true := r'
        refine ⟨rfl, OldK.of_keep fun b o e => ?_, os, bare⟩
        cases z : H b with
        | none => exact un.keep b o e z (fun y => absurd (show b ∈ ([] : List Addr) from y) (by simp)) (by simp)
        | some u =>
          obtain ⟨rfl, ob, xs, rfl⟩ := hO b u z
          have z2 := un.frzs b ob _ z
          obtain ⟨e1, _⟩ := hok b _ z
          obtain ⟨e2, _⟩ := hok' b _ z2
          rw [e] at e1
          cases e1
          exact e2
      | next => exact h.elim
      | brk => exact h.elim
      | cont => exact h.elim
  have lenV := hi.length
  cases hk : K.lookup a with
  | some o =>
    have e := KX a o hk
    rw [ha] at e
    cases e
    have no : ∀ (b : Addr) (u : HO), (fun _ : Addr => (none : Option HO)) b = some u → False := fun b u z => by
      have z' : (none : Option HO) = some u := z
      cases z'
    exact go (fun _ => none) (fun b u z => (no b u z).elim) (.inr ⟨_, vs.toArray, _, hk, rfl, rfl, rfl, by rw [List.size_toArray, lenV]; exact hl, by simpa using rv⟩)
      (fun b u z => (no b u z).elim) fun z => absurd rfl z
  | none =>
    have at_a : onlyAt a { cls := .type "list", data := .seq vs.toArray } (ns.map V.int) a = some (.frz { cls := .type "list", data := .seq vs.toArray } (.lst (ns.map V.int))) := if_pos rfl
    have only : ∀ b u, onlyAt a { cls := .type "list", data := .seq vs.toArray } (ns.map V.int) b = some u → b = a ∧ u = .frz { cls := .type "list", data := .seq vs.toArray } (.lst (ns.map V.int)) := fun b u z => by
      unfold onlyAt at z
      by_cases hb : b = a
      · rw [if_pos hb] at z
        exact ⟨hb, (Option.some.inj z).symm⟩
      · rw [if_neg hb] at z
        cases z
    refine go (onlyAt a { cls := .type "list", data := .seq vs.toArray } (ns.map V.int)) (fun b u z => ?_) (.inl (.inr ⟨_, at_a⟩)) (fun b u z => ?_) fun _ => hk
    · obtain ⟨h1, h2⟩ := only b u z
      exact ⟨h1, _, _, h2⟩
    · obtain ⟨rfl, rfl⟩ := only b u z
      exact ⟨ha, by rw [List.length_map]; exact hl, vs, _, rv, ha⟩
theorem walk_at_top {l : PySem.W.OpenLaw} {n : Nat} {q : Program} {loose : List Str} {XP : (Str → Option Value) → Heap → Prop} {YP : World → Heap → Prop} {d : DefRec} {K : Params → PySem.W.Frag}
    (hn : l.most = some n) (hn2 : n ≤ sizeLine) (hdf : d.params.defaults = []) (hY : ∀ (w : World) (h : Heap), YP w h → (K w.params).In h)
    (F : ∀ (w : World) (mg : Str → Option Value) (fa : Addr) (h : Heap), (K w.params).In h → h.Ns mainGlobals mg → mg d.name = some (.ref fa) →
      ∀ (s₁ : Shared) (base : Heap) (H : Hp) (a : Addr) (ns : List Int), ns.length ≤ n → (K w.params).In base → base.Ns mainGlobals mg → SqL (K w.params) H a (ns.map V.int) → Env0 l.prog w (K w.params) mg base callerA [] s₁ H →
        codeAny (model l.prog w) callerA (.call (.ref fa) ⟨[.ref a], []⟩) (CR CX0 [] l.prog w H s₁ (fun v _ => v = V.bl true) fun _ _ _ => False) s₁) :
    PySem.W.WalkO q loose XP YP l.row.toRowW d [] (fun f vs => PySem.call f vs) := by
  refine Att.attach_call hn hdf fun w s₀ s₁ mg mb fa o pm cd doc a vs ns G Y ho hd hcd hmg hobj hints hlen hg => ?_
  have KX := hY w _ Y
  exact end_at KX G.T.g G.T.b G.T.builtins G.T.nolimit hg hobj hints (Nat.le_trans hlen hn2)
    fun base H h1 h2 h3 h4 => F w mg fa _ KX G.T.g hmg s₁ base H a ns hlen h1 h2 h3 h4
end Tl

set_option Elab.async false
set_option linter.all false
set_option maxRecDepth 100000
set_option maxHeartbeats 4000000
namespace Tl
open PySem L2
def top (i : Nat) : Stmt := PySem.Challenge.pw_treelore_k02_trees_told.main.body.getD i (.Pass ⟨0, 0, 0, 0⟩)
abbrev sIsCount : Stmt := top 13
abbrev sIsNumber : Stmt := top 14
abbrev sIsTag : Stmt := top 15
abbrev sIsPath : Stmt := top 16
abbrev sIsTree : Stmt := top 17
abbrev sRoom : Stmt := top 18
abbrev sTagKids : Stmt := top 19
/-! ### what they answer -/
def isCount : PyData → Bool
  | .int i => decide (0 ≤ i)
  | _ => false
def isNum (m : Int) : PyData → Bool
  | .int i => decide (0 ≤ i) && decide (i ≤ m)
  | _ => false
def small (c : Nat) : Bool := decide (97 ≤ c) && decide (c ≤ 122)
def isTag : PyData → Bool
  | .str s => decide (1 ≤ s.length) && decide (s.length ≤ 8) && s.cps.toList.all small
  | _ => false
def isPath : PyData → Bool
  | .tuple ds => decide (ds.length < 12) && ds.all (isNum 59)
  | _ => false
def tagKids : PyData → Bool
  | .tuple [a, b] => isTag a && isTup b
  | _ => false
def spB (K : PySem.W.Frag) (f : PyData → Bool) : Sp := fun vs H Q _ => ∃ (v : V) (d : PyData), vs = [v] ∧ Dt K H v d ∧ txt d = true ∧ ∀ H', Same H H' → Q (.bl (f d)) H'
def spB2 (K : PySem.W.Frag) (f : Int → PyData → Bool) : Sp := fun vs H Q _ => ∃ (v : V) (d : PyData) (m : Int), vs = [v, .int m] ∧ Dt K H v d ∧ txt d = true ∧ ∀ H', Same H H' → Q (.bl (f m d)) H'
/-- the program's own numbers -/
structure Cs (mg : Str → Option Value) : Prop where
  SIZE : ∃ t, mg "SIZE" = some (.int 60 t)
  DEPTH : ∃ t, mg "DEPTH" = some (.int 12 t)
  SIGNS : ∃ t, mg "SIGNS" = some (.int 8 t)
theorem c_SIZE {X : Cx} (C : Cs X.mg) {p : Pos} (hg : Gl X "SIZE" := by rfl) : PE X (.Name "SIZE" p) (tC (.int 60)) := by
  obtain ⟨t, e⟩ := C.SIZE
  exact pe_glob hg e ⟨t, rfl⟩
theorem c_DEPTH {X : Cx} (C : Cs X.mg) {p : Pos} (hg : Gl X "DEPTH" := by rfl) : PE X (.Name "DEPTH" p) (tC (.int 12)) := by
  obtain ⟨t, e⟩ := C.DEPTH
  exact pe_glob hg e ⟨t, rfl⟩
theorem c_SIGNS {X : Cx} (C : Cs X.mg) {p : Pos} (hg : Gl X "SIGNS" := by rfl) : PE X (.Name "SIGNS" p) (tC (.int 8)) := by
  obtain ⟨t, e⟩ := C.SIGNS
  exact pe_glob hg e ⟨t, rfl⟩
theorem iteE {x y : Int} {A B : Prop} (h1 : x = y → A) (h2 : ¬ x = y → B) : if decide (V.int x = V.int y) = true then A else B :=
  iteD (fun c => h1 (V.int.inj c)) fun c => h2 fun z => c (by rw [z])
section
variable {P : Program} {w : World} {K : PySem.W.Frag} {mg : Str → Option Value} {base : Heap}
theorem scCount : FnScope ["thing"] ["thing"] (defScope sIsCount) := ⟨rfl, rfl, rfl, by decide +kernel, rfl, by decide +kernel, by decide +kernel⟩
theorem ok_count {f : Addr} {fd : FuncData} {k : Nat} (F : Fun K "is_count" "is_count" sIsCount f fd) (T : Bl mg) : FnOk P w K mg base CX0 (k + 1) f fd ["thing"] (spB K isCount) := by
  refine F.ok scCount (fun vs H Q E h => ?_) (fun cdv A outer s H vs Q E hr h => ?_)
  · obtain ⟨v, d, rfl, _⟩ := h
    rfl
  obtain ⟨v, d, rfl, hv, _, q⟩ := h
  refine ⟨_, (pss_one (ps_ret (pe_and (pe_callB (r := rIsi K) call_isi (by rfl) T.isi PyProof.Rows.boot_isinstance (pa_cons (pv 0) (pa_cons (b_int T) pa_nil))) (pe_and (pe_not (pe_callB (r := rIsi K) call_isi (by rfl) T.isi PyProof.Rows.boot_isinstance (pa_cons (pv 0) (pa_cons (b_bool T) pa_nil)))) (pe_one (pe_cmpR op_ge (pv 0) pe_int (nomark _))))))), ?_⟩
  refine ⟨v, rfl, v, .ty "int", _, _, _, rfl, .ty "int", ty_data hv, kit_ty (kit_int d), _, rfl, ?_⟩
  have q' := q H (Same.refl H)
  cases d with
  | int i =>
    cases hv with
    | d hv =>
      cases hv
      refine ⟨_, rfl, _, .ty "bool", _, _, _, rfl, .ty "bool", ty_data (.d (.int i)), kit_ty (kit_bl _), _, rfl, _, rfl, ?_⟩
      exact ⟨_, rfl, i, 0, rfl, rfl, q'⟩
  | bool b =>
    refine ⟨v, rfl, v, .ty "bool", _, _, _, rfl, .ty "bool", ty_data hv, kit_ty (kit_bl _), _, rfl, _, rfl, ?_⟩
    exact q'
  | none => exact q'
  | str s => exact q'
  | list s => exact q'
  | tuple s => exact q'
  | dict s => exact q'
theorem scNumber : FnScope ["thing", "most"] ["thing", "most"] (defScope sIsNumber) := ⟨rfl, rfl, rfl, by decide +kernel, rfl, by decide +kernel, by decide +kernel⟩
theorem ok_number {f : Addr} {fd : FuncData} {k j : Nat} (F : Fun K "is_number" "is_number" sIsNumber f fd) (Uis_count : Use P w K mg base "is_count" ["thing"] j (spB K isCount)) (hj : j ≤ k) (T : Bl mg) : FnOk P w K mg base CX0 (k + 1) f fd ["thing", "most"] (spB2 K isNum) := by
  refine F.ok scNumber (fun vs H Q E h => ?_) (fun cdv A outer s H vs Q E hr h => ?_)
  · obtain ⟨v, d, m, rfl, _⟩ := h
    rfl
  obtain ⟨v, d, m, rfl, hv, ht, q⟩ := h
  refine ⟨_, (pss_one (ps_ret (pe_and (pe_call Uis_count.ok (hr.mono (by omega)) rfl Uis_count.m Uis_count.kp Uis_count.b .nil pass0 (pa_cons (pv 0) pa_nil)) (pe_one (pe_cmpR op_le (pv 0) (pv 1) (nomark _)))))), ?_⟩
  refine ⟨v, rfl, v, d, rfl, hv, ht, fun H' e => ⟨_, rfl, ?_⟩⟩
  have q' := q H' e
  cases d with
  | int i =>
    cases hv with
    | d hv =>
      cases hv
      refine ite2 (fun c => ?_) (fun c => ?_)
      · refine ⟨_, rfl, _, rfl, i, m, rfl, rfl, ?_⟩
        simp only [isNum] at q'
        rw [show decide (0 ≤ i) = true from c, Bool.true_and] at q'
        exact q'
      · have c' : decide (0 ≤ i) = false := Bool.eq_false_iff.mpr c
        simp only [isNum] at q'
        rw [c', Bool.false_and] at q'
        exact q'
  | bool b => exact q'
  | none => exact q'
  | str s => exact q'
  | list s => exact q'
  | tuple s => exact q'
  | dict s => exact q'
theorem lex1 (a b : Nat) : ([a] : List Nat) < [b] ↔ a < b := by
  constructor
  · intro h
    cases h with
    | rel h => exact h
    | cons h => cases h
  · intro h
    exact List.Lex.rel h
theorem le_a (c : Nat) : (!decide ((⟨#[c]⟩ : Str).cps.toList < ("a" : Str).cps.toList)) = decide (97 ≤ c) := by
  show (!decide ([c] < [97])) = _
  rw [decide_eq_decide.mpr (lex1 c 97)]
  by_cases h : c < 97
  · rw [decide_eq_true h, decide_eq_false (by omega)]; rfl
  · rw [decide_eq_false h, decide_eq_true (by omega)]; rfl
theorem le_z (c : Nat) : (!decide (("z" : Str).cps.toList < (⟨#[c]⟩ : Str).cps.toList)) = decide (c ≤ 122) := by
  show (!decide ([122] < [c])) = _
  rw [decide_eq_decide.mpr (lex1 122 c)]
  by_cases h : 122 < c
  · rw [decide_eq_true h, decide_eq_false (by omega)]; rfl
  · rw [decide_eq_false h, decide_eq_true (by omega)]; rfl
theorem scTag : FnScope ["thing", "sign"] ["thing"] (defScope sIsTag) := ⟨rfl, rfl, rfl, by decide +kernel, rfl, by decide +kernel, by decide +kernel⟩
theorem ok_tag {f : Addr} {fd : FuncData} {k : Nat} (F : Fun K "is_tag" "is_tag" sIsTag f fd) (T : Bl mg) (C : Cs mg) : FnOk P w K mg base CX0 (k + 1) f fd ["thing"] (spB K isTag) := by
  refine F.ok scTag (fun vs H Q E h => ?_) (fun cdv A outer s H vs Q E hr h => ?_)
  · obtain ⟨v, d, rfl, _⟩ := h
    rfl
  obtain ⟨v, d, rfl, hv, ht, q⟩ := h
  refine ⟨_, (pss_cons (ps_if (PW.pt (pw_or (pt_not (pt_val (pe_callB (r := rIsi K) call_isi (by rfl) T.isi PyProof.Rows.boot_isinstance (pa_cons (pv 0) (pa_cons (b_str T) pa_nil))))) (pw_or1 (pt_not (pt_chain op_le op_le pe_int (pe_callB call_len_str (by rfl) T.len PySem.boot_len (pa_cons (pv 0) pa_nil)) (c_SIGNS C)))))) (pss_one (ps_ret pe_bl)) pss_nil)
    (pss_one (ps_ret (pe_callB (cr_all rfl) (by rfl) T.all PyProof.Rows.boot_all (pa_cons (pe_lc (own := [("sign", 1)]) (g := gName 1) (tt := tYes) (by rfl) scTag.nd (pi_str (pv 0)) (blkOk_by (N := ["thing", "sign"]) (sc := defScope sIsTag) (own := [("sign", 1)]) (by decide +kernel)) (fun _ _ _ _ _ => pg_name (i := 1) scTag.nd rfl (Or.inl rfl)) (fun _ _ _ _ _ => pts_nil) (fun _ _ _ _ _ => (pe_chain op_le_str op_le_str pe_str (pv 1) pe_str))) pa_nil))))), ?_⟩
  refine ⟨v, rfl, v, .ty "str", _, _, _, rfl, .ty "str", ty_data hv, kit_ty (kit_str d), _, rfl, ?_⟩
  cases d with
  | str z =>
    cases hv with
    | d hv =>
      cases hv
      have hz : z.length ≤ 1000 := (txt_str ht).1
      refine ⟨_, rfl, z, rfl, sz1000 hz, 1, _, rfl, rfl, _, rfl, ?_⟩
      have hl : z.length = z.cps.toList.length := rfl
      have key : ∀ H', Same H H' → (1 ≤ z.length → z.length ≤ 8 → Q (.bl (z.cps.toList.all small)) H') ∧ (¬ (1 ≤ z.length ∧ z.length ≤ 8) → Q (.bl false) H') := fun H' e => by
        have q' := q H' e
        rw [isTag] at q'
        refine ⟨fun h1 h2 => ?_, fun h1 => ?_⟩
        · rw [decide_eq_true h1, decide_eq_true h2] at q'
          exact q'
        · by_cases c : 1 ≤ z.length
          · rw [decide_eq_false (p := z.length ≤ 8) (fun c2 => h1 ⟨c, c2⟩), Bool.and_false, Bool.false_and] at q'
            exact q'
          · rw [decide_eq_false c, Bool.false_and, Bool.false_and] at q'
            exact q'
      have tail : ∀ H', Same H H' → 1 ≤ z.length → z.length ≤ 8 → tRet (tCB (rAll K) (tCons (tLc (iStr (tVar 0)) (gName 1) tYes (tChain (fun x y H Q => ∃ i j, x = V.str i ∧ y = V.str j ∧ Q (V.bl (!decide (j.cps.toList < i.cps.toList))) H) (fun x y H Q => ∃ i j, x = V.str i ∧ y = V.str j ∧ Q (V.bl (!decide (j.cps.toList < i.cps.toList))) H) (tC (.str "a")) (tVar 1) (tC (.str "z"))) [1]) tNil)) { nx := fun _ H' => Q .non H', rt := Q } [some (.str z), none] H' := fun H' e h1 h2 => by
        refine ⟨_, rfl, z, rfl, fun D hD => ?_⟩
        refine lc_pure (n := z.cps.toList.length) (G := fun _ => True) fn_str (fun _ => true) (fun i => .bl (small (z.cps.toList.getD i 0))) (fun _ _ => True.intro) (by omega) (fun x => rfl) hD (fun i H3 _ _ Qt k => k H3 (Same.refl _)) (fun i H3 hi _ e3 Qe k => ?_) (fun H2 e2 h2' => ?_)
        · generalize z.cps.toList.getD i 0 = c at k ⊢
          refine ⟨.str ⟨#[c]⟩, rfl, _, _, rfl, rfl, _, rfl, ?_⟩
          have k' := k H3 (Same.refl _)
          rw [small] at k'
          rw [le_a]
          refine ite2 (fun c1 => ?_) (fun c1 => ?_)
          · refine ⟨_, _, rfl, rfl, ?_⟩
            rw [le_z]
            rw [c1, Bool.true_and] at k'
            exact k'
          · rw [Bool.eq_false_iff.mpr c1, Bool.false_and] at k'
            exact k'
        · rw [picked_all z.cps.toList 0 (fun c => V.bl (small c))] at h2'
          refine ⟨D, z.cps.toList.map small, rfl, .inl (.inl (by rw [List.map_map]; exact h2')), ?_⟩
          have q' := (key H2 (e.trans e2)).1 h1 h2
          rw [List.all_map]
          exact q'
      refine iteD (fun c1 => ?_) (fun c1 => ?_)
      · refine ⟨_, _, rfl, rfl, _, rfl, ?_⟩
        refine iteN (fun c2 => ?_) (fun c2 => ?_)
        · exact (key H (Same.refl H)).2 fun h => c2 (by omega)
        · exact tail H (Same.refl H) (by omega) (by omega)
      · refine ⟨_, rfl, ?_⟩
        exact (key H (Same.refl H)).2 fun h => c1 (by omega)
  | bool b => exact q H (Same.refl H)
  | int b => exact q H (Same.refl H)
  | none => exact q H (Same.refl H)
  | list s => exact q H (Same.refl H)
  | tuple s => exact q H (Same.refl H)
  | dict s => exact q H (Same.refl H)
theorem scPath : FnScope ["thing", "step"] ["thing"] (defScope sIsPath) := ⟨rfl, rfl, rfl, by decide +kernel, rfl, by decide +kernel, by decide +kernel⟩
theorem ok_path {f : Addr} {fd : FuncData} {k j : Nat} (F : Fun K "is_path" "is_path" sIsPath f fd) (Uis_number : Use P w K mg base "is_number" ["thing", "most"] j (spB2 K isNum)) (hj : j ≤ k) (T : Bl mg) (C : Cs mg) : FnOk P w K mg base CX0 (k + 1) f fd ["thing"] (spB K isPath) := by
  refine F.ok scPath (fun vs H Q E h => ?_) (fun cdv A outer s H vs Q E hr h => ?_)
  · obtain ⟨v, d, rfl, _⟩ := h
    rfl
  obtain ⟨v, d, rfl, hv, ht, q⟩ := h
  refine ⟨_, (pss_cons (ps_if (PW.pt (pw_or (pt_not (pt_val (pe_callB (r := rIsi K) call_isi (by rfl) T.isi PyProof.Rows.boot_isinstance (pa_cons (pv 0) (pa_cons (b_tuple T) pa_nil))))) (pw_or1 (pt_cmpR op_ge (pe_callB call_len_seq (by rfl) T.len PySem.boot_len (pa_cons (pv 0) pa_nil)) (c_DEPTH C) (nomark _))))) (pss_one (ps_ret pe_bl)) pss_nil)
    (pss_one (ps_ret (pe_callB (cr_all rfl) (by rfl) T.all PyProof.Rows.boot_all (pa_cons (pe_lc (own := [("step", 1)]) (g := gName 1) (tt := tYes) (by rfl) scPath.nd (pi_tup (pv 0)) (blkOk_by (N := ["thing", "step"]) (sc := defScope sIsPath) (own := [("step", 1)]) (by decide +kernel)) (fun _ _ _ _ _ => pg_name (i := 1) scPath.nd rfl (Or.inl rfl)) (fun _ _ _ _ _ => pts_nil) (fun _ _ _ _ _ => (pe_call Uis_number.ok (hr.mono (by omega)) rfl Uis_number.m Uis_number.kp Uis_number.b .nil pass0 (pa_cons (pv 1) (pa_cons (pe_op op_sub (c_SIZE C) pe_int) pa_nil))))) pa_nil))))), ?_⟩
  refine ⟨v, rfl, v, .ty "tuple", _, _, _, rfl, .ty "tuple", ty_data hv, kit_ty (kit_tup d), _, rfl, ?_⟩
  cases d with
  | tuple ds =>
    cases hv with
    | d hv =>
      cases hv with
      | @tup a xs _ hs hx =>
      have hl : xs.length = ds.length := DpAll.len hx
      rw [txt] at ht
      refine ⟨_, rfl, a, xs, rfl, .inr hs, _, _, rfl, rfl, _, rfl, ?_⟩
      refine iteD (fun c => ?_) (fun c => ?_)
      · have q' := q H (Same.refl H)
        rw [isPath, decide_eq_false (by omega), Bool.false_and] at q'
        exact q'
      · refine ⟨_, rfl, a, rfl, ⟨_, hs⟩, fun D hD => ?_⟩
        refine lc_pure (n := xs.length) (G := fun H => SqT K H a xs) fn_tup (fun _ => true) (fun i => .bl (isNum 59 (ds.getD i .none))) (fun _ e => same_t e hs) (by omega) (fun x => rfl) hD (fun i H3 _ _ Qt k => k H3 (Same.refl _)) (fun i H3 hi _ e3 Qe k => ?_) (fun H2 e2 h2' => ?_)
        · obtain ⟨d', h1, h2⟩ := DpAll.get hx (List.getElem?_eq_getElem hi)
          have e1 : xs.getD i .non = xs[i] := by rw [List.getD_eq_getElem?_getD, List.getElem?_eq_getElem hi]; rfl
          have e2 : ds.getD i .none = d' := by rw [List.getD_eq_getElem?_getD, h1]; rfl
          rw [e1]
          rw [e2] at k
          exact ⟨_, rfl, _, _, rfl, rfl, _, d', 59, rfl, .d (dp_mono e3 _ _ h2), txtAll_get ht h1, fun H' e' => k H' e'⟩
        · rw [hl, picked_all ds .none (fun d => V.bl (isNum 59 d))] at h2'
          refine ⟨D, ds.map (isNum 59), rfl, .inl (.inl (by rw [List.map_map]; exact h2')), ?_⟩
          have q' := q H2 e2
          rw [isPath, decide_eq_true (by omega), Bool.true_and] at q'
          rw [List.all_map]
          exact q'
  | str z => exact q H (Same.refl H)
  | bool b => exact q H (Same.refl H)
  | int b => exact q H (Same.refl H)
  | none => exact q H (Same.refl H)
  | list s => exact q H (Same.refl H)
  | dict s => exact q H (Same.refl H)
theorem scTagKids : FnScope ["thing"] ["thing"] (defScope sTagKids) := ⟨rfl, rfl, rfl, by decide +kernel, rfl, by decide +kernel, by decide +kernel⟩
theorem ok_tagKids {f : Addr} {fd : FuncData} {k j : Nat} (F : Fun K "is_tag_and_kids" "is_tag_and_kids" sTagKids f fd) (Uis_tag : Use P w K mg base "is_tag" ["thing"] j (spB K isTag)) (hj : j ≤ k) (T : Bl mg) : FnOk P w K mg base CX0 (k + 1) f fd ["thing"] (spB K tagKids) := by
  refine F.ok scTagKids (fun vs H Q E h => ?_) (fun cdv A outer s H vs Q E hr h => ?_)
  · obtain ⟨v, d, rfl, _⟩ := h
    rfl
  obtain ⟨v, d, rfl, hv, ht, q⟩ := h
  refine ⟨_, (pss_one (ps_ret (pe_and (pe_callB (r := rIsi K) call_isi (by rfl) T.isi PyProof.Rows.boot_isinstance (pa_cons (pv 0) (pa_cons (b_tuple T) pa_nil))) (pe_and (pe_cmpR op_eq (pe_callB call_len_seq (by rfl) T.len PySem.boot_len (pa_cons (pv 0) pa_nil)) pe_int (nomark _)) (pe_and (pe_call Uis_tag.ok (hr.mono (by omega)) rfl Uis_tag.m Uis_tag.kp Uis_tag.b .nil pass0 (pa_cons (pe_ix ix_tup (pv 0) pe_int (fun _ _ => rfl)) pa_nil)) (pe_one (pe_callB (r := rIsi K) call_isi (by rfl) T.isi PyProof.Rows.boot_isinstance (pa_cons (pe_ix ix_tup (pv 0) pe_int (fun _ _ => rfl)) (pa_cons (b_tuple T) pa_nil))))))))), ?_⟩
  refine ⟨v, rfl, v, .ty "tuple", _, _, _, rfl, .ty "tuple", ty_data hv, kit_ty (kit_tup d), _, rfl, ?_⟩
  cases d with
  | tuple ds =>
    cases hv with
    | d hv =>
      cases hv with
      | @tup a xs _ hs hx =>
      have hl : xs.length = ds.length := DpAll.len hx
      rw [txt] at ht
      refine ⟨_, rfl, a, xs, rfl, .inr hs, rfl, _, rfl, ?_⟩
      refine iteD (fun c => ?_) (fun c => ?_)
      · have c' : xs.length = 2 := by have := V.int.inj c; omega
        obtain ⟨x0, y0, a0, b0, rfl, rfl, h1, h2⟩ := DpAll.two hx c'
        refine ⟨_, rfl, a, _, 0, _, rfl, rfl, hs, atI_nat (j := 0) rfl, _, a0, rfl, .d h1, txtAll_get (i := 0) ht rfl, fun H' e => ⟨_, rfl, ?_⟩⟩
        have q' := q H' e
        rw [tagKids] at q'
        refine iteB (fun c1 => ?_) (fun c1 => ?_)
        · refine ⟨_, rfl, a, _, 1, _, rfl, rfl, same_t e hs, atI_nat (j := 1) rfl, y0, .ty "tuple", _, _, _, rfl, .ty "tuple", ty_data (.d (dp_mono e _ _ h2)), kit_ty (kit_tup b0), ?_⟩
          rw [c1, Bool.true_and] at q'
          exact q'
        · rw [c1, Bool.false_and] at q'
          exact q'
      · have q' := q H (Same.refl H)
        have e : tagKids (.tuple ds) = false := by
          unfold tagKids
          split
          · rename_i h
            cases h
            rw [hl] at c
            exact absurd rfl c
          · rfl
        rw [e] at q'
        exact q'
  | str z => exact q H (Same.refl H)
  | bool b => exact q H (Same.refl H)
  | int b => exact q H (Same.refl H)
  | none => exact q H (Same.refl H)
  | list s => exact q H (Same.refl H)
  | dict s => exact q H (Same.refl H)
end
end Tl

set_option Elab.async false
set_option linter.all false
set_option maxRecDepth 100000
set_option maxHeartbeats 4000000
namespace Tl
open PySem L2
def kidsD : PyData → List PyData
  | .tuple [_, .tuple ks] => ks
  | _ => []
/-- the room behind a tree, its kids one behind another -/
def roomB : Nat → PyData → Nat → Option Nat
  | 0, _, _ => none
  | _ + 1, _, 0 => none
  | l + 1, d, r + 1 => if tagKids d = true then (kidsD d).foldl (fun o kd => o.bind (roomB l kd)) (some r) else none
def optV : Option Nat → V
  | none => .non
  | some n => .int n
def isTreeD (d : PyData) : Bool := (roomB 12 d 60).isSome
theorem fold_none {α : Type} (f : α → Nat → Option Nat) : ∀ ks : List α, ks.foldl (fun o kd => o.bind (f kd)) none = none
  | [] => rfl
  | _ :: r => by rw [List.foldl_cons]; exact fold_none f r
theorem fold_take {α : Type} (f : α → Nat → Option Nat) {ks : List α} {i : Nat} {kd : α} (h : ks[i]? = some kd) (o : Option Nat) :
    (ks.take (i + 1)).foldl (fun o kd => o.bind (f kd)) o = ((ks.take i).foldl (fun o kd => o.bind (f kd)) o).bind (f kd) := by
  rw [List.take_add_one, h, List.foldl_append]
  rfl
theorem fold_stop {α : Type} (f : α → Nat → Option Nat) {ks : List α} {i : Nat} {o : Option Nat} (h : (ks.take i).foldl (fun o kd => o.bind (f kd)) o = none) : ks.foldl (fun o kd => o.bind (f kd)) o = none := by
  rw [← List.take_append_drop i ks, List.foldl_append, h]
  exact fold_none f _
def spRoom (K : PySem.W.Frag) (n : Nat) : Sp := fun vs H Q _ => ∃ (v : V) (d : PyData) (l r : Nat), vs = [v, .int (l : Nat), .int (r : Nat)] ∧ Dt K H v d ∧ txt d = true ∧ l < n ∧ ∀ H', Same H H' → Q (optV (roomB l d r)) H'
section
variable {P : Program} {w : World} {K : PySem.W.Frag} {mg : Str → Option Value} {base : Heap}
theorem scRoom : FnScope ["thing", "levels", "room", "left", "kid"] ["thing", "levels", "room"] (defScope sRoom) := ⟨rfl, rfl, rfl, by decide +kernel, rfl, by decide +kernel, by decide +kernel⟩
theorem ok_room1 {f : Addr} {fd : FuncData} {n j : Nat} (F : Fun K "room_behind" "room_behind" sRoom f fd) (Uroom_behind : Use P w K mg base "room_behind" ["thing", "levels", "room"] (2 + n) (spRoom K n)) (Uis_tag_and_kids : Use P w K mg base "is_tag_and_kids" ["thing"] j (spB K tagKids)) (hj : j ≤ 2) (T : Bl mg) :
    FnOk P w K mg base CX0 (2 + n + 1) f fd ["thing", "levels", "room"] (spRoom K (n + 1)) := by
  refine F.ok scRoom (fun vs H Q E h => ?_) (fun cdv A outer s H vs Q E hr h => ?_)
  · obtain ⟨v, d, l, r, rfl, _⟩ := h
    rfl
  obtain ⟨v, d, l, r, rfl, hv, ht, hl, q⟩ := h
  refine ⟨_, (pss_cons (ps_if (PW.pt (pw_or (pt_cmpR op_eq (pv 1) pe_int (nomark _)) (pw_or (pt_cmpR op_eq (pv 2) pe_int (nomark _)) (pw_or1 (pt_not (pt_val (pe_call Uis_tag_and_kids.ok (hr.mono (by omega)) rfl Uis_tag_and_kids.m Uis_tag_and_kids.kp Uis_tag_and_kids.b .nil pass0 (pa_cons (pv 0) pa_nil)))))))) (pss_one (ps_ret pe_non)) pss_nil)
    (pss_cons (ps_set (i := 3) scRoom.nd rfl (.inl rfl) (pe_op op_sub (pv 2) pe_int))
    (pss_cons (ps_for PassesOwn.never rfl (pi_tup (pe_ix ix_tup (pv 0) pe_int (fun _ _ => rfl))) (pg_name (i := 4) scRoom.nd rfl (.inl rfl)) (pss_cons (ps_set (i := 3) scRoom.nd rfl (.inl rfl) (pe_call Uroom_behind.ok (hr.mono (by omega)) rfl Uroom_behind.m Uroom_behind.kp Uroom_behind.b .nil pass0 (pa_cons (pv 4) (pa_cons (pe_op op_sub (pv 1) pe_int) (pa_cons (pv 3) pa_nil)))))
      (pss_one (ps_if (pt_cmpR op_isN (pv 3) pe_non (nomark _)) (pss_one (ps_ret pe_non)) pss_nil))))
    (pss_one (ps_ret (pv 3)))))), ?_⟩
  refine ⟨_, rfl, rfl, _, rfl, ?_⟩
  refine iteD (fun c => ?_) (fun c => ?_)
  · have e : l = 0 := by have := V.int.inj c; omega
    subst e
    exact q H (Same.refl H)
  obtain ⟨l, rfl⟩ : ∃ l', l = l' + 1 := ⟨l - 1, by
    have : ¬ l = 0 := fun e => c (by rw [e]; rfl)
    omega⟩
  refine ⟨_, rfl, rfl, _, rfl, ?_⟩
  refine iteD (fun c2 => ?_) (fun c2 => ?_)
  · have e : r = 0 := by have := V.int.inj c2; omega
    subst e
    exact q H (Same.refl H)
  obtain ⟨r, rfl⟩ : ∃ r', r = r' + 1 := ⟨r - 1, by
    have : ¬ r = 0 := fun e => c2 (by rw [e]; rfl)
    omega⟩
  refine ⟨_, rfl, v, d, rfl, hv, ht, fun H1 e1 => ⟨_, rfl, ?_⟩⟩
  cases c3 : tagKids d with
  | false =>
    have q' := q H1 e1
    rw [roomB, c3] at q'
    exact q'
  | true =>
    obtain ⟨a0, ks, rfl⟩ : ∃ a0 ks, d = .tuple [a0, .tuple ks] := by
      unfold tagKids at c3
      split at c3
      · rename_i a b
        cases b with
        | tuple ks => exact ⟨a, ks, rfl⟩
        | _ => simp [isTup] at c3
      · cases c3
    cases hv with
    | d hv =>
      cases hv with
      | @tup a xs _ hs hx =>
      obtain ⟨x0, y0, _, _, rfl, h00, h1, h2⟩ := DpAll.two hx (DpAll.len hx)
      cases h00
      cases h2 with
      | @tup b ys _ hs2 hy =>
      have hly : ys.length = ks.length := DpAll.len hy
      have ht2 : txtAll ks = true := by
        rw [txt, txtAll, txtAll, txt] at ht
        simp only [Bool.and_eq_true] at ht
        exact ht.2.1
      have Qr : ∀ H', Same H H' → Q (optV (ks.foldl (fun o kd => o.bind (roomB l kd)) (some r))) H' := fun H' e => by
        have q' := q H' e
        rw [roomB, if_pos c3] at q'
        exact q'
      refine ⟨_, rfl, _, _, rfl, rfl, ?_⟩
      refine ⟨_, rfl, a, _, 1, _, rfl, rfl, same_t e1 hs, atI_nat (j := 1) rfl, b, rfl, ⟨_, same_t e1 hs2⟩, ?_⟩
      refine for_tup (xs := ys) (fun i σ H2 => ∃ (m : Nat) (y : Option V), σ = [some (.ref a), some (.int ((l + 1 : Nat) : Int)), some (.int ((r + 1 : Nat) : Int)), some (.int (m : Int)), y] ∧ Same H H2 ∧ (ks.take i).foldl (fun o kd => o.bind (roomB l kd)) (some r) = some m)
        ⟨r, none, by show [_, _, _, some (V.int (((r + 1 : Nat) : Int) - 1)), _] = _; rw [show (((r + 1 : Nat) : Int) - 1) = (r : Int) by omega], e1, rfl⟩ (fun i σ H2 _ p => ?_) (fun i x σ H2 hx2 p => ?_) (fun σ H2 p => ?_)
      · obtain ⟨m, y, _, e2, _⟩ := p
        exact same_t e2 hs2
      · obtain ⟨m, y, rfl, e2, hm⟩ := p
        obtain ⟨kd, hk, hkd⟩ := DpAll.get hy hx2
        have hf := fold_take (fun kd => roomB l kd) hk (some r)
        rw [hm] at hf
        refine ⟨_, rfl, _, rfl, _, _, rfl, rfl, _, rfl, x, kd, l, m, ?_, .d (dp_mono e2 _ _ hkd), txtAll_get ht2 hk, by omega, fun H3 e3 => ?_⟩
        · show [x, V.int (((l + 1 : Nat) : Int) - 1), V.int (m : Int)] = _
          rw [show (((l + 1 : Nat) : Int) - 1) = (l : Int) by omega]
        · cases hr2 : roomB l kd m with
          | none =>
            refine ⟨_, rfl, rfl, _, rfl, ?_⟩
            have q' := Qr H3 (e2.trans e3)
            have hf' : (ks.take (i + 1)).foldl (fun o kd => o.bind (roomB l kd)) (some r) = none := by rw [hf]; exact hr2
            rw [fold_stop (fun kd => roomB l kd) hf'] at q'
            exact q'
          | some m' =>
            refine ⟨_, rfl, rfl, _, rfl, ?_⟩
            refine ⟨m', _, rfl, e2.trans e3, ?_⟩
            rw [hf]
            exact hr2
      · obtain ⟨m, y, rfl, e2, hm⟩ := p
        refine ⟨_, rfl, ?_⟩
        have q' := Qr H2 e2
        rw [hly, List.take_length] at hm
        rw [hm] at q'
        exact q'
theorem ok_room {f : Addr} {fd : FuncData} {j : Nat} (F : Fun K "room_behind" "room_behind" sRoom f fd) (mF : mg "room_behind" = some (.ref f)) (Uis_tag_and_kids : Use P w K mg base "is_tag_and_kids" ["thing"] j (spB K tagKids)) (hj : j ≤ 2) (T : Bl mg) :
    ∀ n, FnOk P w K mg base CX0 (2 + n) f fd ["thing", "levels", "room"] (spRoom K n)
  | 0 => by
    have no : ∀ vs H Q E, ¬ spRoom K 0 vs H Q E := fun vs H Q E h => by
      obtain ⟨_, _, _, _, _, _, _, h, _⟩ := h
      omega
    exact ⟨fun vs H Q E h => absurd h (no vs H Q E), fun A outer s H args us vs Q E _ _ _ _ h => absurd h (no vs H Q E)⟩
  | n + 1 => ok_room1 F ⟨f, fd, ok_room F mF Uis_tag_and_kids hj T n, mF, F.kp, F.binds (ps := ["thing", "levels", "room"]) fun _ _ _ _ _ _ us hl => match us, hl with | [_, _, _], _ => rfl⟩ Uis_tag_and_kids hj T
theorem scTree : FnScope ["thing"] ["thing"] (defScope sIsTree) := ⟨rfl, rfl, rfl, by decide +kernel, rfl, by decide +kernel, by decide +kernel⟩
theorem ok_tree {f : Addr} {fd : FuncData} {k j : Nat} (F : Fun K "is_tree" "is_tree" sIsTree f fd) (Uroom_behind : Use P w K mg base "room_behind" ["thing", "levels", "room"] j (spRoom K 13)) (hj : j ≤ k) (C : Cs mg) : FnOk P w K mg base CX0 (k + 1) f fd ["thing"] (spB K isTreeD) := by
  refine F.ok scTree (fun vs H Q E h => ?_) (fun cdv A outer s H vs Q E hr h => ?_)
  · obtain ⟨v, d, rfl, _⟩ := h
    rfl
  obtain ⟨v, d, rfl, hv, ht, q⟩ := h
  refine ⟨_, (pss_one (ps_ret (pe_cmpR op_notN (pe_call Uroom_behind.ok (hr.mono (by omega)) rfl Uroom_behind.m Uroom_behind.kp Uroom_behind.b .nil pass0 (pa_cons (pv 0) (pa_cons (c_DEPTH C) (pa_cons (c_SIZE C) pa_nil)))) pe_non (nomark _)))), ?_⟩
  refine ⟨_, rfl, v, d, 12, 60, rfl, hv, ht, by omega, fun H' e => ⟨rfl, ?_⟩⟩
  have q' := q H' e
  unfold isTreeD at q'
  cases hr : roomB 12 d 60 with
  | none =>
    rw [hr] at q'
    exact q'
  | some m =>
    rw [hr] at q'
    exact q'
end
end Tl

set_option Elab.async false
set_option linter.all false
set_option maxRecDepth 100000
set_option maxHeartbeats 8000000
namespace Tl
open PySem L2
abbrev sState : Stmt := top 33
abbrev sNext : Stmt := top 34
/-- the law's own source of numbers stands at st -/
def StA (H : Hp) (st c : Addr) : Prop := ∃ (cs : List Int) (i p z : Int), H st = some (.lst [.ref c, .int i, .int p, .int z]) ∧ H c = some (.lst (cs.map V.int)) ∧ c ≠ st ∧ 0 < cs.length ∧ cs.length ≤ 63 ∧ 0 ≤ i ∧ 0 ≤ p ∧ 0 ≤ z ∧ z < 2147483647
theorem StA.mono {H H' : Hp} {st c : Addr} (e : Same H H') (h : StA H st c) : StA H' st c := by
  obtain ⟨cs, i, p, z, h1, h2, r⟩ := h
  exact ⟨cs, i, p, z, e _ _ h1, e _ _ h2, r⟩
def spNext : Sp := fun vs H Q _ => ∃ (st c : Addr) (m : Int), vs = [.ref st, .int m] ∧ StA H st c ∧ 1 ≤ m ∧ m ≤ 100000 ∧ ∀ (r : Int) (o : HO), 0 ≤ r → r < m → StA (upd H st o) st c → Q (.int r) (upd H st o)
def spState (K : PySem.W.Frag) : Sp := fun vs H Q _ => ∃ (a : Addr) (ns : List Int), vs = [.ref a] ∧ SqL K H a (ns.map V.int) ∧ ∀ (st c : Addr) (H' : Hp), Same H H' → H st = none → StA H' st c → Q (.ref st) H'
section
variable {P : Program} {w : World} {K : PySem.W.Frag} {mg : Str → Option Value} {base : Heap}
theorem fm_pos (x : Int) {m : Int} (h : 0 < m) : 0 ≤ x.fmod m ∧ x.fmod m < m := ⟨Int.fmod_nonneg_of_pos x h, Int.fmod_lt_of_pos x h⟩
theorem fd_pos {x m : Int} (hx : 0 ≤ x) (h : 0 < m) : 0 ≤ x.fdiv m := by
  rw [Int.fdiv_eq_ediv_of_nonneg _ (Int.le_of_lt h)]
  exact Int.ediv_nonneg hx (Int.le_of_lt h)
theorem cut63 (ns : List Int) : cutV (ns.map V.int) none (some 63) = (ns.take 63).map V.int := by
  unfold cutV
  rw [HT.sIx_none, show HT.sIx (ns.map V.int).length (ns.map V.int).length (some 63) = min 63 (ns.map V.int).length from HT.sIx_nat (ns.map V.int).length (ns.map V.int).length 63, List.length_map]
  rw [Nat.sub_zero, List.drop_zero, List.map_take]
  by_cases h : 63 ≤ ns.length
  · rw [Nat.min_eq_left h]
  · rw [Nat.min_eq_right (by omega), List.take_of_length_le (by simp), List.take_of_length_le (by simp; omega)]
theorem scState : FnScope ["_law_script", "_law_cells"] ["_law_script"] (defScope sState) := ⟨rfl, rfl, rfl, by decide +kernel, rfl, by decide +kernel, by decide +kernel⟩
theorem ok_state {f : Addr} {fd : FuncData} {k : Nat} (F : Fun K "_law_state" "_law_state" sState f fd) (T : Bl mg) : FnOk P w K mg base CX0 (k + 1) f fd ["_law_script"] (spState K) := by
  refine F.ok scState (fun vs H Q E h => ?_) (fun cdv A outer s H vs Q E hr h => ?_)
  · obtain ⟨a, ns, rfl, _⟩ := h
    rfl
  obtain ⟨a, ns, rfl, hS, q⟩ := h
  refine ⟨_, (pss_cons (ps_set (i := 1) scState.nd rfl (.inl rfl) (pe_callTy call_list_of (by rfl) T.list PyProof.Rows.boot_list (pa_cons (pe_slice sl_list (pv 0) po_none (po_some pe_int)) pa_nil)))
    (pss_cons (ps_if (pt_cmpR op_eq (pe_callB call_len_seq (by rfl) T.len PySem.boot_len (pa_cons (pv 1) pa_nil)) pe_int (nomark _)) (pss_one (ps_set (i := 1) scState.nd rfl (.inl rfl) (pe_lst (pa_cons pe_int pa_nil)))) pss_nil)
    (pss_one (ps_ret (pe_lst (pa_cons (pv 1) (pa_cons pe_int (pa_cons pe_int (pa_cons pe_int pa_nil))))))))), ?_⟩
  refine ⟨_, rfl, 63, rfl, a, _, rfl, hS, fun p hp => ?_⟩
  have e1 : Same H (upd H p (.lst (cutV (ns.map V.int) none (some 63)))) := same_new hp
  refine ⟨p, _, rfl, .inl (SqL.of upd_same), fun l hl => ?_⟩
  rw [cut63]
  rw [cut63] at hl e1
  generalize hcs : ns.take 63 = cs at hl e1 ⊢
  have hc63 : cs.length ≤ 63 := by rw [← hcs, List.length_take]; omega
  generalize upd H p (.lst (cs.map V.int)) = H1 at hl e1 ⊢
  have e2 : Same H (upd H1 l (.lst (cs.map V.int))) := e1.trans (same_new hl)
  refine ⟨_, rfl, l, _, rfl, .inl (SqL.of upd_same), rfl, _, rfl, ?_⟩
  refine iteD (fun c => ?_) (fun c => ?_)
  · refine ⟨by show 1 ≤ sizeLine; decide, fun p2 hp2 => ?_⟩
    refine ⟨_, rfl, by show 4 ≤ sizeLine; decide, fun p3 hp3 => ?_⟩
    have n23 : p2 ≠ p3 := ne_of_none upd_same hp3
    refine q p3 p2 _ ((e2.trans (same_new hp2)).trans (same_new hp3)) ((e2.trans (same_new hp2)).free hp3) ⟨[0], 0, 0, 91, upd_same, ?_, n23, by decide, by decide, by decide, by decide, by decide, by decide⟩
    rw [upd_ne n23]
    exact upd_same
  · refine ⟨_, rfl, by show 4 ≤ sizeLine; decide, fun p3 hp3 => ?_⟩
    have n23 : l ≠ p3 := ne_of_none upd_same hp3
    refine q p3 l _ (e2.trans (same_new hp3)) (e2.free hp3) ⟨cs, 0, 0, 91, upd_same, ?_, n23, ?_, hc63, by decide, by decide, by decide, by decide⟩
    · rw [upd_ne n23]
      exact upd_same
    · rcases Nat.eq_zero_or_pos cs.length with z | z
      · exact absurd (show V.int ((cs.map V.int).length : Nat) = V.int 0 by rw [List.length_map, z]; rfl) c
      · exact z
theorem nz29 : (2147483629 : Int) ≠ 0 := by decide
theorem nz47 : (2147483647 : Int) ≠ 0 := by decide
theorem at4 {c : Addr} {i p z : Int} : atI [V.ref c, .int i, .int p, .int z] 0 = some (.ref c) ∧ atI [V.ref c, .int i, .int p, .int z] 1 = some (.int i) ∧ atI [V.ref c, .int i, .int p, .int z] 2 = some (.int p) ∧ atI [V.ref c, .int i, .int p, .int z] 3 = some (.int z) :=
  ⟨atI_nat (j := 0) rfl, atI_nat (j := 1) rfl, atI_nat (j := 2) rfl, atI_nat (j := 3) rfl⟩
theorem scNext : FnScope ["_law_state_here", "_law_below", "_law_cells", "_law_cell", "_law_found"] ["_law_state_here", "_law_below"] (defScope sNext) := ⟨rfl, rfl, rfl, by decide +kernel, rfl, by decide +kernel, by decide +kernel⟩
theorem ok_next {f : Addr} {fd : FuncData} {k : Nat} (F : Fun K "_law_next" "_law_next" sNext f fd) (T : Bl mg) : FnOk P w K mg base CX0 (k + 1) f fd ["_law_state_here", "_law_below"] spNext := by
  refine F.ok scNext (fun vs H Q E h => ?_) (fun cdv A outer s H vs Q E hr h => ?_)
  · obtain ⟨_, _, _, rfl, _⟩ := h
    rfl
  obtain ⟨st, c, m, rfl, ⟨cs, i, p, z, h1, h2, hc, hl0, hl, hi, hp, hz0, hz1⟩, hm0, hm1, q⟩ := h
  refine ⟨_, (pss_cons (ps_if (pt_cmpR op_gt (pe_ix ix_list (pv 0) pe_int (fun _ _ => rfl)) pe_int (nomark _)) (pss_cons (ps_set (i := 4) scNext.nd rfl (.inl rfl) (pe_op op_modN (pe_ix ix_list (pv 0) pe_int (fun _ _ => rfl)) (pv 1)))
      (pss_cons (ps_asg (pe_op op_fdivN (pe_ix ix_list (pv 0) pe_int (fun _ _ => rfl)) (pv 1)) (pg_sub (pv 0) pe_int set_list))
      (pss_one (ps_ret (pv 4))))) pss_nil)
    (pss_cons (ps_set (i := 2) scNext.nd rfl (.inl rfl) (pe_ix ix_list (pv 0) pe_int (fun _ _ => rfl)))
    (pss_cons (ps_set (i := 3) scNext.nd rfl (.inl rfl) (pe_ix ix_list (pv 2) (pe_op op_modN (pe_ix ix_list (pv 0) pe_int (fun _ _ => rfl)) (pe_callB call_len_seq (by rfl) T.len PySem.boot_len (pa_cons (pv 2) pa_nil))) (fun _ _ => rfl)))
    (pss_cons (ps_asg (pe_op op_add (pe_ix ix_list (pv 0) pe_int (fun _ _ => rfl)) pe_int) (pg_sub (pv 0) pe_int set_list))
    (pss_cons (ps_if (PW.pt (pw_and (pt_cmpR op_ge (pv 3) (pe_op op_pow pe_int pe_int) (nomark _)) (pw_and1 (pt_cmpR op_le (pe_ix ix_list (pv 0) pe_int (fun _ _ => rfl)) (pe_callB call_len_seq (by rfl) T.len PySem.boot_len (pa_cons (pv 2) pa_nil)) (nomark _))))) (pss_cons (ps_asg (pe_op op_fdivN (pv 3) (pv 1)) (pg_sub (pv 0) pe_int set_list))
      (pss_one (ps_ret (pe_op op_modN (pv 3) (pv 1))))) pss_nil)
    (pss_cons (ps_asg (pe_op op_modN (pe_op op_add (pe_op op_add (pe_op op_mul (pe_ix ix_list (pv 0) pe_int (fun _ _ => rfl)) pe_int) (pe_op op_modN (pv 3) pe_int)) (pe_op op_mul pe_int (pe_ix ix_list (pv 0) pe_int (fun _ _ => rfl)))) pe_int) (pg_sub (pv 0) pe_int set_list))
    (pss_one (ps_ret (pe_op op_modN (pe_op op_fdivN (pe_op op_modN (pe_op op_mul (pe_ix ix_list (pv 0) pe_int (fun _ _ => rfl)) pe_int) pe_int) pe_int) (pv 1)))))))))), ?_⟩
  have hm30 : m ≠ 0 ∧ m.natAbs < 1073741824 := ⟨by omega, by omega⟩
  refine ⟨_, rfl, st, _, 2, _, rfl, rfl, SqL.of h1, at4.2.2.1, p, 0, rfl, rfl, _, rfl, ?_⟩
  refine iteD (fun cc => ?_) (fun cc => ?_)
  · refine ⟨_, rfl, st, _, 2, _, rfl, rfl, SqL.of h1, at4.2.2.1, _, rfl, p, m, rfl, rfl, hm30.1, ?_⟩
    refine ⟨_, rfl, st, _, 2, _, rfl, rfl, SqL.of h1, at4.2.2.1, _, rfl, p, m, rfl, rfl, hm30, ?_⟩
    refine ⟨_, rfl, st, _, 2, 2, rfl, rfl, h1, rfl, ?_⟩
    refine ⟨_, rfl, ?_⟩
    refine q _ _ (fm_pos p (by omega)).1 (fm_pos p (by omega)).2 ⟨cs, i, p.fdiv m, z, upd_same, ?_, hc, hl0, hl, hi, fd_pos hp (by omega), hz0, hz1⟩
    rw [upd_ne hc]
    exact h2
  · refine ⟨_, rfl, st, _, 0, _, rfl, rfl, SqL.of h1, at4.1, ?_⟩
    have hlen : (cs.map V.int).length = cs.length := List.length_map _
    have hf := fm_pos i (m := ((cs.map V.int).length : Nat)) (by rw [hlen]; omega)
    obtain ⟨j, ej⟩ : ∃ j : Nat, i.fmod ((cs.map V.int).length : Nat) = (j : Int) := ⟨(i.fmod ((cs.map V.int).length : Nat)).toNat, by omega⟩
    have hj : j < cs.length := by rw [hlen] at hf; rw [hlen] at ej; omega
    have hat : atI (cs.map V.int) (i.fmod ((cs.map V.int).length : Nat)) = some (.int cs[j]) := by
      rw [ej]
      exact atI_nat (by rw [List.getElem?_map, List.getElem?_eq_getElem hj]; rfl)
    generalize cs[j] = x at hat
    refine ⟨_, rfl, _, rfl, st, _, 1, _, rfl, rfl, SqL.of h1, at4.2.1, _, rfl, c, _, rfl, .inl (SqL.of h2), i, _, rfl, rfl, by rw [hlen]; omega, c, _, _, _, rfl, rfl, SqL.of h2, hat, ?_⟩
    refine ⟨_, rfl, st, _, 1, _, rfl, rfl, SqL.of h1, at4.2.1, i, 1, rfl, rfl, _, rfl, st, _, 1, 1, rfl, rfl, h1, rfl, ?_⟩
    have h1' : (upd H st (.lst [V.ref c, .int (i + 1), .int p, .int z])) st = some (.lst [V.ref c, .int (i + 1), .int p, .int z]) := upd_same
    have h2' : (upd H st (.lst [V.ref c, .int (i + 1), .int p, .int z])) c = some (.lst (cs.map V.int)) := by rw [upd_ne hc]; exact h2
    have fin2 : ∀ (r p' z' : Int), 0 ≤ r → r < m → 0 ≤ p' → 0 ≤ z' → z' < 2147483647 → Q (.int r) (upd (upd H st (.lst [V.ref c, .int (i + 1), .int p, .int z])) st (.lst [V.ref c, .int (i + 1), .int p', .int z'])) := fun r p' z' g1 g2 g3 g4 g5 => by
      rw [upd_upd]
      exact q _ _ g1 g2 ⟨cs, i + 1, p', z', upd_same, by rw [upd_ne hc]; exact h2, hc, hl0, hl, by omega, g3, g4, g5⟩
    refine ⟨_, rfl, 10, 18, rfl, rfl, ⟨by decide, by decide, by decide⟩, x, _, rfl, rfl, _, rfl, ?_⟩
    refine iteD (fun c1 => ?_) (fun c1 => ?_)
    · refine ⟨_, rfl, st, _, 1, _, rfl, rfl, SqL.of h1', at4.2.1, _, rfl, c, _, rfl, .inl (SqL.of h2'), _, _, rfl, rfl, _, rfl, ?_⟩
      refine iteD (fun c2 => ?_) (fun c2 => ?_)
      · refine ⟨_, rfl, _, rfl, x, m, rfl, rfl, hm30, _, rfl, st, _, 2, 2, rfl, rfl, h1', rfl, ?_⟩
        refine ⟨_, rfl, _, rfl, x, m, rfl, rfl, hm30.1, ?_⟩
        exact fin2 _ _ _ (fm_pos x (by omega)).1 (fm_pos x (by omega)).2 (fd_pos (Int.le_trans (by decide) c1) (by omega)) hz0 hz1
      · skip
        refine ⟨_, rfl, st, _, 3, _, rfl, rfl, SqL.of h1', at4.2.2.2, z, 48271, rfl, rfl, .inl ⟨by omega, by omega⟩, _, rfl, x, 2147483629, rfl, rfl, nz29, _, _, rfl, rfl, _, rfl, st, _, 1, _, rfl, rfl, SqL.of h1', at4.2.1, 7, _, rfl, rfl, .inl ⟨by decide, by decide⟩, _, _, rfl, rfl, _, 2147483647, rfl, rfl, nz47, _, rfl, st, _, 3, 3, rfl, rfl, h1', rfl, ?_⟩
        have hb := fm_pos (z * 48271 + x.fmod 2147483629 + 7 * (i + 1)) (m := 2147483647) (by decide)
        refine ⟨_, rfl, st, _, 3, _, rfl, rfl, SqL.of upd_same, at4.2.2.2, _, 69621, rfl, rfl, .inl ⟨by omega, by omega⟩, _, 2147483629, rfl, rfl, nz29, _, 64, rfl, rfl, ⟨by decide, by decide⟩, _, rfl, _, m, rfl, rfl, hm30.1, ?_⟩
        exact fin2 _ _ _ (fm_pos _ (by omega)).1 (fm_pos _ (by omega)).2 hp hb.1 hb.2
    · skip
      refine ⟨_, rfl, st, _, 3, _, rfl, rfl, SqL.of h1', at4.2.2.2, z, 48271, rfl, rfl, .inl ⟨by omega, by omega⟩, _, rfl, x, 2147483629, rfl, rfl, nz29, _, _, rfl, rfl, _, rfl, st, _, 1, _, rfl, rfl, SqL.of h1', at4.2.1, 7, _, rfl, rfl, .inl ⟨by decide, by decide⟩, _, _, rfl, rfl, _, 2147483647, rfl, rfl, nz47, _, rfl, st, _, 3, 3, rfl, rfl, h1', rfl, ?_⟩
      have hb := fm_pos (z * 48271 + x.fmod 2147483629 + 7 * (i + 1)) (m := 2147483647) (by decide)
      refine ⟨_, rfl, st, _, 3, _, rfl, rfl, SqL.of upd_same, at4.2.2.2, _, 69621, rfl, rfl, .inl ⟨by omega, by omega⟩, _, 2147483629, rfl, rfl, nz29, _, 64, rfl, rfl, ⟨by decide, by decide⟩, _, rfl, _, m, rfl, rfl, hm30.1, ?_⟩
      exact fin2 _ _ _ (fm_pos _ (by omega)).1 (fm_pos _ (by omega)).2 hp hb.1 hb.2
def isWhole : PyData → Bool
  | .int _ => true
  | _ => false
theorem small_in (c : Nat) : decide (c ∈ ("abcdefghijklmnopqrstuvwxyz" : Str).cps.toList) = small c := by
  have e : ("abcdefghijklmnopqrstuvwxyz" : Str).cps.toList = (List.range 26).map (· + 97) := by decide +kernel
  rw [e, small, ← Bool.decide_and]
  apply decide_eq_decide.mpr
  simp only [List.mem_map, List.mem_range]
  constructor
  · rintro ⟨a, h, rfl⟩
    omega
  · intro h
    exact ⟨c - 97, by omega, by omega⟩
theorem eqv_nil (ds : List PyData) : PyData.eqv (.list ds) (.list []) = ds.isEmpty := by
  cases ds with
  | nil => simp [PyData.eqv, PyData.eqvAll]
  | cons a r => simp [PyData.eqv, PyData.eqvAll]
end
end Tl

set_option Elab.async false
set_option linter.all false
set_option maxRecDepth 100000
set_option maxHeartbeats 8000000
namespace Tl
open PySem L2
/-- the law's own count: 999 where it is none -/
def cntK (f : PyData → Int) : List PyData → Int → Int
  | [], n => n
  | d :: r, n => if n + f d > 60 then n + f d else cntK f r (n + f d)
def cntB : Nat → PyData → Int
  | 0, _ => 999
  | l + 1, d => if tagKids d = true then cntK (cntB l) (kidsD d) 1 else 999
theorem cntK_ge (f : PyData → Int) (hf : ∀ d, 1 ≤ f d) : ∀ ds n, n ≤ cntK f ds n
  | [], n => Int.le_refl n
  | d :: r, n => by
    have h := hf d
    rw [cntK]
    by_cases c : n + f d > 60
    · rw [if_pos c]
      omega
    · rw [if_neg c]
      have := cntK_ge f hf r (n + f d)
      omega
theorem cntB_pos : ∀ l d, 1 ≤ cntB l d
  | 0, _ => by show (1 : Int) ≤ 999; decide
  | l + 1, d => by
    rw [cntB]
    by_cases c : tagKids d = true
    · rw [if_pos c]
      exact cntK_ge _ (cntB_pos l) _ _
    · rw [if_neg c]
      decide
theorem fold_cnt (l : Nat) (ih : ∀ d (r : Nat), r ≤ 60 → (cntB l d ≤ r → roomB l d r = some ((r : Int) - cntB l d).toNat) ∧ ((r : Int) < cntB l d → roomB l d r = none)) :
    ∀ (ds : List PyData) (n R : Nat), n ≤ R → R ≤ 60 → (cntK (cntB l) ds n ≤ R → ds.foldl (fun o kd => o.bind (roomB l kd)) (some (R - n)) = some ((R : Int) - cntK (cntB l) ds n).toNat) ∧
      ((R : Int) < cntK (cntB l) ds n → ds.foldl (fun o kd => o.bind (roomB l kd)) (some (R - n)) = none)
  | [], n, R, h1, h2 => by
    rw [cntK, List.foldl_nil]
    exact ⟨fun _ => by congr 1; omega, fun h => by omega⟩
  | d :: ds, n, R, h1, h2 => by
    have hp := cntB_pos l d
    obtain ⟨i1, i2⟩ := ih d (R - n) (by omega)
    have hge := cntK_ge _ (cntB_pos l) ds (n + cntB l d)
    rw [cntK, List.foldl_cons]
    show (_ → ds.foldl (fun o kd => o.bind (roomB l kd)) (roomB l d (R - n)) = _) ∧ (_ → ds.foldl (fun o kd => o.bind (roomB l kd)) (roomB l d (R - n)) = _)
    by_cases c : (n : Int) + cntB l d > R
    · rw [i2 (by omega), fold_none]
      by_cases c2 : (n : Int) + cntB l d > 60
      · rw [if_pos c2]
        exact ⟨fun h => by omega, fun _ => rfl⟩
      · rw [if_neg c2]
        exact ⟨fun h => by omega, fun _ => rfl⟩
    · rw [if_neg (by omega), i1 (by omega)]
      obtain ⟨m, hm⟩ : ∃ m : Nat, (m : Int) = n + cntB l d := ⟨(n + cntB l d).toNat, by omega⟩
      have e : ((R - n : Nat) - cntB l d : Int).toNat = R - m := by omega
      rw [e, ← hm]
      exact fold_cnt l ih ds m R (by omega) h2
theorem room_cnt : ∀ l d (r : Nat), r ≤ 60 → (cntB l d ≤ r → roomB l d r = some ((r : Int) - cntB l d).toNat) ∧ ((r : Int) < cntB l d → roomB l d r = none)
  | 0, d, r, h => by
    rw [cntB, roomB]
    exact ⟨fun h2 => by omega, fun _ => rfl⟩
  | l + 1, d, 0, h => by
    have := cntB_pos (l + 1) d
    rw [roomB]
    exact ⟨fun h2 => by omega, fun _ => rfl⟩
  | l + 1, d, r + 1, h => by
    rw [cntB, roomB]
    by_cases c : tagKids d = true
    · rw [if_pos c, if_pos c]
      have q := fold_cnt l (room_cnt l) (kidsD d) 1 (r + 1) (by omega) h
      exact q
    · rw [if_neg c, if_neg c]
      exact ⟨fun h2 => by omega, fun _ => rfl⟩
theorem tree_cnt (d : PyData) : isTreeD d = decide (cntB 12 d ≤ 60) := by
  unfold isTreeD
  obtain ⟨h1, h2⟩ := room_cnt 12 d 60 (Nat.le_refl 60)
  by_cases c : cntB 12 d ≤ 60
  · rw [h1 c, decide_eq_true c]
    rfl
  · rw [h2 (by omega), decide_eq_false c]
    rfl
def spCnt (K : PySem.W.Frag) (n : Nat) : Sp := fun vs H Q _ => ∃ (v : V) (d : PyData) (l : Nat), vs = [v, .int (13 - (l : Nat))] ∧ Dt K H v d ∧ txt d = true ∧ l < n ∧ l ≤ 12 ∧ ∀ H', Same H H' → Q (.int (cntB l d)) H'
theorem cnt_take (f : PyData → Int) : ∀ {ks : List PyData} {i : Nat} {n m : Int}, cntK f (ks.drop i) m = cntK f ks n → ∀ {kd : PyData}, ks[i]? = some kd → (m + f kd > 60 → cntK f ks n = m + f kd) ∧ (¬ m + f kd > 60 → cntK f (ks.drop (i + 1)) (m + f kd) = cntK f ks n) := by
  intro ks i n m h kd hk
  obtain ⟨hi, rfl⟩ := List.getElem?_eq_some_iff.mp hk
  rw [List.drop_eq_getElem_cons hi, cntK] at h
  refine ⟨fun c => ?_, fun c => ?_⟩
  · rw [if_pos c] at h
    exact h.symm
  · rw [if_neg c] at h
    exact h
end Tl

set_option Elab.async false
set_option linter.all false
set_option maxRecDepth 100000
set_option maxHeartbeats 8000000
namespace Tl
open PySem L2
def pathD (q : List Nat) : PyData := .tuple (q.map fun (n : Nat) => .int (n : Int))
/-- the part at a path -/
def sub : PyData → List Nat → Option PyData
  | d, [] => some d
  | .tuple [_, .tuple ks], i :: q => match ks[i]? with
    | some k => sub k q
    | none => none
  | _, _ :: _ => none
theorem sub_cons {d : PyData} {i : Nat} {q : List Nat} {e : PyData} (h : sub d (i :: q) = some e) : ∃ s ks k, d = .tuple [s, .tuple ks] ∧ ks[i]? = some k ∧ sub k q = some e := by
  unfold sub at h
  split at h
  · rename_i h2; cases h2
  · rename_i s ks i' q' h2
    cases h2
    split at h
    · rename_i k hk
      exact ⟨s, ks, k, rfl, hk, h⟩
    · cases h
  · cases h
def spReach (K : PySem.W.Frag) : Sp := fun vs H Q _ => ∃ (F : Hp) (v : V) (d : PyData) (p : V) (q : List Nat) (e : PyData), vs = [v, p] ∧ Same F H ∧ Dp K F v d ∧ Dp K F p (pathD q) ∧ sub d q = some e ∧ ∀ r, Dp K F r e → Q r H
theorem dp_path {K : PySem.W.Frag} {F : Hp} {p : V} {q : List Nat} (h : Dp K F p (pathD q)) : ∃ a, p = .ref a ∧ SqT K F a (q.map fun (n : Nat) => V.int (n : Int)) := by
  unfold pathD at h
  cases h with
  | @tup a xs _ hs ha =>
    have e : ∀ (q : List Nat) (xs : List V), DpAll K F xs (q.map fun (n : Nat) => PyData.int (n : Int)) → xs = q.map fun (n : Nat) => V.int (n : Int) := by
      intro q
      induction q with
      | nil => intro xs h; cases h; rfl
      | cons n r ih =>
        intro xs h
        cases h with
        | cons h1 h2 =>
          cases h1
          rw [List.map_cons, ih _ h2]
    rw [e q xs ha] at hs
    exact ⟨a, rfl, hs⟩
theorem path_dp {K : PySem.W.Frag} {F : Hp} {a : Addr} {q : List Nat} (h : SqT K F a (q.map fun (n : Nat) => V.int (n : Int))) : Dp K F (.ref a) (pathD q) := by
  refine .tup h ?_
  clear h
  induction q with
  | nil => exact .nil
  | cons n r ih => exact .cons (.int _) ih
theorem path_all {K : PySem.W.Frag} {F : Hp} : ∀ q : List Nat, DpAll K F (q.map fun (n : Nat) => V.int (n : Int)) (q.map fun (n : Nat) => PyData.int (n : Int))
  | [] => .nil
  | n :: r => .cons (.int _) (path_all r)
section
variable {P : Program} {w : World} {K : PySem.W.Frag} {mg : Str → Option Value} {base : Heap}
theorem gw_tup {F H : Hp} {p : Addr} {xs : List V} {ds : List PyData} (e : Same F H) (h : H p = none) (ha : DpAll K F xs ds) : Gw F H (upd F p (.tup xs)) (upd H p (.tup xs)) ∧ Dp K (upd F p (.tup xs)) (.ref p) (.tuple ds) :=
  ⟨Gw.new e h, .tup (.inl (.inl upd_same)) (dpAll_mono (same_new (e.free h)) _ _ ha)⟩
/-- t + u of data -/
theorem cat_data {F H : Hp} {a b : Addr} {xs ys : List V} {ds es : List PyData} {Q : VK} (e : Same F H) (ha : SqT K F a xs) (hb : SqT K F b ys) (hx : DpAll K F xs ds) (hy : DpAll K F ys es) (hz : xs.length + ys.length ≤ sizeLine)
    (k : ∀ r F' H', Gw F H F' H' → Dp K F' r (.tuple (ds ++ es)) → Q r H') : rCatA K (.ref a) (.ref b) H Q := by
  refine ⟨a, b, xs, ys, rfl, rfl, same_t e ha, same_t e hb, hz, fun h => ?_, fun h1 h2 => ?_, fun h1 h2 p hp => ?_⟩
  · subst h
    cases hx
    exact k _ F H (Gw.refl e) (.tup hb hy)
  · subst h2
    cases hy
    rw [List.append_nil] at k
    exact k _ F H (Gw.refl e) (.tup ha hx)
  · obtain ⟨g, dd⟩ := gw_tup e hp (DpAll.app hx hy)
    exact k _ _ _ g dd
/-- t * n of data -/
theorem rep_data {F H : Hp} {a : Addr} {xs : List V} {ds : List PyData} {n : Int} {Q : VK} (e : Same F H) (ha : SqT K F a xs) (hx : DpAll K F xs ds) (h0 : 0 ≤ n) (h1 : n ≤ 1000) (hz : xs.length ≤ 1000)
    (k : ∀ r F' H', Gw F H F' H' → Dp K F' r (.tuple (List.replicate n.toNat ds).flatten) → Q r H') : rRepA K (.ref a) (.int n) H Q := by
  refine ⟨a, n, xs, rfl, rfl, same_t e ha, h0, h1, hz, fun h => ?_, fun h p hp => ?_⟩
  · have e2 : (List.replicate n.toNat ds).flatten = ds := by
      rcases h with h | h
      · subst h
        cases hx
        exact List.flatten_replicate_nil
      · subst h
        simp
    rw [e2] at k
    exact k _ F H (Gw.refl e) (.tup ha hx)
  · obtain ⟨g, dd⟩ := gw_tup e hp (DpAll.rep hx n.toNat)
    exact k _ _ _ g dd
theorem cut_to (xs : List V) (i : Nat) : cutV xs none (some (i : Int)) = xs.take i := by
  unfold cutV
  rw [HT.sIx_none, HT.sIx_nat, Nat.sub_zero, List.drop_zero]
  by_cases h : i ≤ xs.length
  · rw [Nat.min_eq_left h]
  · rw [Nat.min_eq_right (by omega), List.take_of_length_le (Nat.le_refl _), List.take_of_length_le (by omega)]
theorem cut_from (xs : List V) (i : Nat) (h : i ≤ xs.length) : cutV xs (some (i : Int)) none = xs.drop i := by
  unfold cutV
  rw [HT.sIx_none, HT.sIx_nat, Nat.min_eq_left h]
  exact List.take_of_length_le (by rw [List.length_drop]; exact Nat.le_refl _)
theorem eqv_nilT (q : List Nat) : PyData.eqv (pathD q) (.tuple []) = q.isEmpty := by
  unfold pathD
  cases q with
  | nil => simp [PyData.eqv, PyData.eqvAll]
  | cons a r => simp [PyData.eqv, PyData.eqvAll]
theorem path_shaped (q : List Nat) : SeqAt.shaped (pathD q) = true := by
  have h := flat_all (q.map fun (n : Nat) => PyData.int (n : Int)) (by
    rw [List.all_eq_true]
    intro d hd
    obtain ⟨n, _, rfl⟩ := List.mem_map.mp hd
    rfl)
  unfold SeqAt.shaped pathD
  rw [PyData.canLay0, PyData.depth, h.1, h.2]
  rfl
theorem gw_lst {F H : Hp} {p : Addr} {xs : List V} {ds : List PyData} (e : Same F H) (h : H p = none) (ha : DpAll K F xs ds) : Gw F H (upd F p (.lst xs)) (upd H p (.lst xs)) ∧ Dp K (upd F p (.lst xs)) (.ref p) (.list ds) :=
  ⟨Gw.new e h, .lst (.inl (.inl upd_same)) (dpAll_mono (same_new (e.free h)) _ _ ha)⟩
theorem cut_fromA (xs : List V) (i : Nat) : cutV xs (some (i : Int)) none = xs.drop i := by
  by_cases h : i ≤ xs.length
  · exact cut_from xs i h
  · unfold cutV
    rw [HT.sIx_none, HT.sIx_nat, Nat.min_eq_right (by omega), List.drop_length, List.drop_eq_nil_of_le (by omega), List.take_nil]
theorem sl_to {F H : Hp} {a : Addr} {xs : List V} {ds : List PyData} {i : Nat} {Q : VK} (e : Same F H) (ha : SqT K F a xs) (hx : DpAll K F xs ds)
    (k : ∀ r F' H', Gw F H F' H' → Dp K F' r (.tuple (ds.take i)) → Q r H') : rSlA K (.ref a) none (some (i : Int)) H Q := by
  refine ⟨a, xs, rfl, same_t e ha, fun hh => ?_, fun _ p hp => ?_⟩
  · have h2 := hh.2
    rw [HT.sIx_nat] at h2
    have e2 : ds.take i = ds := List.take_of_length_le (by rw [← DpAll.len hx]; omega)
    rw [e2] at k
    exact k _ F H (Gw.refl e) (.tup ha hx)
  · rw [cut_to]
    obtain ⟨g, d⟩ := gw_tup e hp (DpAll.take i hx)
    exact k _ _ _ g d
theorem sl_from {F H : Hp} {a : Addr} {xs : List V} {ds : List PyData} {i : Nat} {z : Int} {Q : VK} (hz : z = (i : Int)) (e : Same F H) (ha : SqT K F a xs) (hx : DpAll K F xs ds)
    (k : ∀ r F' H', Gw F H F' H' → Dp K F' r (.tuple (ds.drop i)) → Q r H') : rSlA K (.ref a) (some z) none H Q := by
  subst hz
  refine ⟨a, xs, rfl, same_t e ha, fun hh => ?_, fun _ p hp => ?_⟩
  · have h2 := hh.1
    rw [HT.sIx_nat] at h2
    have e2 : ds.drop i = ds := by
      by_cases hi : i = 0
      · rw [hi, List.drop_zero]
      · have h3 : ds = [] := by
          apply List.eq_nil_of_length_eq_zero
          rw [← DpAll.len hx]
          omega
        rw [h3, List.drop_nil]
    rw [e2] at k
    exact k _ F H (Gw.refl e) (.tup ha hx)
  · rw [cut_fromA]
    obtain ⟨g, d⟩ := gw_tup e hp (DpAll.drop i hx)
    exact k _ _ _ g d
end
/-- a thing that the law asks about -/
def Thing (d : PyData) : Prop := (gd d = true ∧ d.depth ≤ 90 ∧ wt d ≤ 1000000) ∨ d = .dict []
def pathOk (q : List Nat) : Prop := q.length ≤ 20 ∧ ∀ n ∈ q, n < 100000
theorem ints_ok (q : List Nat) (h : ∀ n ∈ q, n < 100000) : gdAll (q.map fun (n : Nat) => PyData.int (n : Int)) = true ∧ wtAll (q.map fun (n : Nat) => PyData.int (n : Int)) = 1932 * q.length ∧ PyData.depthAll (q.map fun (n : Nat) => PyData.int (n : Int)) = 0 := by
  induction q with
  | nil => exact ⟨rfl, rfl, rfl⟩
  | cons n r ih =>
    obtain ⟨h1, h2, h3⟩ := ih fun m hm => h m (List.mem_cons_of_mem _ hm)
    have hn := h n List.mem_cons_self
    refine ⟨?_, ?_, ?_⟩
    · rw [List.map_cons, gdAll, h1, gd, decide_eq_true (Nat.lt_of_lt_of_le (show ((n : Int)).natAbs < 100000 by omega) (by decide))]
      rfl
    · rw [List.map_cons, wtAll, h2, wt, List.length_cons]
      omega
    · rw [List.map_cons, PyData.depthAll, h3, PyData.depth]
      rfl
theorem gd_pair {a b : PyData} (ha : gd a = true) (hb : gd b = true) : gd (.tuple [a, b]) = true := by
  rw [gd, gdAll, gdAll, gdAll, ha, hb]
  rfl
theorem dep_pair (a b : PyData) : PyData.depth (.tuple [a, b]) ≤ max a.depth b.depth + 1 := by
  simp only [PyData.depth, PyData.depthAll]
  omega
theorem wt_pair (a b : PyData) : wt (.tuple [a, b]) = wt a + wt b + 7 := by
  simp only [wt, wtAll]
  omega
theorem DpAll.pick {K : PySem.W.Frag} {F : Hp} {xs : List V} {ds : List PyData} {r : Int} (h : DpAll K F xs ds) (h0 : 0 ≤ r) (h1 : r < ds.length) : ∃ x d, atI xs r = some x ∧ d ∈ ds ∧ Dp K F x d := by
  obtain ⟨j, rfl⟩ : ∃ j : Nat, r = (j : Int) := ⟨r.toNat, by omega⟩
  have hj : j < ds.length := by omega
  obtain ⟨x, hx, hd⟩ := DpAll.got h (List.getElem?_eq_getElem hj)
  exact ⟨x, _, atI_nat hx, List.getElem_mem hj, hd⟩
theorem rep_one (w : Nat) (d : PyData) : (List.replicate w [d]).flatten = List.replicate w d := by
  induction w with
  | zero => rfl
  | succ n ih => rw [List.replicate_succ, List.replicate_succ, List.flatten_cons, ih]; rfl
theorem mem_rep {n : Nat} {d k : PyData} (h : k ∈ (List.replicate n [d]).flatten) : k = d := by
  rw [rep_one] at h
  exact (List.mem_replicate.mp h).2
end Tl

set_option Elab.async false
set_option linter.all false
set_option maxRecDepth 100000
set_option maxHeartbeats 8000000
namespace Tl
open PySem L2
abbrev sReach : Stmt := top 38
section
variable {P : Program} {w : World} {K : PySem.W.Frag} {mg : Str → Option Value} {base : Heap}
theorem scReach : FnScope ["_law_tree_here", "_law_path", "_law_number"] ["_law_tree_here", "_law_path"] (defScope sReach) := ⟨rfl, rfl, rfl, by decide +kernel, rfl, by decide +kernel, by decide +kernel⟩
theorem ok_reach {f : Addr} {fd : FuncData} {k : Nat} (F : Fun K "_law_reach" "_law_reach" sReach f fd) (T : Bl mg) : FnOk P w K mg base CX0 (k + 1) f fd ["_law_tree_here", "_law_path"] (spReach K) := by
  refine F.ok scReach (fun vs H Q E h => ?_) (fun cdv A outer s H vs Q E hr h => ?_)
  · obtain ⟨F, v, d, p, q, e, rfl, _⟩ := h
    rfl
  obtain ⟨Fd, v, d, p, q, e, rfl, hF, hv, hp, he, k⟩ := h
  refine ⟨_, (pss_cons (ps_for PassesOwn.never rfl (pi_tup (pv 1)) (pg_name (i := 2) scReach.nd rfl (.inl rfl)) (pss_cons (ps_if (pt_cmpR op_ge (pv 2) (pe_callB call_len_seq (by rfl) T.len PySem.boot_len (pa_cons (pe_ix ix_tup (pv 0) pe_int (fun _ _ => rfl)) pa_nil)) (nomark _)) (pss_one (ps_ret pe_non)) pss_nil)
      (pss_one (ps_set (i := 0) scReach.nd rfl (.inl rfl) (pe_ix ix_tup (pe_ix ix_tup (pv 0) pe_int (fun _ _ => rfl)) (pv 2) (fun _ _ => rfl))))))
    (pss_one (ps_ret (pv 0)))), ?_⟩
  obtain ⟨a, rfl, ha⟩ := dp_path hp
  refine ⟨_, rfl, a, rfl, ⟨_, same_t hF ha⟩, ?_⟩
  refine for_tup (xs := q.map fun (n : Nat) => V.int (n : Int)) (fun i σ H2 => ∃ (v' : V) (d' : PyData) (y : Option V), σ = [some v', some (.ref a), y] ∧ H2 = H ∧ Dp K Fd v' d' ∧ sub d' (q.drop i) = some e) ⟨v, d, none, rfl, rfl, hv, he⟩ (fun i σ H2 _ p => ?_) (fun i x σ H2 hx p => ?_) (fun σ H2 p => ?_)
  · obtain ⟨_, _, _, _, rfl, _⟩ := p
    exact same_t hF ha
  · obtain ⟨v', d', y, rfl, rfl, hv', hs⟩ := p
    rw [List.getElem?_map] at hx
    obtain ⟨n, hn, rfl⟩ := Option.map_eq_some_iff.mp hx
    obtain ⟨hi, rfl⟩ := List.getElem?_eq_some_iff.mp hn
    rw [List.drop_eq_getElem_cons hi] at hs
    obtain ⟨s0, ks, kd, rfl, hk, hs2⟩ := sub_cons hs
    cases hv' with
    | @tup b xs _ hb hx2 =>
    obtain ⟨x0, y0, _, _, rfl, h00, h1, h2⟩ := DpAll.two hx2 (DpAll.len hx2)
    cases h00
    cases h2 with
    | @tup c ys _ hc hy =>
    obtain ⟨kv, hkv, hkd⟩ := DpAll.got hy hk
    have hlt : q[i] < ys.length := (List.getElem?_eq_some_iff.mp hkv).1
    refine ⟨_, rfl, _, rfl, b, _, 1, _, rfl, rfl, same_t hF hb, atI_nat (j := 1) rfl, c, ys, rfl, .inr (same_t hF hc), _, _, rfl, rfl, _, rfl, ?_⟩
    refine iteD (fun cc => absurd cc (by omega)) (fun cc => ?_)
    refine ⟨_, rfl, b, _, 1, _, rfl, rfl, same_t hF hb, atI_nat (j := 1) rfl, _, rfl, c, ys, _, kv, rfl, rfl, same_t hF hc, atI_nat hkv, ?_⟩
    exact ⟨kv, kd, _, rfl, rfl, hkd, hs2⟩
  · obtain ⟨v', d', y, rfl, rfl, hv', hs⟩ := p
    rw [List.length_map, List.drop_length, sub] at hs
    cases hs
    exact ⟨_, rfl, k _ hv'⟩
end
end Tl

set_option Elab.async false
set_option linter.all false
set_option maxRecDepth 100000
set_option maxHeartbeats 8000000
namespace Tl
open PySem L2
/-- data in F within H, the source of numbers at st, which F does not know -/
structure Wd (st c : Addr) (F H : Hp) : Prop where
  fh : Same F H
  no : F st = none
  sa : StA H st c
theorem StA.there {H : Hp} {st c : Addr} (h : StA H st c) : H st ≠ none := by
  obtain ⟨cs, i, p, z, h1, _⟩ := h
  rw [h1]
  exact fun z => nomatch z
theorem Wd.next {st c : Addr} {F H : Hp} {o : HO} (w : Wd st c F H) (h : StA (upd H st o) st c) : Wd st c F (upd H st o) := ⟨same_mut w.fh w.no, w.no, h⟩
theorem Wd.gw {st c : Addr} {F H F' H' : Hp} (w : Wd st c F H) (g : Gw F H F' H') : Wd st c F' H' := ⟨g.fh, g.nw st w.sa.there w.no, w.sa.mono g.hh⟩
theorem Wd.same {st c : Addr} {F H H' : Hp} (w : Wd st c F H) (g : Same H H') : Wd st c F H' := ⟨w.fh.trans g, w.no, w.sa.mono g⟩
theorem Wd.ne {st c p : Addr} {F H : Hp} (w : Wd st c F H) (h : H p = none) : p ≠ st ∧ p ≠ c := by
  obtain ⟨cs, i, q, z, h1, h2, _⟩ := w.sa
  exact ⟨(ne_of_none h1 h).symm, (ne_of_none h2 h).symm⟩
/-- an object of our own, which neither F nor the source knows, is changed -/
theorem Wd.mut {st c p : Addr} {F H : Hp} {o : HO} (w : Wd st c F H) (h : F p = none) (h1 : p ≠ st) (h2 : p ≠ c) : Wd st c F (upd H p o) := by
  obtain ⟨cs, i, q, z, g1, g2, r⟩ := w.sa
  exact ⟨same_mut w.fh h, w.no, ⟨cs, i, q, z, by rw [upd_ne (Ne.symm h1)]; exact g1, by rw [upd_ne (Ne.symm h2)]; exact g2, r⟩⟩
end Tl

set_option Elab.async false
set_option linter.all false
set_option maxRecDepth 100000
set_option maxHeartbeats 8000000
namespace Tl
open PySem L2
abbrev sTreeL : Stmt := top 36
def nsV (es : List Nat) : List V := es.map fun (n : Nat) => V.int (n : Int)
theorem nsV_get {es : List Nat} {j e : Nat} (h : es[j]? = some e) : atI (nsV es) (j : Int) = some (.int (e : Int)) := atI_nat (by
  unfold nsV
  rw [List.getElem?_map, h]
  rfl)
theorem nsV_app (es : List Nat) (e : Nat) : nsV es ++ [.int (e : Int)] = nsV (es ++ [e]) := by
  unfold nsV
  rw [List.map_append]
  rfl
structure RelEL (es ls : List Nat) : Prop where
  first : ls[0]? = some 1
  lev : ∀ (j l : Nat), ls[j]? = some l → 1 ≤ l ∧ l ≤ 10
  eld : ∀ (j e : Nat), 1 ≤ j → es[j]? = some e → e < j ∧ ∀ (l l' : Nat), ls[e]? = some l → ls[j]? = some l' → l' = l + 1
theorem get_snoc {α : Type} {xs : List α} {x y : α} {j : Nat} (h : (xs ++ [x])[j]? = some y) : (j < xs.length ∧ xs[j]? = some y) ∨ (j = xs.length ∧ y = x) := by
  by_cases c : j < xs.length
  · rw [List.getElem?_append_left c] at h
    exact .inl ⟨c, h⟩
  · rw [List.getElem?_append_right (by omega)] at h
    have e : j - xs.length = 0 := by
      by_cases z : j - xs.length = 0
      · exact z
      · rw [List.getElem?_eq_none (by show 1 ≤ _; omega)] at h
        cases h
    rw [e] at h
    exact .inr ⟨by omega, (Option.some.inj h).symm⟩
theorem RelEL.app {es ls : List Nat} (r : RelEL es ls) {e l : Nat} (hlen : es.length = ls.length) (he : ls[e]? = some l) (hl : l ≤ 9) : RelEL (es ++ [e]) (ls ++ [l + 1]) := by
  have hel : e < ls.length := (List.getElem?_eq_some_iff.mp he).1
  refine ⟨?_, fun j m h => ?_, fun j e' hj h => ?_⟩
  · rw [List.getElem?_append_left (by omega)]
    exact r.first
  · rcases get_snoc h with ⟨_, h⟩ | ⟨_, rfl⟩
    · exact r.lev j m h
    · omega
  · rcases get_snoc h with ⟨c, h⟩ | ⟨rfl, rfl⟩
    · obtain ⟨h1, h2⟩ := r.eld j e' hj h
      refine ⟨h1, fun a b ha hb => ?_⟩
      rw [List.getElem?_append_left (by omega)] at ha hb
      exact h2 a b ha hb
    · refine ⟨by omega, fun a b ha hb => ?_⟩
      rw [List.getElem?_append_left hel] at ha
      rw [hlen, List.getElem?_append_right (Nat.le_refl _), Nat.sub_self] at hb
      rw [he] at ha
      cases ha
      exact (Option.some.inj hb).symm
theorem RelEL.one : RelEL [0] [1] := by
  refine ⟨rfl, fun j l h => ?_, fun j e hj h => ?_⟩
  · match j, h with
    | 0, h => have := Option.some.inj h; omega
    | j + 1, h => simp at h
  · match j, h with
    | 0, _ => omega
    | j + 1, h => simp at h
/-- the weights of the first m lists together -/
def sw (m : Nat) (tss : List (List PyData)) : Nat := ((tss.take m).map wtAll).sum
theorem sw_succ {m : Nat} {tss : List (List PyData)} {ts : List PyData} (h : tss[m]? = some ts) : sw (m + 1) tss = sw m tss + wtAll ts := by
  unfold sw
  rw [List.take_add_one, h, List.map_append, List.sum_append]
  simp
theorem sw_set : ∀ {m e : Nat} {tss : List (List PyData)} {ts : List PyData} {T : PyData}, e < m → tss[e]? = some ts → sw m (tss.set e (ts ++ [T])) = sw m tss + (wt T + 2)
  | 0, _, _, _, _, h, _ => by omega
  | m + 1, 0, a :: r, ts, T, _, h => by
    have e : a = ts := Option.some.inj h
    subst e
    show ((a ++ [T]) :: r.take m |>.map wtAll).sum = ((a :: r.take m).map wtAll).sum + _
    rw [List.map_cons, List.map_cons, List.sum_cons, List.sum_cons, wtAll_app, wtAll, wtAll]
    omega
  | m + 1, e + 1, a :: r, ts, T, h, h2 => by
    have ih := sw_set (m := m) (e := e) (tss := r) (ts := ts) (T := T) (by omega) h2
    unfold sw at ih ⊢
    show ((a :: (r.set e (ts ++ [T])).take m).map wtAll).sum = ((a :: r.take m).map wtAll).sum + _
    rw [List.map_cons, List.map_cons, List.sum_cons, List.sum_cons, ih]
    omega
  | _ + 1, _, [], _, _, _, h => by simp at h
theorem wt_sw : ∀ {m e : Nat} {tss : List (List PyData)} {ts : List PyData}, e < m → tss[e]? = some ts → wtAll ts ≤ sw m tss
  | 0, _, _, _, h, _ => by omega
  | m + 1, 0, a :: r, ts, _, h => by
    have e : a = ts := Option.some.inj h
    subst e
    show wtAll a ≤ ((a :: r.take m).map wtAll).sum
    rw [List.map_cons, List.sum_cons]
    omega
  | m + 1, e + 1, a :: r, ts, h, h2 => by
    have ih := wt_sw (m := m) (e := e) (tss := r) (ts := ts) (by omega) h2
    unfold sw at ih ⊢
    show _ ≤ ((a :: r.take m).map wtAll).sum
    rw [List.map_cons, List.sum_cons]
    omega
  | _ + 1, _, [], _, _, h => by simp at h
theorem sw_rep (m n : Nat) : sw m (List.replicate n []) = 0 := by
  unfold sw
  rw [List.take_replicate, List.map_replicate]
  generalize min m n = k
  induction k with
  | zero => rfl
  | succ k ih => rw [List.replicate_succ, List.sum_cons, ih]; rfl
mutual
def nn : PyData → Nat
  | .tuple [_, .tuple ks] => 1 + nnAll ks
  | _ => 1
def nnAll : List PyData → Nat
  | [] => 0
  | k :: ks => nn k + nnAll ks
end
theorem nnAll_app : ∀ (a b : List PyData), nnAll (a ++ b) = nnAll a + nnAll b
  | [], b => by rw [List.nil_append, nnAll]; omega
  | k :: a, b => by
    rw [List.cons_append, nnAll, nnAll, nnAll_app a b]
    omega
theorem nnAll_rev : ∀ (a : List PyData), nnAll a.reverse = nnAll a
  | [] => rfl
  | k :: a => by
    rw [List.reverse_cons, nnAll_app, nnAll_rev a, nnAll, nnAll, nnAll]
    omega
/-- how many places the first m lists have together -/
def sn (m : Nat) (tss : List (List PyData)) : Nat := ((tss.take m).map nnAll).sum
theorem sn_succ {m : Nat} {tss : List (List PyData)} {ts : List PyData} (h : tss[m]? = some ts) : sn (m + 1) tss = sn m tss + nnAll ts := by
  unfold sn
  rw [List.take_add_one, h, List.map_append, List.sum_append]
  simp
theorem sn_set : ∀ {m e : Nat} {tss : List (List PyData)} {ts : List PyData} {T : PyData}, e < m → tss[e]? = some ts → sn m (tss.set e (ts ++ [T])) = sn m tss + nn T
  | 0, _, _, _, _, h, _ => by omega
  | m + 1, 0, a :: r, ts, T, _, h => by
    have e : a = ts := Option.some.inj h
    subst e
    show ((a ++ [T]) :: r.take m |>.map nnAll).sum = ((a :: r.take m).map nnAll).sum + _
    rw [List.map_cons, List.map_cons, List.sum_cons, List.sum_cons, nnAll_app, nnAll, nnAll]
    omega
  | m + 1, e + 1, a :: r, ts, T, h, h2 => by
    have ih := sn_set (m := m) (e := e) (tss := r) (ts := ts) (T := T) (by omega) h2
    unfold sn at ih ⊢
    show ((a :: (r.set e (ts ++ [T])).take m).map nnAll).sum = ((a :: r.take m).map nnAll).sum + _
    rw [List.map_cons, List.map_cons, List.sum_cons, List.sum_cons, ih]
    omega
  | _ + 1, _, [], _, _, _, h => by simp at h
theorem sn_rep (m n : Nat) : sn m (List.replicate n []) = 0 := by
  unfold sn
  rw [List.take_replicate, List.map_replicate]
  generalize min m n = k
  induction k with
  | zero => rfl
  | succ k ih => rw [List.replicate_succ, List.sum_cons, ih]; rfl
theorem wtAll_rev (ts : List PyData) : wtAll ts.reverse = wtAll ts := by
  induction ts with
  | nil => rfl
  | cons a r ih => rw [List.reverse_cons, wtAll_app, ih, wtAll, wtAll, wtAll]; omega
def tags5 : List Str := ["a", "b", "ab", "zz", "abcdefgh"]
theorem tags5_ok : ∀ s ∈ tags5, 1 ≤ s.length ∧ s.length ≤ 8 ∧ (PyData.strOk s = true ∧ s ∈ tags6) := by decide +kernel
/-- the lists of kids: tss[j] at as[j] -/
structure KidsAt (K : PySem.W.Frag) (D : Addr) (as : List Addr) (tss : List (List PyData)) (F H : Hp) : Prop where
  lst : H D = some (.lst (as.map V.ref))
  nd : as.Nodup
  len : as.length = tss.length
  noD : ¬ D ∈ as
  at_ : ∀ (j : Nat) (a : Addr) (ts : List PyData), as[j]? = some a → tss[j]? = some ts → ∃ vs, H a = some (.lst vs) ∧ DpAll K F vs ts
  noF : ∀ a ∈ as, F a = none
theorem KidsAt.gw {K : PySem.W.Frag} {D : Addr} {as : List Addr} {tss : List (List PyData)} {F H F' H' : Hp} (k : KidsAt K D as tss F H) (g : Gw F H F' H') : KidsAt K D as tss F' H' := by
  refine ⟨g.hh _ _ k.lst, k.nd, k.len, k.noD, fun j a ts h1 h2 => ?_, fun a ha => ?_⟩
  · obtain ⟨vs, h3, h4⟩ := k.at_ j a ts h1 h2
    exact ⟨vs, g.hh _ _ h3, dpAll_mono g.ff _ _ h4⟩
  · obtain ⟨j, hj, rfl⟩ := List.getElem_of_mem ha
    obtain ⟨vs, h3, _⟩ := k.at_ j as[j] (tss[j]'(by rw [← k.len]; exact hj)) (List.getElem?_eq_getElem hj) (List.getElem?_eq_getElem _)
    exact g.nw _ (by rw [h3]; exact fun z => nomatch z) (k.noF _ ha)
theorem KidsAt.next {K : PySem.W.Frag} {D st : Addr} {as : List Addr} {tss : List (List PyData)} {F H : Hp} {o : HO} (k : KidsAt K D as tss F H) (h1 : st ≠ D) (h2 : ¬ st ∈ as) : KidsAt K D as tss F (upd H st o) := by
  refine ⟨by rw [upd_ne (Ne.symm h1)]; exact k.lst, k.nd, k.len, k.noD, fun j a ts h3 h4 => ?_, k.noF⟩
  obtain ⟨vs, h5, h6⟩ := k.at_ j a ts h3 h4
  exact ⟨vs, by rw [upd_ne (fun z => h2 (by rw [← z]; exact List.mem_of_getElem? h3))]; exact h5, h6⟩
theorem KidsAt.put {K : PySem.W.Frag} {D : Addr} {as : List Addr} {tss : List (List PyData)} {F H : Hp} {e : Nat} {a : Addr} {ts : List PyData} {vs : List V} {v : V} {T : PyData} (k : KidsAt K D as tss F H) (h1 : as[e]? = some a) (h2 : tss[e]? = some ts)
    (h3 : H a = some (.lst vs)) (h4 : DpAll K F vs ts) (hv : Dp K F v T) : KidsAt K D as (tss.set e (ts ++ [T])) F (upd H a (.lst (vs ++ [v]))) := by
  have ham := List.mem_of_getElem? h1
  refine ⟨by rw [upd_ne (fun z => k.noD (by rw [z]; exact ham))]; exact k.lst, k.nd, by rw [List.length_set]; exact k.len, k.noD, fun j b us h5 h6 => ?_, k.noF⟩
  by_cases c : j = e
  · subst c
    have e1 : b = a := Option.some.inj (h5.symm.trans h1)
    subst e1
    rw [List.getElem?_set_self (List.getElem?_eq_some_iff.mp h2).1] at h6
    cases h6
    exact ⟨vs ++ [v], upd_same, DpAll.app h4 (.cons hv .nil)⟩
  · rw [List.getElem?_set_ne (fun z => c z.symm)] at h6
    obtain ⟨ws, h7, h8⟩ := k.at_ j b us h5 h6
    exact ⟨ws, by rw [upd_ne (fun z => c (nd_ix k.nd h5 (by rw [z]; exact h1)))]; exact h7, h8⟩
def spTreeL (K : PySem.W.Frag) : Sp := fun vs H Q _ => ∃ (st cc : Addr) (F : Hp) (most : Int), vs = [.ref st, .int most] ∧ Wd st cc F H ∧ 1 ≤ most ∧ most ≤ 100 ∧
  ∀ (r : V) (d : PyData) (F' H' : Hp), Wd st cc F' H' → Same F F' → Dp K F' r d → TrD 10 d → ((wt d : Nat) : Int) ≤ 98 * most → ((nn d : Nat) : Int) ≤ most → Q r H'
section
variable {P : Program} {w : World} {K : PySem.W.Frag} {mg : Str → Option Value} {base : Heap}
theorem scTreeL : FnScope ["_law_state_here", "_law_most", "_law_tags", "_law_many", "_law_slope", "_law_elders", "_law_levels_here", "_law_k", "_law_kids", "_law_elder"] ["_law_state_here", "_law_most"] (defScope sTreeL) := ⟨rfl, rfl, rfl, by decide +kernel, rfl, by decide +kernel, by decide +kernel⟩
theorem ok_treeL {f : Addr} {fd : FuncData} {k j : Nat} (F : Fun K "_law_tree" "_law_tree" sTreeL f fd) (U_law_next : Use P w K mg base "_law_next" ["_law_state_here", "_law_below"] j spNext) (hj : j ≤ k) (T : Bl mg) : FnOk P w K mg base CX0 (k + 1) f fd ["_law_state_here", "_law_most"] (spTreeL K) := by
  refine F.ok scTreeL (fun vs H Q E h => ?_) (fun cdv A outer s H vs Q E hr h => ?_)
  · obtain ⟨_, _, _, _, rfl, _⟩ := h
    rfl
  obtain ⟨st, cc, Fd, most, rfl, W, hm1, hm2, k⟩ := h
  refine ⟨_, (pss_cons (ps_set (i := 2) scTreeL.nd rfl (.inl rfl) (pe_lst (pa_cons pe_str (pa_cons pe_str (pa_cons pe_str (pa_cons pe_str (pa_cons pe_str pa_nil)))))))
    (pss_cons (ps_set (i := 3) scTreeL.nd rfl (.inl rfl) (pe_op op_add pe_int (pe_call U_law_next.ok (hr.mono (by omega)) rfl U_law_next.m U_law_next.kp U_law_next.b .nil pass0 (pa_cons (pv 0) (pa_cons (pv 1) pa_nil)))))
    (pss_cons (ps_set (i := 4) scTreeL.nd rfl (.inl rfl) (pe_call U_law_next.ok (hr.mono (by omega)) rfl U_law_next.m U_law_next.kp U_law_next.b .nil pass0 (pa_cons (pv 0) (pa_cons pe_int pa_nil))))
    (pss_cons (ps_set (i := 5) scTreeL.nd rfl (.inl rfl) (pe_lst (pa_cons pe_int pa_nil)))
    (pss_cons (ps_set (i := 6) scTreeL.nd rfl (.inl rfl) (pe_lst (pa_cons pe_int pa_nil)))
    (pss_cons (ps_for PassesOwn.never rfl (pi_range2 (by rfl) T.range (pa_cons pe_int (pa_cons (pv 3) pa_nil))) (pg_name (i := 7) scTreeL.nd rfl (.inl rfl)) (pss_cons (ps_set (i := 9) scTreeL.nd rfl (.inl rfl) (pe_ix ix_list (pe_lst (pa_cons (pe_call U_law_next.ok (hr.mono (by omega)) rfl U_law_next.m U_law_next.kp U_law_next.b .nil pass0 (pa_cons (pv 0) (pa_cons (pv 7) pa_nil))) (pa_cons (pe_op op_sub (pv 7) pe_int) (pa_cons (pe_callB (call_max2 rfl) (by rfl) T.max PyProof.Rows.boot_max (pa_cons pe_int (pa_cons (pe_op op_sub (pe_op op_sub (pv 7) pe_int) (pe_call U_law_next.ok (hr.mono (by omega)) rfl U_law_next.m U_law_next.kp U_law_next.b .nil pass0 (pa_cons (pv 0) (pa_cons pe_int pa_nil)))) pa_nil))) pa_nil)))) (pv 4) (fun _ _ => rfl)))
      (pss_cons (ps_if (pt_cmpR op_gt (pe_ix ix_list (pv 6) (pv 9) (fun _ _ => rfl)) pe_int (nomark _)) (pss_one (ps_set (i := 9) scTreeL.nd rfl (.inl rfl) pe_int)) pss_nil)
      (pss_cons (ps_expr (pe_bm PySem.F.plainAttrs_list PySem.F.slot_list_append PySem.F.type_list_append mt_append (pv 5) (pa_cons (pv 9) pa_nil)))
      (pss_one (ps_expr (pe_bm PySem.F.plainAttrs_list PySem.F.slot_list_append PySem.F.type_list_append mt_append (pv 6) (pa_cons (pe_op op_add (pe_ix ix_list (pv 6) (pv 9) (fun _ _ => rfl)) pe_int) pa_nil))))))))
    (pss_cons (ps_setLc (i := 8) (own := [("_law_k", 7)]) (g := gName 7) (tt := tYes) (by rfl) scTreeL.nd rfl rfl (sw_true rfl rfl rfl (by decide +kernel)) (pi_range1 (by rfl) T.range (pa_cons (pv 3) pa_nil)) (blkOk_by (N := ["_law_state_here", "_law_most", "_law_tags", "_law_many", "_law_slope", "_law_elders", "_law_levels_here", "_law_k", "_law_kids", "_law_elder"]) (sc := defScope sTreeL) (own := [("_law_k", 7)]) (by decide +kernel)) (fun _ _ _ _ _ => pg_name (i := 7) scTreeL.nd rfl (Or.inl rfl)) (fun _ _ _ _ _ => pts_nil) (fun _ _ _ _ _ => (pe_lst pa_nil)))
    (pss_cons (ps_for PassesOwn.never rfl (pi_range3 (by rfl) T.range (pa_cons (pe_op op_sub (pv 3) pe_int) (pa_cons pe_int (pa_cons (pe_un un_neg pe_int) pa_nil)))) (pg_name (i := 7) scTreeL.nd rfl (.inl rfl)) (pss_one (ps_expr (pe_bm PySem.F.plainAttrs_list PySem.F.slot_list_append PySem.F.type_list_append mt_append (pe_ix ix_list (pv 8) (pe_ix ix_list (pv 5) (pv 7) (fun _ _ => rfl)) (fun _ _ => rfl)) (pa_cons (pe_tup (pa_cons (pe_ix ix_list (pv 2) (pe_call U_law_next.ok (hr.mono (by omega)) rfl U_law_next.m U_law_next.kp U_law_next.b .nil pass0 (pa_cons (pv 0) (pa_cons pe_int pa_nil))) (fun _ _ => rfl)) (pa_cons (pe_callTy call_tuple_of (by rfl) T.tuple PyProof.Rows.boot_tuple (pa_cons (pe_revL (pe_ix ix_list (pv 8) (pv 7) (fun _ _ => rfl))) pa_nil)) pa_nil))) pa_nil)))))
    (pss_one (ps_ret (pe_tup (pa_cons (pe_ix ix_list (pv 2) (pe_call U_law_next.ok (hr.mono (by omega)) rfl U_law_next.m U_law_next.kp U_law_next.b .nil pass0 (pa_cons (pv 0) (pa_cons pe_int pa_nil))) (fun _ _ => rfl)) (pa_cons (pe_callTy call_tuple_of (by rfl) T.tuple PyProof.Rows.boot_tuple (pa_cons (pe_revL (pe_ix ix_list (pv 8) pe_int (fun _ _ => rfl))) pa_nil)) pa_nil))))))))))))), ?_⟩
  refine ⟨by show 5 ≤ sizeLine; decide, fun tg htg => ?_⟩
  obtain ⟨g0, d0⟩ := gw_lst (K := K) (xs := tags5.map V.str) (ds := tags5.map PyData.str) W.fh htg (.cons (.str _) (.cons (.str _) (.cons (.str _) (.cons (.str _) (.cons (.str _) .nil)))))
  have W0 := W.gw g0
  have e0 := g0.ff
  have htg0 : (upd Fd tg (.lst (tags5.map V.str))) tg = some (.lst (tags5.map V.str)) := upd_same
  generalize upd Fd tg (.lst (tags5.map V.str)) = F0 at W0 e0 htg0
  clear d0 g0
  refine ⟨_, rfl, _, rfl, st, cc, most, rfl, W0.sa, by omega, by omega, fun m0 o1 hm00 hm01 sa1 => ?_⟩
  have W1 := W0.next sa1
  refine ⟨1, m0, rfl, rfl, ?_⟩
  refine ⟨_, rfl, st, cc, 3, rfl, W1.sa, by decide, by decide, fun slope o2 hs0 hs1 sa2 => ?_⟩
  have W2 := W1.next sa2
  obtain ⟨mn, hmn⟩ : ∃ mn : Nat, 1 + m0 = ((mn + 1 : Nat) : Int) := ⟨m0.toNat, by omega⟩
  have hmn2 : mn + 1 ≤ 100 := by omega
  refine ⟨by show 1 ≤ sizeLine; decide, fun el hel => ?_⟩
  have W3 := W2.same (same_new (o := .lst [.int 0]) hel)
  refine ⟨by show 1 ≤ sizeLine; decide, fun lv hlv => ?_⟩
  have W4 := W3.same (same_new (o := .lst [.int 1]) hlv)
  obtain ⟨nel, nelc⟩ := W2.ne hel
  obtain ⟨nlv, nlvc⟩ := W3.ne hlv
  have fel : F0 el = none := W2.fh.free hel
  have flv : F0 lv = none := W3.fh.free hlv
  have nll : el ≠ lv := ne_of_none upd_same hlv
  refine ⟨_, rfl, 1, 1 + m0, rfl, ⟨by omega, by omega, by omega, by omega⟩, ?_⟩
  refine for_range (lo := 1) (n := (1 + m0 - 1).toNat) (fun i σ H2 => ∃ (es ls : List Nat) (y7 y9 : Option V), σ = [some (.ref st), some (.int most), some (.ref tg), some (.int (1 + m0)), some (.int slope), some (.ref el), some (.ref lv), y7, none, y9] ∧ Wd st cc F0 H2 ∧ H2 el = some (.lst (nsV es)) ∧ H2 lv = some (.lst (nsV ls)) ∧ es.length = i + 1 ∧ ls.length = i + 1 ∧ RelEL es ls)
    ⟨[0], [1], none, none, rfl, W4, ?_, upd_same, rfl, rfl, RelEL.one⟩ (fun i σ H2 hi p => ?_) (fun σ H2 p => ?_)
  · rw [upd_ne nll]
    exact upd_same
  · obtain ⟨es, ls, y7, y9, rfl, W5, hE, hL, le, ll, R⟩ := p
    -- the three elders
    refine ⟨_, rfl, _, rfl, st, cc, _, rfl, W5.sa, by omega, by omega, fun a1 o6 ha10 ha11 sa6 => ?_⟩
    have W6 := W5.next sa6
    refine ⟨_, rfl, _, _, rfl, rfl, _, rfl, _, _, rfl, rfl, _, rfl, st, cc, 3, rfl, W6.sa, by decide, by decide, fun a2 o7 ha20 ha21 sa7 => ?_⟩
    have W7 := W6.next sa7
    refine ⟨_, _, rfl, rfl, 0, _, rfl, by show 3 ≤ sizeLine; decide, fun p8 hp8 => ?_⟩
    have E7 : (upd (upd H2 st o6) st o7) el = some (.lst (nsV es)) := by rw [upd_ne nel, upd_ne nel]; exact hE
    have L7 : (upd (upd H2 st o6) st o7) lv = some (.lst (nsV ls)) := by rw [upd_ne nlv, upd_ne nlv]; exact hL
    have s8 := same_new (o := HO.lst [V.int a1, V.int (1 + (i : Int) - 1), V.int (if 1 + (i : Int) - 1 - a2 > 0 then 1 + (i : Int) - 1 - a2 else 0)]) hp8
    have W8 := W7.same s8
    have E8 := s8 _ _ E7
    have L8 := s8 _ _ L7
    have pick : ∃ e : Nat, e ≤ i ∧ atI [V.int a1, V.int (1 + (i : Int) - 1), V.int (if 1 + (i : Int) - 1 - a2 > 0 then 1 + (i : Int) - 1 - a2 else 0)] slope = some (.int (e : Int)) := by
      rcases (show slope = 0 ∨ slope = 1 ∨ slope = 2 by omega) with rfl | rfl | rfl
      · exact ⟨a1.toNat, by omega, by rw [show ((a1.toNat : Nat) : Int) = a1 by omega]; exact atI_nat (j := 0) rfl⟩
      · exact ⟨i, Nat.le_refl _, (atI_nat (j := 1) rfl).trans (congrArg (fun z => some (V.int z)) (by omega))⟩
      · by_cases c : 1 + (i : Int) - 1 - a2 > 0
        · exact ⟨(1 + (i : Int) - 1 - a2).toNat, by omega, by rw [if_pos c, show (((1 + (i : Int) - 1 - a2).toNat : Nat) : Int) = 1 + (i : Int) - 1 - a2 by omega]; exact atI_nat (j := 2) rfl⟩
        · exact ⟨0, by omega, by rw [if_neg c]; exact atI_nat (j := 2) rfl⟩
    obtain ⟨e, hei, hat⟩ := pick
    refine ⟨_, rfl, p8, _, slope, _, rfl, rfl, SqL.of upd_same, hat, ?_⟩
    obtain ⟨l, hl⟩ : ∃ l, ls[e]? = some l := ⟨ls[e]'(by omega), List.getElem?_eq_getElem _⟩
    have hl10 := R.lev e l hl
    refine ⟨_, rfl, _, rfl, lv, _, _, _, rfl, rfl, SqL.of L8, nsV_get hl, _, _, rfl, rfl, _, rfl, ?_⟩
    refine iteD (fun c => ?_) (fun c => ?_)
    · have h0 : ls[0]? = some 1 := R.first
      refine ⟨_, rfl, .inl ⟨rfl, _, SqL.of E8⟩, _, rfl, el, _, _, rfl, rfl, E8, ?_, ?_⟩
      · unfold nsV
        rw [List.length_map]
        exact small1000 (by omega)
      have W9 := W8.mut (o := .lst (nsV es ++ [.int ((0 : Nat) : Int)])) fel nel nelc
      have L9 : (upd (upd (upd (upd H2 st o6) st o7) p8 (.lst [V.int a1, V.int (1 + (i : Int) - 1), V.int (if 1 + (i : Int) - 1 - a2 > 0 then 1 + (i : Int) - 1 - a2 else 0)])) el (.lst (nsV es ++ [.int ((0 : Nat) : Int)]))) lv = some (.lst (nsV ls)) := by rw [upd_ne (Ne.symm nll)]; exact L8
      refine ⟨_, rfl, .inl ⟨rfl, _, SqL.of L9⟩, _, rfl, _, rfl, lv, _, _, _, rfl, rfl, SqL.of L9, nsV_get h0, _, _, rfl, rfl, lv, _, _, rfl, rfl, L9, ?_, ?_⟩
      · unfold nsV
        rw [List.length_map]
        exact small1000 (by omega)
      have W10 := W9.mut (o := .lst (nsV ls ++ [.int (((1 : Nat) : Int) + 1)])) flv nlv nlvc
      refine ⟨es ++ [(0 : Nat)], ls ++ [(1 : Nat) + 1], _, _, rfl, W10, ?_, ?_, by rw [List.length_append, le]; rfl, by rw [List.length_append, ll]; rfl, R.app (by omega) h0 (by omega)⟩
      · rw [upd_ne nll, upd_same]
        exact congrArg (fun z => some (HO.lst z)) (nsV_app es _)
      · rw [upd_same]
        exact congrArg (fun z => some (HO.lst z)) (nsV_app ls _)
    · skip
      refine ⟨_, rfl, .inl ⟨rfl, _, SqL.of E8⟩, _, rfl, el, _, _, rfl, rfl, E8, ?_, ?_⟩
      · unfold nsV
        rw [List.length_map]
        exact small1000 (by omega)
      have W9 := W8.mut (o := .lst (nsV es ++ [.int (e : Int)])) fel nel nelc
      have L9 : (upd (upd (upd (upd H2 st o6) st o7) p8 (.lst [V.int a1, V.int (1 + (i : Int) - 1), V.int (if 1 + (i : Int) - 1 - a2 > 0 then 1 + (i : Int) - 1 - a2 else 0)])) el (.lst (nsV es ++ [.int (e : Int)]))) lv = some (.lst (nsV ls)) := by rw [upd_ne (Ne.symm nll)]; exact L8
      refine ⟨_, rfl, .inl ⟨rfl, _, SqL.of L9⟩, _, rfl, _, rfl, lv, _, _, _, rfl, rfl, SqL.of L9, nsV_get hl, _, _, rfl, rfl, lv, _, _, rfl, rfl, L9, ?_, ?_⟩
      · unfold nsV
        rw [List.length_map]
        exact small1000 (by omega)
      have W10 := W9.mut (o := .lst (nsV ls ++ [.int ((l : Int) + 1)])) flv nlv nlvc
      refine ⟨es ++ [e], ls ++ [l + 1], _, _, rfl, W10, ?_, ?_, by rw [List.length_append, le]; rfl, by rw [List.length_append, ll]; rfl, R.app (by omega) hl (by omega)⟩
      · rw [upd_ne nll, upd_same]
        exact congrArg (fun z => some (HO.lst z)) (nsV_app es _)
      · rw [upd_same]
        exact congrArg (fun z => some (HO.lst z)) (nsV_app ls _)
  · obtain ⟨es, ls, y7, y9, rfl, W5, hE, hL, le, ll, R⟩ := p
    have hn : (1 + m0 - 1).toNat = mn := by omega
    rw [hn] at le ll
    have hn1 : (1 + m0).toNat = mn + 1 := by omega
    refine ⟨_, rfl, 1 + m0, rfl, by omega, by omega, fun D hD => ?_⟩
    have hDs := W5.ne hD
    refine lc_range (lo := 0) (n := (1 + m0).toNat) (fun i H3 => ∃ as : List Addr, as.length = i ∧ H3 D = some (.lst (as.map V.ref)) ∧ as.Nodup ∧ (¬ D ∈ as) ∧ (∀ a ∈ as, H3 a = some (.lst []) ∧ H2 a = none) ∧ Same H2 H3)
      ⟨[], rfl, upd_same, List.nodup_nil, List.not_mem_nil, fun a h => absurd h List.not_mem_nil, same_new hD⟩ (fun i H3 hi p => ?_) (fun H3 p => ?_)
    · obtain ⟨as, l1, l2, l3, l4, l5, l6⟩ := p
      refine ⟨rfl, ?_⟩
      refine ⟨by show 0 ≤ sizeLine; decide, fun p hp => ?_⟩
      have npD : D ≠ p := ne_of_none l2 hp
      have npas : ¬ p ∈ as := fun h => by rw [(l5 p h).1] at hp; cases hp
      refine ⟨as.map V.ref, by rw [upd_ne npD]; exact l2, ?_, as ++ [p], by rw [List.length_append, l1]; rfl, ?_, ?_, ?_, fun a ha => ?_, ?_⟩
      · rw [List.length_map, l1]
        exact small1000 (by omega)
      · rw [upd_same, List.map_append]
        rfl
      · rw [List.nodup_append]
        exact ⟨l3, by simp, fun x hx y hy => by
          rw [List.mem_singleton.mp hy]
          exact fun z => npas (by rw [← z]; exact hx)⟩
      · intro h
        rcases List.mem_append.mp h with h | h
        · exact l4 h
        · exact npD (List.mem_singleton.mp h)
      · rcases List.mem_append.mp ha with ha | ha
        · have naD : a ≠ D := fun z => l4 (by rw [← z]; exact ha)
          have nap : a ≠ p := fun z => npas (by rw [← z]; exact ha)
          rw [upd_ne naD, upd_ne nap]
          exact l5 a ha
        · rw [List.mem_singleton.mp ha]
          refine ⟨?_, l6.free hp⟩
          rw [upd_ne (Ne.symm npD)]
          exact upd_same
      · exact same_mut (l6.trans (same_new hp)) hD
    obtain ⟨as, l1, l2, l3, l4, l5, l6⟩ := p
    rw [hn1] at l1
    have W6 := W5.same l6
    have E6 := l6 _ _ hE
    have asok : ∀ a ∈ as, a ≠ st ∧ a ≠ cc ∧ a ≠ el := fun a ha => ⟨(W5.ne (l5 a ha).2).1, (W5.ne (l5 a ha).2).2, (ne_of_none hE (l5 a ha).2).symm⟩
    have K6 : KidsAt K D as (List.replicate (mn + 1) []) F0 H3 := by
      refine ⟨l2, l3, by rw [l1, List.length_replicate], l4, fun j a ts h1 h2 => ?_, fun a ha => W5.fh.free (l5 a ha).2⟩
      rw [(List.mem_replicate.mp (List.mem_of_getElem? h2)).2]
      exact ⟨[], (l5 a (List.mem_of_getElem? h1)).1, .nil⟩
    refine ⟨_, rfl, _, _, rfl, rfl, 1, rfl, 1 + m0 - 1, 0, -1, _, rfl, RgC.neg (by omega) (by omega) (by omega) (by omega), ?_⟩
    have hn2 : (1 + m0 - 1 - 0).toNat = mn := by omega
    refine for_rangeC (lo := 1 + m0 - 1) (c := -1) (n := (1 + m0 - 1 - 0).toNat) (fun i σ H4 => ∃ (tss : List (List PyData)) (F2 : Hp) (z7 : Option V), σ = [some (.ref st), some (.int most), some (.ref tg), some (.int (1 + m0)), some (.int slope), some (.ref el), some (.ref lv), z7, some (.ref D), y9] ∧ Wd st cc F2 H4 ∧ Same F0 F2 ∧ H4 el = some (.lst (nsV es)) ∧ KidsAt K D as tss F2 H4 ∧ tss.length = mn + 1 ∧ sw (mn + 1 - i) tss ≤ 98 * i ∧ sn (mn + 1 - i) tss ≤ i ∧ ∀ (j l : Nat) (ts : List PyData), tss[j]? = some ts → ls[j]? = some l → ∀ t ∈ ts, TrD (10 - l) t)
      ⟨List.replicate (mn + 1) [], F0, _, rfl, W6, Same.refl _, E6, K6, List.length_replicate, by rw [sw_rep]; exact Nat.zero_le _, by rw [sn_rep]; exact Nat.zero_le _, fun j l ts h1 _ t ht => ?_⟩ (fun i σ H4 hi p => ?_) (fun σ H4 p => ?_)
    · rw [(List.mem_replicate.mp (List.mem_of_getElem? h1)).2] at ht
      cases ht
    · obtain ⟨tss, F2, z7, rfl, W7, e7, E7, K7, lt7, sw7, sn7, tr7⟩ := p
      rw [hn2] at hi
      obtain ⟨kk, hkk⟩ : ∃ kk : Nat, kk + i = mn := ⟨mn - i, by omega⟩
      have hkv : 1 + m0 - 1 + ((i : Nat) : Int) * -1 = (kk : Int) := by omega
      have hk1 : 1 ≤ kk := by omega
      obtain ⟨e, he⟩ : ∃ e, es[kk]? = some e := ⟨es[kk]'(by omega), List.getElem?_eq_getElem _⟩
      obtain ⟨hek, hlev⟩ := R.eld kk e hk1 he
      obtain ⟨ae, hae⟩ : ∃ a, as[e]? = some a := ⟨as[e]'(by omega), List.getElem?_eq_getElem _⟩
      obtain ⟨ak, hak⟩ : ∃ a, as[kk]? = some a := ⟨as[kk]'(by omega), List.getElem?_eq_getElem _⟩
      obtain ⟨te, hte⟩ : ∃ t, tss[e]? = some t := ⟨tss[e]'(by omega), List.getElem?_eq_getElem _⟩
      obtain ⟨tk, htk⟩ : ∃ t, tss[kk]? = some t := ⟨tss[kk]'(by omega), List.getElem?_eq_getElem _⟩
      obtain ⟨le', hle'⟩ : ∃ l, ls[e]? = some l := ⟨ls[e]'(by omega), List.getElem?_eq_getElem _⟩
      obtain ⟨lk, hlk⟩ : ∃ l, ls[kk]? = some l := ⟨ls[kk]'(by omega), List.getElem?_eq_getElem _⟩
      have hll := hlev le' lk hle' hlk
      have hlk10 := R.lev kk lk hlk
      obtain ⟨aest, aecc, aeel⟩ := asok ae (List.mem_of_getElem? hae)
      obtain ⟨akst, akcc, akel⟩ := asok ak (List.mem_of_getElem? hak)
      have stD : st ≠ D := (hDs.1).symm
      have stas : ¬ st ∈ as := fun h => (asok st h).1 rfl
      have atk : ∀ {xs : List V} {v : V}, xs[kk]? = some v → atI xs (1 + m0 - 1 + ((i : Nat) : Int) * -1) = some v := fun h => at_of hkv h
      have atE : atI (nsV es) (1 + m0 - 1 + ((i : Nat) : Int) * -1) = some (.int (e : Int)) := by rw [hkv]; exact nsV_get he
      obtain ⟨ve, hve, dve⟩ := K7.at_ e ae te hae hte
      have atAe : atI (as.map V.ref) (e : Int) = some (.ref ae) := atI_nat (by rw [List.getElem?_map, hae]; rfl)
      have atAk : atI (as.map V.ref) (1 + m0 - 1 + ((i : Nat) : Int) * -1) = some (.ref ak) := atk (by rw [List.getElem?_map, hak]; rfl)
      refine ⟨_, rfl, _, rfl, _, rfl, el, _, _, _, rfl, rfl, SqL.of E7, atE, D, _, _, _, rfl, rfl, SqL.of K7.lst, atAe, .inl ⟨rfl, _, SqL.of hve⟩, ?_⟩
      refine ⟨_, rfl, _, rfl, st, cc, 5, rfl, W7.sa, by decide, by decide, fun r8 o8 hr80 hr81 sa8 => ?_⟩
      have W8 := W7.next sa8
      have K8 := K7.next (o := o8) stD stas
      obtain ⟨tgs, htgs, hat⟩ : ∃ s, s ∈ tags5 ∧ atI (tags5.map V.str) r8 = some (.str s) := by
        obtain ⟨r, rfl⟩ : ∃ r : Nat, r8 = (r : Int) := ⟨r8.toNat, by omega⟩
        have hr5 : r < tags5.length := by show r < 5; omega
        exact ⟨tags5[r], List.getElem_mem hr5, atI_nat (by rw [List.getElem?_map, List.getElem?_eq_getElem hr5]; rfl)⟩
      have htag := tags5_ok tgs htgs
      refine ⟨tg, _, r8, _, rfl, rfl, SqL.of (W8.fh _ _ (e7 _ _ htg0)), hat, ?_⟩
      obtain ⟨vk, hvk, dvk⟩ := K8.at_ kk ak tk hak htk
      refine ⟨_, rfl, _, rfl, D, _, _, _, rfl, rfl, SqL.of K8.lst, atAk, ak, vk, rfl, SqL.of hvk, fun p9 hp9 => ?_⟩
      have g9 : Gw F2 (upd H4 st o8) F2 (upd (upd H4 st o8) p9 (.lst vk.reverse)) := Gw.temp W8.fh hp9
      refine ⟨p9, _, rfl, .inl ⟨SqL.of upd_same, fun p10 hp10 => ?_⟩⟩
      obtain ⟨g10, d10⟩ := gw_tup (K := K) (xs := vk.reverse) g9.fh hp10 (DpAll.rev dvk)
      refine ⟨by show 2 ≤ sizeLine; decide, fun p11 hp11 => ?_⟩
      obtain ⟨g11, d11⟩ := gw_tup (K := K) (xs := [.str tgs, .ref p10]) g10.fh hp11 (.cons (.str _) (.cons d10 .nil))
      have G := (g9.trans g10).trans g11
      have W12 := W8.gw G
      have K12 := K8.gw G
      obtain ⟨ve2, hve2, dve2⟩ := K12.at_ e ae te hae hte
      have hlt : wtAll te ≤ sw (mn + 1 - i) tss := wt_sw (by omega) hte
      have hl2 := len_wt te
      refine ⟨ae, ve2, _, rfl, rfl, hve2, ?_, ?_⟩
      · rw [DpAll.len dve2]
        exact Nat.lt_of_le_of_lt (show te.length ≤ 100000 by omega) (by decide)
      have W13 := W12.mut (o := .lst (ve2 ++ [.ref p11])) (K12.noF ae (List.mem_of_getElem? hae)) aest aecc
      have K13 := K12.put hae hte hve2 dve2 d11
      refine ⟨_, _, _, rfl, W13, e7.trans G.ff, ?_, K13, by rw [List.length_set]; exact lt7, ?_, ?_, fun j l ts h1 h2 t ht => ?_⟩
      · rw [upd_ne (Ne.symm aeel)]
        refine G.hh _ _ ?_
        rw [upd_ne nel]
        exact E7
      · have e1 : mn + 1 - (i + 1) = kk := by omega
        have e2 : mn + 1 - i = kk + 1 := by omega
        rw [e2, sw_succ htk] at sw7
        rw [e1, sw_set hek hte, wt_node, wtAll_rev]
        omega
      · have e1 : mn + 1 - (i + 1) = kk := by omega
        have e2 : mn + 1 - i = kk + 1 := by omega
        rw [e2, sn_succ htk] at sn7
        rw [e1, sn_set hek hte, nn, nnAll_rev]
        omega
      · by_cases cj : j = e
        · subst cj
          rw [List.getElem?_set_self (by omega)] at h1
          cases h1
          rw [hle'] at h2
          cases h2
          rcases List.mem_append.mp ht with ht | ht
          · exact tr7 j _ te hte hle' t ht
          · rw [List.mem_singleton.mp ht]
            refine TrD.mono (show 10 - lk + 1 ≤ 10 - le' by omega) ⟨tgs, _, rfl, htag, fun kd hkd => ?_⟩
            exact tr7 kk lk tk htk hlk kd (List.mem_reverse.mp hkd)
        · rw [List.getElem?_set_ne (fun z => cj z.symm)] at h1
          exact tr7 j l ts h1 h2 t ht
    · obtain ⟨tss, F2, z7, rfl, W7, e7, E7, K7, lt7, sw7, sn7, tr7⟩ := p
      rw [hn2, show mn + 1 - mn = 1 by omega] at sw7 sn7
      have stD : st ≠ D := (hDs.1).symm
      have stas : ¬ st ∈ as := fun h => (asok st h).1 rfl
      obtain ⟨ak, hak⟩ : ∃ a, as[0]? = some a := ⟨as[0]'(by omega), List.getElem?_eq_getElem _⟩
      obtain ⟨tk, htk⟩ : ∃ t, tss[0]? = some t := ⟨tss[0]'(by omega), List.getElem?_eq_getElem _⟩
      refine ⟨_, rfl, _, rfl, st, cc, 5, rfl, W7.sa, by decide, by decide, fun r8 o8 hr80 hr81 sa8 => ?_⟩
      have W8 := W7.next sa8
      have K8 := K7.next (o := o8) stD stas
      obtain ⟨tgs, htgs, hat⟩ : ∃ s, s ∈ tags5 ∧ atI (tags5.map V.str) r8 = some (.str s) := by
        obtain ⟨r, rfl⟩ : ∃ r : Nat, r8 = (r : Int) := ⟨r8.toNat, by omega⟩
        have hr5 : r < tags5.length := by show r < 5; omega
        exact ⟨tags5[r], List.getElem_mem hr5, atI_nat (by rw [List.getElem?_map, List.getElem?_eq_getElem hr5]; rfl)⟩
      have htag := tags5_ok tgs htgs
      refine ⟨tg, _, r8, _, rfl, rfl, SqL.of (W8.fh _ _ (e7 _ _ htg0)), hat, ?_⟩
      obtain ⟨vk, hvk, dvk⟩ := K8.at_ 0 ak tk hak htk
      refine ⟨_, rfl, D, _, 0, _, rfl, rfl, SqL.of K8.lst, atI_nat (j := 0) (by rw [List.getElem?_map, hak]; rfl), ak, vk, rfl, SqL.of hvk, fun p9 hp9 => ?_⟩
      have g9 : Gw F2 (upd H4 st o8) F2 (upd (upd H4 st o8) p9 (.lst vk.reverse)) := Gw.temp W8.fh hp9
      refine ⟨p9, _, rfl, .inl ⟨SqL.of upd_same, fun p10 hp10 => ?_⟩⟩
      obtain ⟨g10, d10⟩ := gw_tup (K := K) (xs := vk.reverse) g9.fh hp10 (DpAll.rev dvk)
      refine ⟨by show 2 ≤ sizeLine; decide, fun p11 hp11 => ?_⟩
      obtain ⟨g11, d11⟩ := gw_tup (K := K) (xs := [.str tgs, .ref p10]) g10.fh hp11 (.cons (.str _) (.cons d10 .nil))
      have G := (g9.trans g10).trans g11
      refine k _ _ _ _ (W8.gw G) ((e0.trans e7).trans G.ff) d11 ?_ ?_ ?_
      · refine ⟨tgs, _, rfl, htag, fun kd hkd => ?_⟩
        exact tr7 0 1 tk htk R.first kd (List.mem_reverse.mp hkd)
      · have hs1 : wtAll tk ≤ sw 1 tss := wt_sw (by omega) htk
        have hwn := wt_node tgs tk.reverse
        rw [wtAll_rev] at hwn
        omega
      · rw [show (1 : Nat) = 0 + 1 from rfl, sn_succ htk] at sn7
        rw [nn, nnAll_rev]
        omega
end
end Tl

set_option Elab.async false
set_option linter.all false
set_option maxRecDepth 100000
set_option maxHeartbeats 4000000
namespace Tl
open PySem PySem.Spec PyProof.Rows L2
/-! An exception that a suite has put into another name, and that is looked at behind the try. -/
/-- the caught thing at a, of the class cls, its dict d -/
def CgO (cls : Value) (d : Option Addr) (a : Addr) : HO := .ext fun h => ∃ (oe : Obj) (vs : Array Value), h.get? a = some oe ∧ Zc cls d oe ∧ oe.data = .fields vs
theorem cg_ok {P : Program} {w : World} {H : Hp} {h : Heap} {a : Addr} {cls : Value} {d : Option Addr} {oe : Obj} {vs : Array Value} (e : h.get? a = some oe) (z : Zc cls d oe) (q : oe.data = .fields vs) : ObjOk P w H h a (CgO cls d a) :=
  ⟨⟨oe, vs, e, z, q⟩, ⟨oe, e⟩, fun _ _ ⟨o, v, p, r⟩ k => ⟨o, v, k o p, r⟩⟩
/-- what was there, and not ours to track, is tracked from now on -/
theorem take_up {X : Cx} {pins : List (Addr × Obj)} {σ : L2.St} {H : Hp} {s : Shared} {a : Addr} {o : HO} {oe : Obj} {vs : Array Value} (J : Inv X pins σ H s) (hn : H a = none) (h0 : X.s_0.heap.get? a = none) (nL : a ≠ X.env.locals)
    (np : ∀ p ∈ X.pn ++ pins, p.1 ≠ a) (ho : s.heap.get? a = some oe) (hd : oe.data = .fields vs) (new : ObjOk X.prog X.w (upd H a o) s.heap a o) : Inv X pins σ (upd H a o) s where
  ok := J.ok
  os := J.os
  bare := J.bare
  base := ⟨J.base.keep, J.base.slot, fun b u q n x => by rw [upd_ne (fun z => by rw [z, h0] at q; cases q)]; exact J.base.free b u q n x, J.base.there,
    fun b xs q => by rw [upd_ne (ne_of_none (J.base.tups b xs q) hn)]; exact J.base.tups b xs q,
    fun b u xs q => by rw [upd_ne (ne_of_none (J.base.frzs b u xs q) hn)]; exact J.base.frzs b u xs q,
    fun b ps q => by
      obtain ⟨m, e⟩ := J.base.tbls b ps q
      exact ⟨m, by rw [upd_ne (ne_of_none e hn)]; exact e⟩⟩
  loc := J.loc
  cell := J.cell
  free := by rw [upd_ne (Ne.symm nL)]; exact J.free
  freeC := fun x c q => by
    obtain ⟨v, hv⟩ := J.cell x c q
    rw [upd_ne]
    · exact J.freeC x c q
    · rintro rfl
      obtain ⟨oc, e1, e2⟩ := hv
      rw [ho] at e1
      cases e1
      simp_all
  pin := fun p hp => by
    obtain ⟨q1, q2, q3⟩ := J.pin p hp
    exact ⟨q1, by rw [upd_ne (np p hp)]; exact q2, q3⟩
  hok := J.hok.laidN (fun _ _ q => q) hn new
  len := J.len
/-- what 'except x as n' wishes of the body, the caught thing looked at behind -/
def wKeep (K : PySem.W.Frag) (c : Value) (i : Nat) (ts : Addr → Value → Option Addr → TS) (Wout : WX) (D : Ends) : WX := fun cls d σ H =>
  ∃ yes, PySem.W.exmOne K cls c = some yes ∧
    (yes = true → ∀ a, H a = none →
      ts a cls d ⟨fun σ' H' => D.nx (σ'.set i none) (upd H' a (CgO cls d a)), D.rt, fun σ' H' => D.bk (σ'.set i none) H', fun σ' H' => D.ct (σ'.set i none) H'⟩ (σ.set i (some (.ref a))) H) ∧
    (yes = false → Wout cls d σ H)
section
variable {X : Cx} {x n : Str} {c : Value} {i : Nat} {bd su : List Stmt} {s0 : Stmt} {np ps pt : Pos} {tb : WX → TS} {ts : Addr → Value → Option Addr → TS} {Wout : WX}
/-- the end of the try where its body has raised -/
theorem keep_catch (hs : X.stack = X.env :: X.outer) (hf : X.env.frame = some X.env.locals) (hex : X.ex = []) (hN : X.N.Nodup) (hi : X.N[i]? = some n) (hln : X.env.kindOf n = some .local) (hc : Names X x c) (tk : Takes X Wout)
    (hsu : ∀ (a : Addr) (oe : Obj) (cls : Value) (d : Option Addr) (pn : List (Addr × Obj)), Zc cls d oe → (∃ vs, oe.data = .fields vs) → PSs (X.suite a ((a, oe) :: pn)) (s0 :: su) (ts a cls d))
    {pins pn' : List (Addr × Obj)} {xe' : Value → Shared → Prop} {D : Ends} {u : Value} {t : Shared} (ok : X.Ok) (xx : XE (X.tr (X.pn ++ pins) xe') (wKeep X.K c i ts Wout D) u t) :
    wpAny (model X.prog X.w) X.A (noteFrame u X.env) (fun _ t2 => wpAny (model X.prog X.w) X.A (setFlight u none) (fun _ t3 =>
      wpAny (model X.prog X.w) X.A (handleBy u X.env [.ExceptHandler (some (.Name x np)) (some n) (s0 :: su) ps]) (SP X pins D) X.xe t3) X.xe t2) X.xe t := by
  obtain ⟨a, B, t0, _, τ, G, cls, d, rfl, J0, nb, up, sky, na, os, ag, yes, hy, hyes, hno⟩ := xx
  have J : Inv X pins τ G t0 := by
    have := J0.ofTry ok
    exact this
  have frames : X.A.frames = some (X.env :: X.outer) := by rw [ok.frames, hs]
  have sky1 : Sky B (X.env :: X.outer) a (Zc cls d) X.env.locals t.heap := hs ▸ sky
  have nB : B.get? a = none := by
    rcases sky1 with q | q | q
    · exact q.2.1
    · exact q.2.1
    · exact q.2.1
  refine Sky.land Zc.steady frames hf sky1 fun hA flA upA => ?_
  have JA : Inv X pins τ G { t with heap := hA } := J.landed nb flA.1 (up.trans upA) os ag
  obtain ⟨oA, vA, gA, zA, dA⟩ := flA.there
  -- no frame, so no object of the state ahead
  have far : a ∉ frs (X.env :: X.outer) := fun m => by
    obtain ⟨_, o2, g2, no⟩ := flA.2.2.1.mem m
    have e2 : oA = o2 := Option.some.inj (gA.symm.trans g2)
    exact no _ (e2 ▸ dA)
  have nL : a ≠ X.env.locals := fun z => far (List.mem_filterMap.mpr ⟨_, List.mem_cons_self, by rw [hf, z]⟩)
  have nF : a ∉ X.fs := fun m => by
    obtain ⟨e, me, qe⟩ := List.mem_filterMap.mp m
    exact far (List.mem_filterMap.mpr ⟨e, .tail _ me, qe⟩)
  have n0 : t0.heap.get? a = none := by
    cases e : t0.heap.get? a with
    | none => rfl
    | some o =>
      have := nb a o e (by show a ∉ frs X.stack; rw [hs]; exact far)
      rw [nB] at this
      cases this
  have ns : X.s_0.heap.get? a = none := by
    cases e : X.s_0.heap.get? a with
    | none => rfl
    | some o =>
      obtain ⟨o', e'⟩ := J.base.there a o e (by rw [hex]; exact List.not_mem_nil)
      rw [n0] at e'
      cases e'
  have npin : ∀ p ∈ X.pn ++ pins, p.1 ≠ a := fun p hp z => by
    have := (J.pin p hp).1
    rw [z, n0] at this
    cases this
  have SA := JA.suite gA dA na nL nF
  refine wpAny_handleBy_cons (codeAny_handlers_test ?_) (fun q => nomatch q)
  have fits := PySem.W.exm_one (M := model X.prog X.w) JA.kIn (fun A Q E r k q => wpAny_typeOf_ref (k _ _ gA) (by rw [zA.1]; exact q)) hy
  have name : ∀ {Q : Value → Shared → Prop} {E : Value → Shared → Prop}, Q c { t with heap := hA } → wpAny (model X.prog X.w) (X.A.mark (some (.ref a))) (eval (.Name x np) X.env) Q E { t with heap := hA } := by
    intro Q E q
    rcases hc with ⟨g, db, m | ⟨m, v, nn⟩⟩
    · exact ld_glob (X := X.suite a ((a, oA) :: (X.pn ++ pins))) SA g m q db
    · exact ld_blt (X := X.suite a ((a, oA) :: (X.pn ++ pins))) SA g m v q nn db
  refine name (fits.here ?_)
  cases yes with
  | false =>
    show wpAny _ X.A (handleBy (.ref a) X.env []) _ _ _
    refine wpAny_handleBy_nil ?_
    obtain ⟨_, _, _, o5, v5, tr, _, _, g5, _, d5, h5, _⟩ := id flA
    unfold PySem.passOn
    refine wpAny_bind (wpAny_field g5 d5 h5 ?_)
    rw [if_neg (by simp)]
    have last : wpAny (model X.prog X.w) X.A (setFlight (.ref a) X.env.frame) (fun _ t4 => wpAny (model X.prog X.w) X.A (throw (.ref a) : Sem Flow) (SP X pins D) X.xe t4) X.xe { t with heap := hA } := by
      rw [hf]
      refine HandSPX.setFlight_upZ flA fun h6 hl6 up6 => wpAny_throw (tk _ _ ⟨a, B, t0, pins, τ, G, cls, d, rfl, J, nb, (up.trans upA).trans up6, ?_, na, os, ag, hno rfl⟩)
      rw [hs]
      exact .inr (.inr hl6)
    first
      | exact wpAny_bind (wpAny_pure (wpAny_bind last))
      | exact wpAny_bind last
  | true =>
    refine codeAny_handlers_suite_as (HandSPX.lands_againZ flA fun hC flC upC => ?_)
    have JC : Inv X pins τ G { t with heap := hC } := J.landed nb flC.1 ((up.trans upA).trans upC) os ag
    obtain ⟨oC, vC, gC, zC, dC⟩ := flC.there
    refine store_ok (X := X.suite a ((a, oC) :: (X.pn ++ pins))) (v := .ref a) (JC.suite gC dC na nL nF) hN hi (.inl hln) rfl (fun t5 S5 => ?_) (.inr hln)
    refine wpAny_mono ((hsu a oC cls d (X.pn ++ pins) zC ⟨_, dC⟩).run [] t5 _ G _ S5 (hyes rfl a na)) (fun f t6 got => ?_) (fun _ _ z => z.elim)
    have plain : ∀ {τ6 : L2.St} {G6 : Hp} {Q : Shared → Prop}, Inv (X.suite a ((a, oC) :: (X.pn ++ pins))) [] τ6 G6 t6 → (∀ t7, Inv X pins (τ6.set i none) G6 t7 → Q t7) →
        wpAny (model X.prog X.w) X.A (do bindName X.env n .none; unbindBehindTheSuite X.env n ps) (fun _ t7 => Q t7) X.xe t6 := fun S q => gone_ok (S.unsuite ok) hN hi hln q
    cases f with
    | next =>
      obtain ⟨τ6, G6, S6, q6⟩ := got
      obtain ⟨p1, p2, _⟩ := S6.pin (a, oC) (List.mem_append_left _ List.mem_cons_self)
      have T6 := take_up (o := CgO cls d a) (S6.unsuite ok) p2 ns nL npin p1 dC (cg_ok p1 zC dC)
      exact gone_ok T6 hN hi hln fun t7 J7 => ⟨_, _, J7, q6⟩
    | brk =>
      obtain ⟨_, _, S6, q6⟩ := got
      exact plain S6 fun _ J7 => ⟨_, _, J7, q6⟩
    | cont =>
      obtain ⟨_, _, S6, q6⟩ := got
      exact plain S6 fun _ J7 => ⟨_, _, J7, q6⟩
    | ret v =>
      obtain ⟨_, _, _, S6, r6, q6⟩ := got
      exact plain S6 fun _ J7 => ⟨_, _, _, J7, r6, q6⟩
/-- try: body / except x as n: suite, the caught thing looked at behind -/
theorem ps_try_keep (hs : X.stack = X.env :: X.outer) (hf : X.env.frame = some X.env.locals) (hex : X.ex = []) (hN : X.N.Nodup) (hi : X.N[i]? = some n) (hln : X.env.kindOf n = some .local) (hc : Names X x c) (tk : Takes X Wout)
    (hb : ∀ (W : WX) (pn : List (Addr × Obj)) (xe : Value → Shared → Prop), Takes (X.tr pn xe) W → PassesOwn (model X.prog X.w) X.A X.env xe → PSs (X.tr pn xe) bd (tb W))
    (hsu : ∀ (a : Addr) (oe : Obj) (cls : Value) (d : Option Addr) (pn : List (Addr × Obj)), Zc cls d oe → (∃ vs, oe.data = .fields vs) → PSs (X.suite a ((a, oe) :: pn)) (s0 :: su) (ts a cls d)) :
    PS X (.Try bd [.ExceptHandler (some (.Name x np)) (some n) (s0 :: su) ps] [] [] pt) (fun D σ H => tb (wKeep X.K c i ts Wout D) D σ H) := by
  refine ⟨fun pins s σ H D I h => wpAny_Try_except ?_⟩
  have ok := I.ok
  refine wpAny_mono ((hb _ (X.pn ++ pins) _ (fun u t xx => keep_catch (pn' := []) hs hf hex hN hi hln hc tk hsu ok xx) PassesOwn.looking).run [] s σ H D (I.toTry _) h) (fun f t got => ?_) (fun _ _ z => z)
  cases f with
  | next =>
    obtain ⟨_, _, S, q⟩ := got
    exact wpAny_execs_nil ⟨_, _, S.ofTry ok, q⟩
  | brk =>
    obtain ⟨_, _, S, q⟩ := got
    exact ⟨_, _, S.ofTry ok, q⟩
  | cont =>
    obtain ⟨_, _, S, q⟩ := got
    exact ⟨_, _, S.ofTry ok, q⟩
  | ret v =>
    obtain ⟨_, _, _, S, r, q⟩ := got
    exact ⟨_, _, _, S.ofTry ok, r, q⟩
end
/-- a dict that is tracked, where there is one -/
def DxO (H : Hp) : Option Addr → Prop
  | none => True
  | some dd => ∃ fs, H dd = some (.xd fs)
theorem cg_inst {X : Cx} {pins : List (Addr × Obj)} {σ : L2.St} {H : Hp} {s : Shared} {a D : Addr} {d : Option Addr} (I : Inv X pins σ H s) (ha : H a = some (CgO (.ref D) d a)) (hd : DxO H d) : ∃ ox od, PySem.W.InstAt s.heap a ox D od := by
  obtain ⟨⟨oe, vs, g, z, q⟩, _⟩ := I.hok a _ ha
  have no : PySem.W.notCls oe = true := by unfold PySem.W.notCls; rw [q] <;> rfl
  cases d with
  | none => exact ⟨oe, none, g, z.1, no, by rw [z.2]; trivial⟩
  | some dd =>
    obtain ⟨fs, hf⟩ := hd
    obtain ⟨mA, hns, _⟩ : ∃ mA, s.heap.Ns1 dd mA ∧ ∀ f, RelO (fs.lookup f) (mA f) := I.hok dd _ hf
    obtain ⟨od, ho, _⟩ := lookIn_ns hns
    exact ⟨oe, some od, g, z.1, no, by rw [z.2]; exact ho⟩
/-- isinstance(caught, c) -/
def rIsK (K : PySem.W.Frag) : List V → Hp → VK → Prop := fun xs H Q => ∃ (a D : Addr) (d : Option Addr) (c : V) (cv : Value) (b : Bool),
  xs = [.ref a, c] ∧ H a = some (CgO (.ref D) d a) ∧ DxO H d ∧ ExcC K D ∧ (∀ u, RelV c u → u = cv) ∧ PySem.W.kitOne K (.ref D) cv = some b ∧ Q (.bl b) H
theorem call_isK {X : Cx} : CallR X (.builtin "isinstance") (rIsK X.K) := by
  intro pins s σ H xs us Q I r h
  obtain ⟨a, D, d, c, cv, b, rfl, ha, hd, C, hc, hk, q⟩ := h
  rcases r with _ | ⟨rx, r⟩
  rcases r with _ | ⟨rt, r⟩
  cases r
  cases rx
  obtain rfl := hc _ rt
  obtain ⟨ox, od, J⟩ := cg_inst I ha hd
  obtain ⟨cd, hcd, _⟩ := PySem.W.any_some C.hd
  exact PySem.W.kia_one (PySem.W.kitx_exc (by rw [hcd]; rfl) C.hg C.hk C.hs C.ha C.hn C.ht C.hm) I.kIn J hk (fun z => nomatch z) fun tk => ⟨.bl b, H, I.kept (t' := tk) fun _ _ z => z, rfl, q⟩
section
variable {X : Cx}
/-- caught.n -/
theorem pe_kf {C0 : Addr} {e : Expr} {te : TE} {pos : Pos} {n : Str} (T1 : XfC X.K C0) (hno : PySem.W.findIn X.K (.ref C0) n = some none) (he : PE X e te) (hb : attributeBase e n X.env (eval e X.env) = eval e X.env := by rfl) :
    PE X (.Attribute e n pos) (fun σ H Q => te σ H fun x H1 => ∃ (a dd : Addr) (fs : List (Str × V)) (v : V), x = .ref a ∧ H1 a = some (CgO (.ref C0) (some dd) a) ∧ H1 dd = some (.xd fs) ∧ fs.lookup n = some v ∧ Q v H1) := by
  refine ⟨fun pins s σ H Q I h => attr_of hb (thn (he.run pins s σ H _ I h) fun u s1 hh => ?_)⟩
  obtain ⟨x, H1, I1, rx, a, dd, fs, v, rfl, ha, hd, l, q⟩ := hh
  cases rx
  obtain ⟨⟨oe, vs, g, z, dv⟩, _⟩ := I1.hok a _ ha
  obtain ⟨mA, hns, hr⟩ : ∃ mA, s1.heap.Ns1 dd mA ∧ ∀ f, RelO (fs.lookup f) (mA f) := I1.hok dd _ hd
  obtain ⟨od, ho, hl⟩ := lookIn_ns hns
  obtain ⟨u2, hu, ru⟩ := RelO.some_of (v := v) (o := mA n) (by rw [← l]; exact hr n)
  have J : PySem.W.InstAt s1.heap a oe C0 (some od) := ⟨g, z.1, by unfold PySem.W.notCls; rw [dv] <;> rfl, by rw [z.2]; exact ho⟩
  exact HandSPX.exc_get I1.kIn J T1.ga T1.gg T1.exC (PySem.W.findObj_own T1.hdC hno rfl (by rw [hl, hu])) (handed_of ru) ⟨v, H1, I1.tok _, ru, q⟩
/-- X(), an own error without a word -/
theorem pmk_own0 {C : Addr} {bmB : List Value} {B newId initId : String} {x : Str} {p pos : Pos} (F : ExcBaseFacts B newId initId bmB) (q : PySem.W.excIn X.K C bmB newId = true) (gC : X.mg x = some (.ref C)) (kC : PySem.W.keepIn X.K (.ref C) = true) (r : Raises X (.ref C)) (hg : Gl X x)
    (hdb : (x == ("__debug__" : Str)) = false := by decide) : PMk X (.Call (.Name x p) [] [] pos) (fun _ H Q => Q (.ref C) none H) := by
  intro pins s σ H Q I h
  refine wpAny_Call_Name_kw (ld_glob I hg gC ?_ hdb)
  refine PySem.W.callWith_K0 I.kIn kC ?_
  obtain ⟨bm, N, nm, qn, bs, hdct, sn, sub, ab, col, dd, k0, k1, k2, k3, k5, mN, hC, hN, hni, T⟩ := exc_obj I.kIn q
  exact wpAny_call_exc_subT F T hC hN hni (fun h' e hm => mk_of I hm r h (I.hok.gone hm.new)) (Nat.zero_le _)
end
end Tl

set_option Elab.async false
set_option linter.all false
set_option maxRecDepth 100000
set_option maxHeartbeats 4000000
namespace Tl
open PySem PySem.Spec PyProof.Rows L2
theorem ints_get {xs : List Int} {its : List Value} (r : Vals (xs.map V.int) its) (i : Nat) (v : Value) (h : its.toArray[i]? = some v) : ∃ t, v = .int (xs.getD i 0) t := by
  have h' : its[i]? = some v := by simpa using h
  have hi : i < its.length := (List.getElem?_eq_some_iff.mp h').1
  have hl := r.length
  rw [List.length_map] at hl
  obtain ⟨u, hu, ru⟩ := r.get (i := i) (x := V.int (xs.getD i 0)) (by
    rw [List.getElem?_map, List.getElem?_eq_getElem (by omega), List.getD_eq_getElem?_getD, List.getElem?_eq_getElem (by omega)]
    rfl)
  rw [h'] at hu
  cases hu
  exact ru
/-- max(xs, default=d), numbers -/
def rMaxDf (K : PySem.W.Frag) : List V → List V → Hp → VK → Prop := fun vs zs H Q => ∃ (a : Addr) (ns : List Int) (d : Int), vs = [.ref a] ∧ zs = [.int d] ∧ SqL K H a (ns.map V.int) ∧
  (ns = [] → Q (.int d) H) ∧ ∀ m, m ∈ ns → (∀ y, y ∈ ns → y ≤ m) → Q (.int m) H
theorem ck_max {X : Cx} (hc : X.calm = true) : CallRK X (.builtin "max") [Str.ofString "default"] (rMaxDf X.K) := by
  intro pins s σ H vs zs us ws Q I r rz h
  obtain ⟨a, ns, d, rfl, rfl, hs, q0, q1⟩ := h
  obtain ⟨its, rv, hl, _⟩ := I.list hs
  rw [Vals.ref1 r]
  rcases rz with _ | ⟨rd, rz⟩
  cases rz
  rename_i dv
  have hlen : ns.length = its.length := by
    have := rv.length
    rwa [List.length_map] at this
  show wpAny _ _ (call (.builtin "max") [.ref a] [(Str.ofString "default", dv)]) _ _ _
  refine call_max_walkD (PySem.W.iter_listW (A := X.A.in1) (I.ok.hd hc) hl.isList fun s₂ e W st hfp hw hk => ?_)
  refine ⟨_, _, _, _, _, _, _, s.heap, (fun i j => decide (ns.getD i 0 > ns.getD j 0)), rfl, W, st, hfp, hw, hk, fun hz s' m => ?_, fun hp => ⟨fun i j vi vj t Q' E' _ hi hj q => ?_, fun v s' hP m => ?_⟩⟩
  · obtain ⟨h', tk, rfl, hk'⟩ := PySem.W.moved_old e rfl m
    have : ns = [] := List.eq_nil_of_length_eq_zero (by rw [hlen]; simpa using hz)
    exact ⟨.int d, H, I.kept hk', rd, q0 this⟩
  · exact CmpOf.ints_gt (fun i => ns.getD i 0) (fun k v h => ints_get rv k v h) i j vi vj t Q' E' hi hj q
  · obtain ⟨h', tk, rfl, hk'⟩ := PySem.W.moved_old e rfl m
    obtain ⟨t, rfl⟩ := ints_get rv _ _ hP
    obtain ⟨b1, b2⟩ := argBest_gt (fun i => ns.getD i 0) (its.toArray.size - 1)
    have hp' : 0 < its.length := by simpa using hp
    refine ⟨.int _, H, I.kept hk', ⟨t, rfl⟩, q1 _ ?_ fun y hy => ?_⟩
    · exact PySem.getD_mem (by have sz : its.toArray.size = its.length := by simp
                               omega)
    · obtain ⟨j, hj, rfl⟩ := mem_getD hy
      exact b2 j (by simp; omega)
end Tl

set_option Elab.async false
set_option linter.all false
set_option maxRecDepth 100000
set_option maxHeartbeats 8000000
namespace Tl
open PySem L2
abbrev sPartAt : Stmt := top 30
theorem trD_node : ∀ {n : Nat} {d : PyData}, TrD n d → ∃ (s : Str) (ks : List PyData), d = .tuple [.str s, .tuple ks] ∧ tagOk s ∧ ∀ k ∈ ks, TrD (n - 1) k
  | _ + 1, _, h => h
/-- what part_at tells -/
def spPartAt (K : PySem.W.Frag) : Sp := fun vs H Q _ => ∃ (F : Hp) (v : V) (d : PyData) (p : V) (q : List Nat) (n : Nat), vs = [v, p] ∧ Same F H ∧ Dp K F v d ∧ TrD n d ∧ Dp K F p (pathD q) ∧
  (∀ r e, sub d q = some e → Dp K F r e → Q r H) ∧ (sub d q = none → Q .non H)
section
variable {P : Program} {w : World} {K : PySem.W.Frag} {mg : Str → Option Value} {base : Heap}
theorem scPartAt : FnScope ["tree", "path", "part", "step"] ["tree", "path"] (defScope sPartAt) := ⟨rfl, rfl, rfl, by decide +kernel, rfl, by decide +kernel, by decide +kernel⟩
theorem ok_partAt {f : Addr} {fd : FuncData} {k : Nat} (F : Fun K "part_at" "part_at" sPartAt f fd) (T : Bl mg) : FnOk P w K mg base CX0 (k + 1) f fd ["tree", "path"] (spPartAt K) := by
  refine F.ok scPartAt (fun vs H Q E h => ?_) (fun cdv A outer s H vs Q E hr h => ?_)
  · obtain ⟨_, _, _, _, _, _, rfl, _⟩ := h
    rfl
  obtain ⟨Fd, v, d, p, q, n, rfl, hF, hv, htr, hp, k1, k2⟩ := h
  refine ⟨_, (pss_cons (ps_set (i := 2) scPartAt.nd rfl (.inl rfl) (pv 0))
    (pss_cons (ps_for PassesOwn.never rfl (pi_tup (pv 1)) (pg_name (i := 3) scPartAt.nd rfl (.inl rfl)) (pss_cons (ps_if (pt_cmpR op_ge (pv 3) (pe_callB call_len_seq (by rfl) T.len PySem.boot_len (pa_cons (pe_ix ix_tup (pv 2) pe_int (fun _ _ => rfl)) pa_nil)) (nomark _)) (pss_one (ps_ret pe_non)) pss_nil)
      (pss_one (ps_set (i := 2) scPartAt.nd rfl (.inl rfl) (pe_ix ix_tup (pe_ix ix_tup (pv 2) pe_int (fun _ _ => rfl)) (pv 3) (fun _ _ => rfl))))))
    (pss_one (ps_ret (pv 2))))), ?_⟩
  obtain ⟨a, rfl, ha⟩ := dp_path hp
  refine ⟨_, rfl, _, rfl, a, rfl, ⟨_, same_t hF ha⟩, ?_⟩
  refine for_tup (xs := q.map fun (n : Nat) => V.int (n : Int)) (fun i σ H2 => ∃ (v' : V) (d' : PyData) (y : Option V) (m : Nat), σ = [some v, some (.ref a), some v', y] ∧ H2 = H ∧ Dp K Fd v' d' ∧ TrD m d' ∧ sub d q = sub d' (q.drop i)) ⟨v, d, none, n, rfl, rfl, hv, htr, rfl⟩ (fun i σ H2 _ p => ?_) (fun i x σ H2 hx p => ?_) (fun σ H2 p => ?_)
  · obtain ⟨_, _, _, _, _, rfl, _⟩ := p
    exact same_t hF ha
  · obtain ⟨v', d', y, m, rfl, rfl, hv', ht', hs⟩ := p
    rw [List.getElem?_map] at hx
    obtain ⟨n', hn, rfl⟩ := Option.map_eq_some_iff.mp hx
    obtain ⟨hi, rfl⟩ := List.getElem?_eq_some_iff.mp hn
    rw [List.drop_eq_getElem_cons hi] at hs
    obtain ⟨s0, ks, rfl, hs0, hks⟩ := trD_node ht'
    cases hv' with
    | @tup b xs _ hb hx2 =>
    obtain ⟨x0, y0, _, _, rfl, h00, h1, h2⟩ := DpAll.two hx2 (DpAll.len hx2)
    cases h00
    cases h2 with
    | @tup c ys _ hc hy =>
    have hly := DpAll.len hy
    refine ⟨_, rfl, _, rfl, b, _, 1, _, rfl, rfl, same_t hF hb, atI_nat (j := 1) rfl, c, ys, rfl, .inr (same_t hF hc), _, _, rfl, rfl, _, rfl, ?_⟩
    refine iteD (fun cc => ?_) (fun cc => ?_)
    · refine k2 ?_
      rw [hs, sub, List.getElem?_eq_none (by omega)]
    · have lt : q[i] < ks.length := by omega
      obtain ⟨kd, hk⟩ : ∃ kd, ks[q[i]]? = some kd := ⟨_, List.getElem?_eq_getElem lt⟩
      obtain ⟨kv, hkv, hkd⟩ := DpAll.got hy hk
      refine ⟨_, rfl, b, _, 1, _, rfl, rfl, same_t hF hb, atI_nat (j := 1) rfl, _, rfl, c, ys, _, kv, rfl, rfl, same_t hF hc, atI_nat hkv, ?_⟩
      refine ⟨kv, kd, _, _, rfl, rfl, hkd, hks kd (List.mem_of_getElem? hk), ?_⟩
      rw [hs, sub, hk]
  · obtain ⟨v', d', y, m, rfl, rfl, hv', ht', hs⟩ := p
    rw [List.length_map, List.drop_length, sub] at hs
    exact ⟨_, rfl, k1 _ _ hs hv'⟩
end
end Tl

set_option Elab.async false
set_option linter.all false
set_option maxRecDepth 100000
set_option maxHeartbeats 8000000
namespace Tl
open PySem L2
abbrev sCntPlaces : Stmt := top 28
abbrev sCntLevels : Stmt := top 29
abbrev sLevels : Stmt := top 39
/-! ### places and levels of a datum -/
mutual
def plc : PyData → List (List Nat)
  | .tuple [_, .tuple ks] => [] :: plcAll 0 ks
  | _ => [[]]
def plcAll : Nat → List PyData → List (List Nat)
  | _, [] => []
  | i, k :: ks => (plc k).map (i :: ·) ++ plcAll (i + 1) ks
end
mutual
def lev : PyData → Nat
  | .tuple [_, .tuple ks] => 1 + levAll ks
  | _ => 1
def levAll : List PyData → Nat
  | [] => 0
  | k :: ks => max (lev k) (levAll ks)
end
theorem plcAll_len : ∀ (i : Nat) (ks : List PyData), ((plcAll i ks).length : Int) = (ks.map fun k => ((plc k).length : Int)).sum
  | _, [] => by rw [plcAll]; rfl
  | i, k :: ks => by
    rw [plcAll, List.length_append, List.length_map, List.map_cons, List.sum_cons, ← plcAll_len (i + 1) ks]
    omega
theorem levAll_ge : ∀ {ks : List PyData} {k : PyData}, k ∈ ks → lev k ≤ levAll ks
  | k' :: ks, k, h => by
    rw [levAll]
    rcases List.mem_cons.mp h with rfl | h
    · omega
    · have := levAll_ge h
      omega
theorem levAll_is : ∀ (ks : List PyData), ks ≠ [] → ∃ k ∈ ks, lev k = levAll ks
  | [k], _ => ⟨k, List.mem_singleton.mpr rfl, by rw [levAll, levAll]; omega⟩
  | k :: k2 :: ks, _ => by
    obtain ⟨k', h1, h2⟩ := levAll_is (k2 :: ks) (List.cons_ne_nil _ _)
    rw [levAll]
    by_cases c : lev k ≤ levAll (k2 :: ks)
    · exact ⟨k', .tail _ h1, by omega⟩
    · exact ⟨k, .head _, by omega⟩
theorem len_wtAll : ∀ ks : List PyData, ks.length ≤ wtAll ks
  | [] => Nat.zero_le _
  | k :: ks => by
    have := len_wtAll ks
    rw [wtAll, List.length_cons]
    omega
theorem wt_mem' : ∀ {ks : List PyData} {k : PyData}, k ∈ ks → wt k + 2 ≤ wtAll ks
  | k' :: ks, k, h => by
    rw [wtAll]
    rcases List.mem_cons.mp h with rfl | h
    · omega
    · have := wt_mem' h
      omega
/-- a number is told of a tree -/
def spNum (K : PySem.W.Frag) (g : PyData → Nat) (n : Nat) : Sp := fun vs H Q _ => ∃ (F : Hp) (v : V) (d : PyData), vs = [v] ∧ Same F H ∧ Dp K F v d ∧ TrD n d ∧ wt d ≤ 100000 ∧ ∀ H', Same H H' → Q (.int (g d : Nat)) H'
section
variable {P : Program} {w : World} {K : PySem.W.Frag} {mg : Str → Option Value} {base : Heap}
theorem scCntPlaces : FnScope ["tree", "kid"] ["tree"] (defScope sCntPlaces) := ⟨rfl, rfl, rfl, by decide +kernel, rfl, by decide +kernel, by decide +kernel⟩
theorem ok_cntPlaces1 {f : Addr} {fd : FuncData} {n : Nat} (F : Fun K "count_places" "count_places" sCntPlaces f fd) (Ucount_places : Use P w K mg base "count_places" ["tree"] n (spNum K (fun d => (plc d).length) n)) (T : Bl mg) (mS : mg "sum" = none) :
    FnOk P w K mg base CX0 (n + 1) f fd ["tree"] (spNum K (fun d => (plc d).length) (n + 1)) := by
  refine F.ok scCntPlaces (fun vs H Q E h => ?_) (fun cdv A outer s H vs Q E hr h => ?_)
  · obtain ⟨_, _, _, rfl, _⟩ := h
    rfl
  obtain ⟨Fd, v, d, rfl, hF, hv, htr, hw, k1⟩ := h
  refine ⟨_, (pss_one (ps_ret (pe_op op_add pe_int (pe_callB (cr_sum rfl) (by rfl) mS PyProof.Rows.boot_sum (pa_cons (pe_lc (own := [("kid", 1)]) (g := gName 1) (tt := tYes) (by rfl) scCntPlaces.nd (pi_tup (pe_ix ix_tup (pv 0) pe_int (fun _ _ => rfl))) (blkOk_by (N := ["tree", "kid"]) (sc := defScope sCntPlaces) (own := [("kid", 1)]) (by decide +kernel)) (fun _ _ _ _ _ => pg_name (i := 1) scCntPlaces.nd rfl (Or.inl rfl)) (fun _ _ _ _ _ => pts_nil) (fun _ _ _ _ _ => (pe_call Ucount_places.ok (hr.mono (by omega)) rfl Ucount_places.m Ucount_places.kp Ucount_places.b .nil pass0 (pa_cons (pv 1) pa_nil)))) pa_nil))))), ?_⟩
  obtain ⟨s0, ks, rfl, hs0, hks⟩ := htr
  cases hv with
  | @tup b xs _ hb hx2 =>
  obtain ⟨x0, y0, _, _, rfl, h00, h1, h2⟩ := DpAll.two hx2 (DpAll.len hx2)
  cases h00
  cases h2 with
  | @tup c ys _ hc hy =>
  have hly : ys.length = ks.length := DpAll.len hy
  rw [wt_node] at hw
  have hlw := len_wtAll ks
  dsimp only [tC]
  refine ⟨_, rfl, b, _, 1, _, rfl, rfl, same_t hF hb, atI_nat (j := 1) rfl, c, rfl, ⟨_, same_t hF hc⟩, fun D hD => ?_⟩
  refine lc_pure (n := ys.length) (G := fun H => SqT K H c ys) fn_tup (fun _ => true) (fun i => .int (((plc (ks.getD i .none)).length : Nat) : Int)) (fun _ e => same_t (hF.trans e) hc) (by omega) (fun x => rfl) hD (fun i H3 _ _ Qt k => k H3 (Same.refl _)) (fun i H3 hi _ e3 Qe k => ?_) (fun H2 e2 h2' => ?_)
  · obtain ⟨kd, hk, hkd⟩ := DpAll.get hy (List.getElem?_eq_getElem hi)
    have e1 : ys.getD i .non = ys[i] := by rw [List.getD_eq_getElem?_getD, List.getElem?_eq_getElem hi]; rfl
    have e2 : ks.getD i .none = kd := by rw [List.getD_eq_getElem?_getD, hk]; rfl
    have hwk : wt kd + 2 ≤ wtAll ks := wt_mem' (List.mem_of_getElem? hk)
    refine ⟨_, rfl, Fd, ys[i], kd, by rw [e1]; rfl, hF.trans e3, hkd, hks kd (List.mem_of_getElem? hk), by omega, fun H4 e4 => ?_⟩
    have := k H4 e4
    rw [e2] at this
    exact this
  · rw [hly, picked_all ks .none (fun k => V.int (((plc k).length : Nat) : Int))] at h2'
    refine ⟨D, ks.map (fun k => (((plc k).length : Nat) : Int)), rfl, ?_, _, _, rfl, rfl, ?_⟩
    · rw [List.map_map]
      exact SqL.of h2'
    · have := k1 H2 e2
      dsimp only at this
      rw [plc, List.length_cons] at this
      have e := plcAll_len 0 ks
      rw [← e]
      show Q (V.int (1 + ((plcAll 0 ks).length : Int))) H2
      rw [Int.add_comm]
      exact this
theorem ok_cntPlaces {f : Addr} {fd : FuncData} (F : Fun K "count_places" "count_places" sCntPlaces f fd) (mF : mg "count_places" = some (.ref f)) (T : Bl mg) (mS : mg "sum" = none) : ∀ n, FnOk P w K mg base CX0 n f fd ["tree"] (spNum K (fun d => (plc d).length) n)
  | 0 => by
    have no : ∀ vs H Q E, ¬ spNum K (fun d => (plc d).length) 0 vs H Q E := fun vs H Q E h => by
      obtain ⟨_, _, _, _, _, _, h, _⟩ := h
      exact h
    exact ⟨fun vs H Q E h => absurd h (no vs H Q E), fun A outer s H args us vs Q E _ _ _ _ h => absurd h (no vs H Q E)⟩
  | n + 1 => ok_cntPlaces1 F ⟨f, fd, ok_cntPlaces F mF T mS n, mF, F.kp, F.binds (ps := ["tree"]) fun _ _ _ _ _ _ us hl => match us, hl with | [_], _ => rfl⟩ T mS
theorem scCntLevels : FnScope ["tree", "kid"] ["tree"] (defScope sCntLevels) := ⟨rfl, rfl, rfl, by decide +kernel, rfl, by decide +kernel, by decide +kernel⟩
theorem ok_cntLevels1 {f : Addr} {fd : FuncData} {n : Nat} (F : Fun K "count_levels" "count_levels" sCntLevels f fd) (Ucount_levels : Use P w K mg base "count_levels" ["tree"] n (spNum K lev n)) (T : Bl mg) :
    FnOk P w K mg base CX0 (n + 1) f fd ["tree"] (spNum K lev (n + 1)) := by
  refine F.ok scCntLevels (fun vs H Q E h => ?_) (fun cdv A outer s H vs Q E hr h => ?_)
  · obtain ⟨_, _, _, rfl, _⟩ := h
    rfl
  obtain ⟨Fd, v, d, rfl, hF, hv, htr, hw, k1⟩ := h
  refine ⟨_, (pss_one (ps_ret (pe_op op_add pe_int (pe_callBK (ck_max rfl) (by rfl) T.max PyProof.Rows.boot_max (pa_cons (pe_lc (own := [("kid", 1)]) (g := gName 1) (tt := tYes) (by rfl) scCntLevels.nd (pi_tup (pe_ix ix_tup (pv 0) pe_int (fun _ _ => rfl))) (blkOk_by (N := ["tree", "kid"]) (sc := defScope sCntLevels) (own := [("kid", 1)]) (by decide +kernel)) (fun _ _ _ _ _ => pg_name (i := 1) scCntLevels.nd rfl (Or.inl rfl)) (fun _ _ _ _ _ => pts_nil) (fun _ _ _ _ _ => (pe_call Ucount_levels.ok (hr.mono (by omega)) rfl Ucount_levels.m Ucount_levels.kp Ucount_levels.b .nil pass0 (pa_cons (pv 1) pa_nil)))) pa_nil) (pk_cons pe_int pk_nil))))), ?_⟩
  obtain ⟨s0, ks, rfl, hs0, hks⟩ := htr
  cases hv with
  | @tup b xs _ hb hx2 =>
  obtain ⟨x0, y0, _, _, rfl, h00, h1, h2⟩ := DpAll.two hx2 (DpAll.len hx2)
  cases h00
  cases h2 with
  | @tup c ys _ hc hy =>
  have hly : ys.length = ks.length := DpAll.len hy
  rw [wt_node] at hw
  have hlw := len_wtAll ks
  dsimp only [tC]
  refine ⟨_, rfl, b, _, 1, _, rfl, rfl, same_t hF hb, atI_nat (j := 1) rfl, c, rfl, ⟨_, same_t hF hc⟩, fun D hD => ?_⟩
  refine lc_pure (n := ys.length) (G := fun H => SqT K H c ys) fn_tup (fun _ => true) (fun i => .int ((lev (ks.getD i .none) : Nat) : Int)) (fun _ e => same_t (hF.trans e) hc) (by omega) (fun x => rfl) hD (fun i H3 _ _ Qt k => k H3 (Same.refl _)) (fun i H3 hi _ e3 Qe k => ?_) (fun H2 e2 h2' => ?_)
  · obtain ⟨kd, hk, hkd⟩ := DpAll.get hy (List.getElem?_eq_getElem hi)
    have e1 : ys.getD i .non = ys[i] := by rw [List.getD_eq_getElem?_getD, List.getElem?_eq_getElem hi]; rfl
    have e2 : ks.getD i .none = kd := by rw [List.getD_eq_getElem?_getD, hk]; rfl
    have hwk : wt kd + 2 ≤ wtAll ks := wt_mem' (List.mem_of_getElem? hk)
    refine ⟨_, rfl, Fd, ys[i], kd, by rw [e1]; rfl, hF.trans e3, hkd, hks kd (List.mem_of_getElem? hk), by omega, fun H4 e4 => ?_⟩
    have := k H4 e4
    rw [e2] at this
    exact this
  · rw [hly, picked_all ks .none (fun k => V.int ((lev k : Nat) : Int))] at h2'
    have fin : ∀ m : Int, m = (levAll ks : Nat) → Q (V.int (1 + m)) H2 := fun m hm => by
      have := k1 H2 e2
      rw [lev] at this
      rw [hm]
      exact this
    dsimp only [tC]
    refine ⟨D, ks.map (fun k => ((lev k : Nat) : Int)), 0, rfl, rfl, ?_, fun hn => ?_, fun m hm hmax => ?_⟩
    · rw [List.map_map]
      exact SqL.of h2'
    · refine ⟨_, _, rfl, rfl, fin 0 ?_⟩
      rw [List.map_eq_nil_iff.mp hn, levAll]
      rfl
    · refine ⟨_, _, rfl, rfl, fin m ?_⟩
      obtain ⟨k, hk, rfl⟩ := List.mem_map.mp hm
      obtain ⟨k', hk', e⟩ := levAll_is ks (List.ne_nil_of_mem hk)
      have h1 := levAll_ge hk
      have h2 := hmax _ (List.mem_map.mpr ⟨k', hk', rfl⟩)
      omega
theorem ok_cntLevels {f : Addr} {fd : FuncData} (F : Fun K "count_levels" "count_levels" sCntLevels f fd) (mF : mg "count_levels" = some (.ref f)) (T : Bl mg) : ∀ n, FnOk P w K mg base CX0 n f fd ["tree"] (spNum K lev n)
  | 0 => by
    have no : ∀ vs H Q E, ¬ spNum K lev 0 vs H Q E := fun vs H Q E h => by
      obtain ⟨_, _, _, _, _, _, h, _⟩ := h
      exact h
    exact ⟨fun vs H Q E h => absurd h (no vs H Q E), fun A outer s H args us vs Q E _ _ _ _ h => absurd h (no vs H Q E)⟩
  | n + 1 => ok_cntLevels1 F ⟨f, fd, ok_cntLevels F mF T n, mF, F.kp, F.binds (ps := ["tree"]) fun _ _ _ _ _ _ us hl => match us, hl with | [_], _ => rfl⟩ T
theorem scLevels : FnScope ["_law_tree_here", "_law_kid"] ["_law_tree_here"] (defScope sLevels) := ⟨rfl, rfl, rfl, by decide +kernel, rfl, by decide +kernel, by decide +kernel⟩
theorem ok_levels1 {f : Addr} {fd : FuncData} {n : Nat} (F : Fun K "_law_levels" "_law_levels" sLevels f fd) (U_law_levels : Use P w K mg base "_law_levels" ["_law_tree_here"] n (spNum K lev n)) (T : Bl mg) :
    FnOk P w K mg base CX0 (n + 1) f fd ["_law_tree_here"] (spNum K lev (n + 1)) := by
  refine F.ok scLevels (fun vs H Q E h => ?_) (fun cdv A outer s H vs Q E hr h => ?_)
  · obtain ⟨_, _, _, rfl, _⟩ := h
    rfl
  obtain ⟨Fd, v, d, rfl, hF, hv, htr, hw, k1⟩ := h
  refine ⟨_, (pss_one (ps_ret (pe_op op_add pe_int (pe_callB (cr_max rfl) (by rfl) T.max PyProof.Rows.boot_max (pa_cons (pe_op op_cat (pe_lst (pa_cons pe_int pa_nil)) (pe_lc (own := [("_law_kid", 1)]) (g := gName 1) (tt := tYes) (by rfl) scLevels.nd (pi_tup (pe_ix ix_tup (pv 0) pe_int (fun _ _ => rfl))) (blkOk_by (N := ["_law_tree_here", "_law_kid"]) (sc := defScope sLevels) (own := [("_law_kid", 1)]) (by decide +kernel)) (fun _ _ _ _ _ => pg_name (i := 1) scLevels.nd rfl (Or.inl rfl)) (fun _ _ _ _ _ => pts_nil) (fun _ _ _ _ _ => (pe_call U_law_levels.ok (hr.mono (by omega)) rfl U_law_levels.m U_law_levels.kp U_law_levels.b .nil pass0 (pa_cons (pv 1) pa_nil))))) pa_nil))))), ?_⟩
  obtain ⟨s0, ks, rfl, hs0, hks⟩ := htr
  cases hv with
  | @tup b xs _ hb hx2 =>
  obtain ⟨x0, y0, _, _, rfl, h00, h1, h2⟩ := DpAll.two hx2 (DpAll.len hx2)
  cases h00
  cases h2 with
  | @tup c ys _ hc hy =>
  have hly : ys.length = ks.length := DpAll.len hy
  rw [wt_node] at hw
  have hlw := len_wtAll ks
  dsimp only [tC]
  refine ⟨by show 1 ≤ sizeLine; decide, fun z0 hz0 => ?_⟩
  have s0' := same_new (o := HO.lst [V.int 0]) hz0
  have hz : (upd H z0 (HO.lst [V.int 0])) z0 = some (.lst [V.int 0]) := upd_same
  generalize upd H z0 (HO.lst [V.int 0]) = H0 at s0' hz
  have hF0 := hF.trans s0'
  refine ⟨_, rfl, b, _, 1, _, rfl, rfl, same_t hF0 hb, atI_nat (j := 1) rfl, c, rfl, ⟨_, same_t hF0 hc⟩, fun D hD => ?_⟩
  refine lc_pure (n := ys.length) (G := fun H => SqT K H c ys) fn_tup (fun _ => true) (fun i => .int ((lev (ks.getD i .none) : Nat) : Int)) (fun _ e => same_t (hF0.trans e) hc) (by omega) (fun x => rfl) hD (fun i H3 _ _ Qt k => k H3 (Same.refl _)) (fun i H3 hi _ e3 Qe k => ?_) (fun H2 e2 h2' => ?_)
  · obtain ⟨kd, hk, hkd⟩ := DpAll.get hy (List.getElem?_eq_getElem hi)
    have e1 : ys.getD i .non = ys[i] := by rw [List.getD_eq_getElem?_getD, List.getElem?_eq_getElem hi]; rfl
    have e2 : ks.getD i .none = kd := by rw [List.getD_eq_getElem?_getD, hk]; rfl
    have hwk : wt kd + 2 ≤ wtAll ks := wt_mem' (List.mem_of_getElem? hk)
    refine ⟨_, rfl, Fd, ys[i], kd, by rw [e1]; rfl, hF0.trans e3, hkd, hks kd (List.mem_of_getElem? hk), by omega, fun H4 e4 => ?_⟩
    have := k H4 e4
    rw [e2] at this
    exact this
  · rw [hly, picked_all ks .none (fun k => V.int ((lev k : Nat) : Int))] at h2'
    have hz2 := e2 _ _ hz
    refine ⟨z0, D, _, _, rfl, rfl, hz2, h2', ?_, fun p hp => ?_⟩
    · rw [List.length_map]
      exact Nat.le_trans (show 1 + ks.length ≤ 200000 by omega) (by decide)
    have s3 := same_new (o := HO.lst ([V.int 0] ++ ks.map fun k => V.int ((lev k : Nat) : Int))) hp
    refine ⟨p, 0 :: ks.map (fun k => ((lev k : Nat) : Int)), rfl, ?_, by simp, fun m hm hmax => ⟨_, _, rfl, rfl, ?_⟩⟩
    · rw [List.map_cons, List.map_map]
      exact SqL.of upd_same
    · have := k1 _ ((s0'.trans e2).trans s3)
      rw [lev] at this
      have e : m = ((levAll ks : Nat) : Int) := by
        rcases List.mem_cons.mp hm with rfl | hm
        · have h0 : levAll ks = 0 := by
            by_cases c0 : ks = []
            · rw [c0, levAll]
            · obtain ⟨k', hk', e⟩ := levAll_is ks c0
              have h2 := hmax _ (.tail _ (List.mem_map.mpr ⟨k', hk', rfl⟩))
              omega
          rw [h0]
          rfl
        · obtain ⟨k, hk, rfl⟩ := List.mem_map.mp hm
          obtain ⟨k', hk', e⟩ := levAll_is ks (List.ne_nil_of_mem hk)
          have h1 := levAll_ge hk
          have h2 := hmax _ (.tail _ (List.mem_map.mpr ⟨k', hk', rfl⟩))
          omega
      rw [e]
      exact this
theorem ok_levels {f : Addr} {fd : FuncData} (F : Fun K "_law_levels" "_law_levels" sLevels f fd) (mF : mg "_law_levels" = some (.ref f)) (T : Bl mg) : ∀ n, FnOk P w K mg base CX0 n f fd ["_law_tree_here"] (spNum K lev n)
  | 0 => by
    have no : ∀ vs H Q E, ¬ spNum K lev 0 vs H Q E := fun vs H Q E h => by
      obtain ⟨_, _, _, _, _, _, h, _⟩ := h
      exact h
    exact ⟨fun vs H Q E h => absurd h (no vs H Q E), fun A outer s H args us vs Q E _ _ _ _ h => absurd h (no vs H Q E)⟩
  | n + 1 => ok_levels1 F ⟨f, fd, ok_levels F mF T n, mF, F.kp, F.binds (ps := ["_law_tree_here"]) fun _ _ _ _ _ _ us hl => match us, hl with | [_], _ => rfl⟩ T
end
end Tl

set_option Elab.async false
set_option linter.all false
set_option maxRecDepth 100000
set_option maxHeartbeats 8000000
namespace Tl
open PySem L2
abbrev sPathsFrom : Stmt := top 31
abbrev sPlaces : Stmt := top 37
theorem plcAll_snoc : ∀ (i : Nat) (ks : List PyData) (k : PyData), plcAll i (ks ++ [k]) = plcAll i ks ++ (plc k).map ((i + ks.length) :: ·)
  | i, [], k => by rw [List.nil_append, plcAll, plcAll, plcAll, List.append_nil]; rfl
  | i, k' :: ks, k => by
    rw [List.cons_append, plcAll, plcAll, plcAll_snoc (i + 1) ks k, List.append_assoc, List.length_cons, show i + 1 + ks.length = i + (ks.length + 1) by omega]
theorem plcAll_le : ∀ (i : Nat) (ks : List PyData), (∀ k ∈ ks, (plc k).length ≤ wt k) → (plcAll i ks).length ≤ wtAll ks
  | _, [], _ => by rw [plcAll]; exact Nat.zero_le _
  | i, k :: ks, h => by
    rw [plcAll, List.length_append, List.length_map, wtAll]
    have h1 := h k (.head _)
    have h2 := plcAll_le (i + 1) ks fun k' hk => h k' (.tail _ hk)
    omega
theorem plc_le : ∀ {n : Nat} {d : PyData}, TrD n d → (plc d).length ≤ wt d
  | n + 1, _, ⟨s, ks, rfl, _, h⟩ => by
    rw [plc, wt_node, List.length_cons]
    have := plcAll_le 0 ks fun k hk => plc_le (h k hk)
    omega
/-- all places beneath a place are told, in a new list -/
def spPl (K : PySem.W.Frag) (n : Nat) : Sp := fun vs H Q _ => ∃ (F : Hp) (v : V) (d : PyData) (p : V) (pre : List Nat), vs = [v, p] ∧ Same F H ∧ Dp K F v d ∧ TrD n d ∧ Dp K F p (pathD pre) ∧ wt d ≤ 100000 ∧ pre.length ≤ 1000 - n ∧ n ≤ 900 ∧
  ∀ (a : Addr) (xs : List V) (F' H' : Hp), Gw F H F' H' → H' a = some (.lst xs) → H a = none → F' a = none → DpAll K F' xs (((plc d).map (pre ++ ·)).map pathD) → Q (.ref a) H'
section
variable {P : Program} {w : World} {K : PySem.W.Frag} {mg : Str → Option Value} {base : Heap}
/-- one more kid's places -/
theorem plc_step {ks : List PyData} {i : Nat} {kd : PyData} {pre : List Nat} (hk : ks[i]? = some kd) :
    ((pre :: (plcAll 0 (ks.take i)).map (pre ++ ·)).map pathD) ++ (((plc kd).map ((pre ++ [i]) ++ ·)).map pathD) = (pre :: (plcAll 0 (ks.take (i + 1))).map (pre ++ ·)).map pathD := by
  have hi := (List.getElem?_eq_some_iff.mp hk).1
  rw [List.take_add_one, hk]
  show _ = (pre :: (plcAll 0 (ks.take i ++ [kd])).map (pre ++ ·)).map pathD
  rw [plcAll_snoc, ← List.map_append, List.cons_append, List.map_append, List.map_map, List.length_take, Nat.min_eq_left (by omega)]
  congr 3
  refine List.map_congr_left fun q _ => ?_
  simp
theorem scPlaces : FnScope ["_law_tree_here", "_law_path", "_law_found", "_law_at", "_law_kid"] ["_law_tree_here", "_law_path"] (defScope sPlaces) := ⟨rfl, rfl, rfl, by decide +kernel, rfl, by decide +kernel, by decide +kernel⟩
theorem ok_pl1 {f : Addr} {fd : FuncData} {n : Nat} (F : Fun K "_law_places" "_law_places" sPlaces f fd) (U_law_places : Use P w K mg base "_law_places" ["_law_tree_here", "_law_path"] n (spPl K n)) (T : Bl mg) :
    FnOk P w K mg base CX0 (n + 1) f fd ["_law_tree_here", "_law_path"] (spPl K (n + 1)) := by
  refine F.ok scPlaces (fun vs H Q E h => ?_) (fun cdv A outer s H vs Q E hr h => ?_)
  · obtain ⟨_, _, _, _, _, rfl, _⟩ := h
    rfl
  obtain ⟨Fd, v, d, p, pre, rfl, hF, hv, htr, hp, hw, hpl, hn9, k⟩ := h
  refine ⟨_, (pss_cons (ps_set (i := 2) scPlaces.nd rfl (.inl rfl) (pe_lst (pa_cons (pv 1) pa_nil)))
    (pss_cons (ps_for PassesOwn.never rfl (pi_enumT (by rfl) T.enum (pa_cons (pe_ix ix_tup (pv 0) pe_int (fun _ _ => rfl)) pa_nil)) (pg_tup rfl (pgs_cons (pg_name (i := 3) scPlaces.nd rfl (.inl rfl)) (pgs_cons (pg_name (i := 4) scPlaces.nd rfl (.inl rfl)) pgs_nil))) (pss_one (ps_set (i := 2) scPlaces.nd rfl (.inl rfl) (pe_op op_cat (pv 2) (pe_call U_law_places.ok (hr.mono (by omega)) rfl U_law_places.m U_law_places.kp U_law_places.b .nil pass0 (pa_cons (pv 4) (pa_cons (pe_op op_catA (pv 1) (pe_tup (pa_cons (pv 3) pa_nil))) pa_nil)))))))
    (pss_one (ps_ret (pv 2))))), ?_⟩
  obtain ⟨s0, ks, rfl, hs0, hks⟩ := htr
  cases hv with
  | @tup b xs _ hb hx2 =>
  obtain ⟨x0, y0, _, _, rfl, h00, h1, h2⟩ := DpAll.two hx2 (DpAll.len hx2)
  cases h00
  cases h2 with
  | @tup c ys _ hc hy =>
  have hly : ys.length = ks.length := DpAll.len hy
  rw [wt_node] at hw
  have hle : ∀ i, (plcAll 0 (ks.take i)).length ≤ wtAll ks := fun i => by
    have h1 := plcAll_le 0 (ks.take i) fun k hk => plc_le (hks k (List.mem_of_mem_take hk))
    have h2 : wtAll (ks.take i) ≤ wtAll ks := by
      conv => rhs; rw [← List.take_append_drop i ks, wtAll_app]
      omega
    omega
  refine ⟨_, rfl, by show 1 ≤ sizeLine; decide, fun l hl => ?_⟩
  have g1 : Gw Fd H Fd (upd H l (.lst [p])) := Gw.temp hF hl
  refine ⟨_, rfl, b, _, 1, _, rfl, rfl, same_t (hF.trans g1.hh) hb, atI_nat (j := 1) rfl, c, ys, rfl, same_t (hF.trans g1.hh) hc, ?_⟩
  refine for_it (walk_enumT (xs := ys)) (fun i σ H2 => ∃ (fa : Addr) (zs : List V) (F2 : Hp) (y1 y2 : Option V), σ = [some (.ref b), some p, some (.ref fa), y1, y2] ∧ Gw Fd H F2 H2 ∧ H2 fa = some (.lst zs) ∧ H fa = none ∧ F2 fa = none ∧
      DpAll K F2 zs ((pre :: (plcAll 0 (ks.take i)).map (pre ++ ·)).map pathD))
    ⟨l, [p], Fd, none, none, rfl, g1, upd_same, hl, hF.free hl, .cons hp (by rw [List.take_zero, plcAll]; exact .nil)⟩ (fun i σ H2 _ p => ?_) (fun i x σ H2 H3 hi p hy2 => ?_) (fun σ H2 p => ?_)
  · obtain ⟨_, _, _, _, _, _, g, _⟩ := p
    exact same_t (hF.trans g.hh) hc
  · obtain ⟨fa, zs, F2, y1, y2, rfl, g, hfa, hfn, hfF, hzs⟩ := p
    obtain ⟨TT, x1, rfl, hT, rfl, hx1⟩ := hy2
    obtain ⟨kd, hk, hkd⟩ := DpAll.get hy hx1
    have gT : Gw F2 H2 F2 (upd H2 TT (.tup [.int (i : Nat), x1])) := Gw.temp g.fh hT
    refine ⟨TT, _, rfl, .inl (.inl upd_same), rfl, _, _, rfl, _, _, rfl, rfl, ?_⟩
    refine ⟨_, rfl, x1, rfl, _, rfl, _, rfl, by show 1 ≤ sizeLine; decide, fun t2 ht2 => ?_⟩
    have gN := Gw.new (o := .tup [V.int (i : Nat)]) gT.fh ht2
    have g3 : Gw Fd H _ _ := (g.trans gT).trans gN
    obtain ⟨pa, rfl, hpa⟩ := dp_path (dp_mono g3.ff _ _ hp)
    have h1' : SqT K (upd F2 t2 (.tup [V.int (i : Nat)])) t2 [V.int (i : Nat)] := .inl (.inl upd_same)
    have hin : DpAll K (upd F2 t2 (.tup [V.int (i : Nat)])) [V.int (i : Nat)] [PyData.int (i : Nat)] := .cons (.int _) .nil
    have hpre : DpAll K (upd F2 t2 (.tup [V.int (i : Nat)])) (pre.map fun (n : Nat) => V.int (n : Int)) (pre.map fun (n : Nat) => PyData.int (n : Int)) := path_all pre
    refine cat_data (ds := pre.map fun (n : Nat) => PyData.int (n : Int)) g3.fh hpa h1' hpre hin ?_ (fun pv F4 H4 g4 hpv => ?_)
    · rw [List.length_map]
      exact sz1000 (by show pre.length + 1 ≤ 1000; omega)
    have e5 : pathD (pre ++ [i]) = .tuple ((pre.map fun (n : Nat) => PyData.int (n : Int)) ++ [PyData.int (i : Nat)]) := by
      unfold pathD
      rw [List.map_append]
      rfl
    rw [← e5] at hpv
    have gM := (gT.trans gN).trans g4
    have g5 := g.trans gM
    have hwk := wt_mem' (List.mem_of_getElem? hk)
    refine ⟨F4, x1, kd, pv, pre ++ [i], rfl, g5.fh, dp_mono g5.ff _ _ hkd, hks kd (List.mem_of_getElem? hk), hpv, by omega, by rw [List.length_append]; show pre.length + 1 ≤ _; omega, by omega, fun a2 xs2 F6 H6 g6 ha2 ha2n ha2F hxs2 => ?_⟩
    have g7 := g5.trans g6
    have hfa6 : H6 fa = some (.lst zs) := g6.hh _ _ (gM.hh _ _ hfa)
    have hfF6 : F6 fa = none := (gM.trans g6).nw fa (by rw [hfa]; exact fun z => nomatch z) hfF
    have hzs6 := dpAll_mono (gM.trans g6).ff _ _ hzs
    have hz1 := DpAll.len hzs6
    have hz2 := DpAll.len hxs2
    rw [List.length_map, List.length_cons, List.length_map] at hz1
    rw [List.length_map, List.length_map] at hz2
    have hl1 := hle i
    have hl2 := plc_le (hks kd (List.mem_of_getElem? hk))
    refine ⟨fa, a2, zs, xs2, rfl, rfl, hfa6, ha2, ?_, fun r hr' => ?_⟩
    · rw [hz1, hz2]
      exact Nat.le_trans (show (plcAll 0 (ks.take i)).length + 1 + (plc kd).length ≤ 300000 by omega) (by decide)
    have g8 := g7.trans (Gw.temp (o := .lst (zs ++ xs2)) g6.fh hr')
    refine ⟨r, zs ++ xs2, F6, _, _, rfl, g8, upd_same, g7.hh.free hr', g6.fh.free hr', ?_⟩
    rw [← plc_step hk]
    exact DpAll.app hzs6 hxs2
  · obtain ⟨fa, zs, F2, y1, y2, rfl, g, hfa, hfn, hfF, hzs⟩ := p
    rw [hly, List.take_length] at hzs
    refine ⟨_, rfl, k fa zs F2 H2 g hfa hfn hfF ?_⟩
    rw [plc, List.map_cons, List.append_nil]
    exact hzs
theorem ok_pl {f : Addr} {fd : FuncData} (F : Fun K "_law_places" "_law_places" sPlaces f fd) (mF : mg "_law_places" = some (.ref f)) (T : Bl mg) : ∀ n, FnOk P w K mg base CX0 n f fd ["_law_tree_here", "_law_path"] (spPl K n)
  | 0 => by
    have no : ∀ vs H Q E, ¬ spPl K 0 vs H Q E := fun vs H Q E h => by
      obtain ⟨_, _, _, _, _, _, _, _, h, _⟩ := h
      exact h
    exact ⟨fun vs H Q E h => absurd h (no vs H Q E), fun A outer s H args us vs Q E _ _ _ _ h => absurd h (no vs H Q E)⟩
  | n + 1 => ok_pl1 F ⟨f, fd, ok_pl F mF T n, mF, F.kp, F.binds (ps := ["_law_tree_here", "_law_path"]) fun _ _ _ _ _ _ us hl => match us, hl with | [_, _], _ => rfl⟩ T
theorem scPathsFrom : FnScope ["tree", "path", "paths", "at", "kid"] ["tree", "path"] (defScope sPathsFrom) := ⟨rfl, rfl, rfl, by decide +kernel, rfl, by decide +kernel, by decide +kernel⟩
theorem ok_pf1 {f : Addr} {fd : FuncData} {n : Nat} (F : Fun K "paths_from" "paths_from" sPathsFrom f fd) (Upaths_from : Use P w K mg base "paths_from" ["tree", "path"] n (spPl K n)) (T : Bl mg) :
    FnOk P w K mg base CX0 (n + 1) f fd ["tree", "path"] (spPl K (n + 1)) := by
  refine F.ok scPathsFrom (fun vs H Q E h => ?_) (fun cdv A outer s H vs Q E hr h => ?_)
  · obtain ⟨_, _, _, _, _, rfl, _⟩ := h
    rfl
  obtain ⟨Fd, v, d, p, pre, rfl, hF, hv, htr, hp, hw, hpl, hn9, k⟩ := h
  refine ⟨_, (pss_cons (ps_set (i := 2) scPathsFrom.nd rfl (.inl rfl) (pe_lst (pa_cons (pv 1) pa_nil)))
    (pss_cons (ps_for PassesOwn.never rfl (pi_enumT (by rfl) T.enum (pa_cons (pe_ix ix_tup (pv 0) pe_int (fun _ _ => rfl)) pa_nil)) (pg_tup rfl (pgs_cons (pg_name (i := 3) scPathsFrom.nd rfl (.inl rfl)) (pgs_cons (pg_name (i := 4) scPathsFrom.nd rfl (.inl rfl)) pgs_nil))) (pss_one (ps_expr (pe_bm PySem.F.plainAttrs_list PySem.F.slot_list_extend PySem.F.type_list_extend mt_extend (pv 2) (pa_cons (pe_call Upaths_from.ok (hr.mono (by omega)) rfl Upaths_from.m Upaths_from.kp Upaths_from.b .nil pass0 (pa_cons (pv 4) (pa_cons (pe_op op_catA (pv 1) (pe_tup (pa_cons (pv 3) pa_nil))) pa_nil))) pa_nil)))))
    (pss_one (ps_ret (pv 2))))), ?_⟩
  obtain ⟨s0, ks, rfl, hs0, hks⟩ := htr
  cases hv with
  | @tup b xs _ hb hx2 =>
  obtain ⟨x0, y0, _, _, rfl, h00, h1, h2⟩ := DpAll.two hx2 (DpAll.len hx2)
  cases h00
  cases h2 with
  | @tup c ys _ hc hy =>
  have hly : ys.length = ks.length := DpAll.len hy
  rw [wt_node] at hw
  have hle : ∀ i, (plcAll 0 (ks.take i)).length ≤ wtAll ks := fun i => by
    have h1 := plcAll_le 0 (ks.take i) fun k hk => plc_le (hks k (List.mem_of_mem_take hk))
    have h2 : wtAll (ks.take i) ≤ wtAll ks := by
      conv => rhs; rw [← List.take_append_drop i ks, wtAll_app]
      omega
    omega
  refine ⟨_, rfl, by show 1 ≤ sizeLine; decide, fun l hl => ?_⟩
  have g1 : Gw Fd H Fd (upd H l (.lst [p])) := Gw.temp hF hl
  refine ⟨_, rfl, b, _, 1, _, rfl, rfl, same_t (hF.trans g1.hh) hb, atI_nat (j := 1) rfl, c, ys, rfl, same_t (hF.trans g1.hh) hc, ?_⟩
  refine for_it (walk_enumT (xs := ys)) (fun i σ H2 => ∃ (fa : Addr) (zs : List V) (F2 : Hp) (y1 y2 : Option V), σ = [some (.ref b), some p, some (.ref fa), y1, y2] ∧ Gw Fd H F2 H2 ∧ H2 fa = some (.lst zs) ∧ H fa = none ∧ F2 fa = none ∧
      DpAll K F2 zs ((pre :: (plcAll 0 (ks.take i)).map (pre ++ ·)).map pathD))
    ⟨l, [p], Fd, none, none, rfl, g1, upd_same, hl, hF.free hl, .cons hp (by rw [List.take_zero, plcAll]; exact .nil)⟩ (fun i σ H2 _ p => ?_) (fun i x σ H2 H3 hi p hy2 => ?_) (fun σ H2 p => ?_)
  · obtain ⟨_, _, _, _, _, _, g, _⟩ := p
    exact same_t (hF.trans g.hh) hc
  · obtain ⟨fa, zs, F2, y1, y2, rfl, g, hfa, hfn, hfF, hzs⟩ := p
    obtain ⟨TT, x1, rfl, hT, rfl, hx1⟩ := hy2
    obtain ⟨kd, hk, hkd⟩ := DpAll.get hy hx1
    have gT : Gw F2 H2 F2 (upd H2 TT (.tup [.int (i : Nat), x1])) := Gw.temp g.fh hT
    refine ⟨TT, _, rfl, .inl (.inl upd_same), rfl, _, _, rfl, _, _, rfl, rfl, ?_⟩
    refine ⟨_, rfl, .inl ⟨rfl, _, SqL.of (gT.hh _ _ hfa)⟩, x1, rfl, _, rfl, _, rfl, by show 1 ≤ sizeLine; decide, fun t2 ht2 => ?_⟩
    have gN := Gw.new (o := .tup [V.int (i : Nat)]) gT.fh ht2
    have g3 : Gw Fd H _ _ := (g.trans gT).trans gN
    obtain ⟨pa, rfl, hpa⟩ := dp_path (dp_mono g3.ff _ _ hp)
    have h1' : SqT K (upd F2 t2 (.tup [V.int (i : Nat)])) t2 [V.int (i : Nat)] := .inl (.inl upd_same)
    have hin : DpAll K (upd F2 t2 (.tup [V.int (i : Nat)])) [V.int (i : Nat)] [PyData.int (i : Nat)] := .cons (.int _) .nil
    have hpre : DpAll K (upd F2 t2 (.tup [V.int (i : Nat)])) (pre.map fun (n : Nat) => V.int (n : Int)) (pre.map fun (n : Nat) => PyData.int (n : Int)) := path_all pre
    refine cat_data (ds := pre.map fun (n : Nat) => PyData.int (n : Int)) g3.fh hpa h1' hpre hin ?_ (fun pv F4 H4 g4 hpv => ?_)
    · rw [List.length_map]
      exact sz1000 (by show pre.length + 1 ≤ 1000; omega)
    have e5 : pathD (pre ++ [i]) = .tuple ((pre.map fun (n : Nat) => PyData.int (n : Int)) ++ [PyData.int (i : Nat)]) := by
      unfold pathD
      rw [List.map_append]
      rfl
    rw [← e5] at hpv
    have gM := (gT.trans gN).trans g4
    have g5 := g.trans gM
    have hwk := wt_mem' (List.mem_of_getElem? hk)
    refine ⟨F4, x1, kd, pv, pre ++ [i], rfl, g5.fh, dp_mono g5.ff _ _ hkd, hks kd (List.mem_of_getElem? hk), hpv, by omega, by rw [List.length_append]; show pre.length + 1 ≤ _; omega, by omega, fun a2 xs2 F6 H6 g6 ha2 ha2n ha2F hxs2 => ?_⟩
    have g7 := g5.trans g6
    have hfa6 : H6 fa = some (.lst zs) := g6.hh _ _ (gM.hh _ _ hfa)
    have hfF6 : F6 fa = none := (gM.trans g6).nw fa (by rw [hfa]; exact fun z => nomatch z) hfF
    have hzs6 := dpAll_mono (gM.trans g6).ff _ _ hzs
    have hz1 := DpAll.len hzs6
    have hz2 := DpAll.len hxs2
    rw [List.length_map, List.length_cons, List.length_map] at hz1
    rw [List.length_map, List.length_map] at hz2
    have hl1 := hle i
    have hl2 := plc_le (hks kd (List.mem_of_getElem? hk))
    refine ⟨fa, a2, zs, xs2, rfl, rfl, hfa6, ha2, ?_, ?_⟩
    · rw [hz1, hz2]
      exact Nat.le_trans (show (plcAll 0 (ks.take i)).length + 1 + (plc kd).length ≤ 300000 by omega) (by decide)
    have g8 : Gw Fd H F6 (upd H6 fa (.lst (zs ++ xs2))) := ⟨g7.ff, same_mut g7.fh hfF6, same_mut g7.hh hfn, g7.nw⟩
    refine ⟨fa, zs ++ xs2, F6, _, _, rfl, g8, upd_same, hfn, hfF6, ?_⟩
    rw [← plc_step hk]
    exact DpAll.app hzs6 hxs2
  · obtain ⟨fa, zs, F2, y1, y2, rfl, g, hfa, hfn, hfF, hzs⟩ := p
    rw [hly, List.take_length] at hzs
    refine ⟨_, rfl, k fa zs F2 H2 g hfa hfn hfF ?_⟩
    rw [plc, List.map_cons, List.append_nil]
    exact hzs
theorem ok_pf {f : Addr} {fd : FuncData} (F : Fun K "paths_from" "paths_from" sPathsFrom f fd) (mF : mg "paths_from" = some (.ref f)) (T : Bl mg) : ∀ n, FnOk P w K mg base CX0 n f fd ["tree", "path"] (spPl K n)
  | 0 => by
    have no : ∀ vs H Q E, ¬ spPl K 0 vs H Q E := fun vs H Q E h => by
      obtain ⟨_, _, _, _, _, _, _, _, h, _⟩ := h
      exact h
    exact ⟨fun vs H Q E h => absurd h (no vs H Q E), fun A outer s H args us vs Q E _ _ _ _ h => absurd h (no vs H Q E)⟩
  | n + 1 => ok_pf1 F ⟨f, fd, ok_pf F mF T n, mF, F.kp, F.binds (ps := ["tree", "path"]) fun _ _ _ _ _ _ us hl => match us, hl with | [_, _], _ => rfl⟩ T
end
end Tl

set_option Elab.async false
set_option linter.all false
set_option maxRecDepth 100000
set_option maxHeartbeats 8000000
namespace Tl
open PySem L2
abbrev sChkTree : Stmt := top 25
abbrev sChkPath : Stmt := top 26
abbrev sChkPlace : Stmt := top 27
abbrev sSizeOf : Stmt := top 20
abbrev sDepthOf : Stmt := top 21
abbrev sHasPlace : Stmt := top 22
abbrev sPartOf : Stmt := top 23
abbrev sPlacesOf : Stmt := top 24
/-- an own error without a word, as the top has left its class -/
structure Er (K : PySem.W.Frag) (mg : Str → Option Value) (x : Str) (C : Addr) : Prop where
  g : mg x = some (.ref C)
  x : PySem.W.excIn K C [.type "ValueError", .type "Exception", .type "BaseException", .type "object"] "ValueError.__new__" = true
  k : PySem.W.keepIn K (.ref C) = true
  b : PySem.W.subIn K (.ref C) (.type "BaseException") = some true
  t : PySem.W.typeIn K (.ref C) = some (.type "type")
/-- a def that errors may leave -/
structure UseX (P : Program) (w : World) (K : PySem.W.Frag) (mg : Str → Option Value) (base : Heap) (x : Str) (ps : List Str) (k : Nat) (sp : Sp) where
  f : Addr
  fd : FuncData
  ok : FnOk P w K mg base (L2.CX P w) k f fd ps sp
  m : mg x = some (.ref f)
  kp : PySem.W.keepIn K (.ref f) = true
  b : Binds K fd ps []
def spChk (K : PySem.W.Frag) (g : PyData → Bool) (C : Addr) : Sp := fun vs H Q E => ∃ (v : V) (d : PyData), vs = [v] ∧ Dt K H v d ∧ txt d = true ∧ (g d = true → ∀ H', Same H H' → Q .non H') ∧ (g d = false → ∀ H', Same H H' → E (.ref C) none H')
section
variable {P : Program} {w : World} {K : PySem.W.Frag} {mg : Str → Option Value} {base : Heap}
theorem scChkTree : FnScope ["thing"] ["thing"] (defScope sChkTree) := ⟨rfl, rfl, rfl, by decide +kernel, rfl, by decide +kernel, by decide +kernel⟩
theorem ok_chkTree {f C : Addr} {fd : FuncData} {k j : Nat} (F : Fun K "check_tree" "check_tree" sChkTree f fd) (X : Er K mg "NoTree" C) (Uis_tree : Use P w K mg base "is_tree" ["thing"] j (spB K isTreeD)) (hj : j ≤ k) :
    FnOk P w K mg base (L2.CX P w) (k + 1) f fd ["thing"] (spChk K isTreeD C) := by
  refine F.okX scChkTree (fun vs H Q E h => ?_) (fun cdv A outer s H vs Q E hr h => ?_)
  · obtain ⟨_, _, rfl, _⟩ := h
    rfl
  obtain ⟨v, d, rfl, hv, ht, k1, k2⟩ := h
  refine ⟨_, pss_one (ps_if (PT.nox (pt_not (pt_val (pe_call Uis_tree.ok (hr.mono (by omega)) rfl Uis_tree.m Uis_tree.kp Uis_tree.b .nil pass0 (pa_cons (pv 0) pa_nil))))) (pss_one (ps_raise rfl (takes_of rfl rfl rfl rfl) (pmk_own0 PySem.F.excBase_ValueError X.x X.g X.k (raises_own X.b X.t) (by exact rfl)))) pss_nil), ?_⟩
  refine ⟨_, rfl, v, d, rfl, hv, ht, fun H1 e1 => ⟨_, rfl, ?_⟩⟩
  cases c : isTreeD d with
  | true => exact k1 c H1 e1
  | false => exact k2 c H1 e1
theorem scChkPath : FnScope ["thing"] ["thing"] (defScope sChkPath) := ⟨rfl, rfl, rfl, by decide +kernel, rfl, by decide +kernel, by decide +kernel⟩
theorem ok_chkPath {f C : Addr} {fd : FuncData} {k j : Nat} (F : Fun K "check_path" "check_path" sChkPath f fd) (X : Er K mg "NoPath" C) (Uis_path : Use P w K mg base "is_path" ["thing"] j (spB K isPath)) (hj : j ≤ k) :
    FnOk P w K mg base (L2.CX P w) (k + 1) f fd ["thing"] (spChk K isPath C) := by
  refine F.okX scChkPath (fun vs H Q E h => ?_) (fun cdv A outer s H vs Q E hr h => ?_)
  · obtain ⟨_, _, rfl, _⟩ := h
    rfl
  obtain ⟨v, d, rfl, hv, ht, k1, k2⟩ := h
  refine ⟨_, pss_one (ps_if (PT.nox (pt_not (pt_val (pe_call Uis_path.ok (hr.mono (by omega)) rfl Uis_path.m Uis_path.kp Uis_path.b .nil pass0 (pa_cons (pv 0) pa_nil))))) (pss_one (ps_raise rfl (takes_of rfl rfl rfl rfl) (pmk_own0 PySem.F.excBase_ValueError X.x X.g X.k (raises_own X.b X.t) (by exact rfl)))) pss_nil), ?_⟩
  refine ⟨_, rfl, v, d, rfl, hv, ht, fun H1 e1 => ⟨_, rfl, ?_⟩⟩
  cases c : isPath d with
  | true => exact k1 c H1 e1
  | false => exact k2 c H1 e1
end
end Tl

set_option Elab.async false
set_option linter.all false
set_option maxRecDepth 100000
set_option maxHeartbeats 8000000
namespace Tl
open PySem L2
/-- what is asked of a tree, where it is one -/
structure IsT (K : PySem.W.Frag) (F : Hp) (v : V) (d : PyData) (n : Nat) : Prop where
  dp : Dp K F v d
  tr : TrD n d
  wt : wt d ≤ 100000
def spAsk (K : PySem.W.Frag) (g : PyData → Nat) (n : Nat) (C : Addr) : Sp := fun vs H Q E => ∃ (F : Hp) (v : V) (d : PyData), vs = [v] ∧ Same F H ∧ Dt K F v d ∧ txt d = true ∧ (isTreeD d = false → ∀ H', Same H H' → E (.ref C) none H') ∧
  (isTreeD d = true → IsT K F v d n ∧ ∀ H', Same H H' → Q (.int (g d : Nat)) H')
def spAskP (K : PySem.W.Frag) (n : Nat) (C : Addr) : Sp := fun vs H Q E => ∃ (F : Hp) (v : V) (d : PyData), vs = [v] ∧ Same F H ∧ Dt K F v d ∧ txt d = true ∧ (isTreeD d = false → ∀ H', Same H H' → E (.ref C) none H') ∧
  (isTreeD d = true → IsT K F v d n ∧ n ≤ 900 ∧ ∀ (a : Addr) (xs : List V) (F' H' : Hp), Gw F H F' H' → H' a = some (.lst xs) → H a = none → F' a = none → DpAll K F' xs ((plc d).map pathD) → Q (.ref a) H')
def spHas (K : PySem.W.Frag) (n : Nat) (C1 C2 : Addr) : Sp := fun vs H Q E => ∃ (F : Hp) (v p : V) (d pd : PyData), vs = [v, p] ∧ Same F H ∧ Dt K F v d ∧ txt d = true ∧ Dt K F p pd ∧ txt pd = true ∧ (isTreeD d = false → ∀ H', Same H H' → E (.ref C1) none H') ∧
  (isTreeD d = true → isPath pd = false → ∀ H', Same H H' → E (.ref C2) none H') ∧
  (isTreeD d = true → isPath pd = true → IsT K F v d n ∧ ∃ q, pd = pathD q ∧ Dp K F p pd ∧ ∀ H', Same H H' → Q (.bl (sub d q).isSome) H')
theorem sub_tr : ∀ {q : List Nat} {n : Nat} {d e : PyData}, TrD n d → sub d q = some e → ∃ m, TrD m e
  | [], n, d, e, h, he => by
    rw [sub] at he
    cases he
    exact ⟨n, h⟩
  | i :: q, n, d, e, h, he => by
    obtain ⟨s, ks, k, rfl, hk, h2⟩ := sub_cons he
    obtain ⟨s', ks', e', _, h3⟩ := trD_node h
    cases e'
    exact sub_tr (h3 k (List.mem_of_getElem? hk)) h2
theorem sub_node {q : List Nat} {n : Nat} {d e : PyData} (h : TrD n d) (he : sub d q = some e) : ∃ (s : Str) (ks : List PyData), e = .tuple [.str s, .tuple ks] := by
  obtain ⟨m, hm⟩ := sub_tr h he
  obtain ⟨s, ks, e, _⟩ := trD_node hm
  exact ⟨s, ks, e⟩
section
variable {P : Program} {w : World} {K : PySem.W.Frag} {mg : Str → Option Value} {base : Heap}
theorem scSizeOf : FnScope ["tree"] ["tree"] (defScope sSizeOf) := ⟨rfl, rfl, rfl, by decide +kernel, rfl, by decide +kernel, by decide +kernel⟩
theorem ok_sizeOf {f C : Addr} {fd : FuncData} {k j1 j2 n : Nat} (F : Fun K "size_of" "size_of" sSizeOf f fd) (U1 : UseX P w K mg base "check_tree" ["thing"] j1 (spChk K isTreeD C)) (U2 : Use P w K mg base "count_places" ["tree"] j2 (spNum K (fun d => (plc d).length) n)) (h1 : j1 ≤ k) (h2 : j2 ≤ k) :
    FnOk P w K mg base (L2.CX P w) (k + 1) f fd ["tree"] (spAsk K (fun d => (plc d).length) n C) := by
  refine F.okX scSizeOf (fun vs H Q E h => ?_) (fun cdv A outer s H vs Q E hr h => ?_)
  · obtain ⟨_, _, _, rfl, _⟩ := h
    rfl
  obtain ⟨Fd, v, d, rfl, hF, hv, ht, k1, k2⟩ := h
  refine ⟨_, pss_cons (ps_expr (pe_callS U1.ok (hr.mono (by omega)) rfl U1.m U1.kp U1.b (fun σ => passAt (takes_of (E := E) rfl rfl rfl rfl) σ) (pa_cons (pv 0) pa_nil))) (PSs.nox (pss_one (ps_ret (pe_call U2.ok (hr.mono (by omega)) rfl U2.m U2.kp U2.b .nil pass0 (pa_cons (pv 0) pa_nil))))), ?_⟩
  refine ⟨_, rfl, v, d, rfl, hv.mono hF, ht, fun c H1 e1 => ?_, fun c H1 e1 => k1 c H1 e1⟩
  obtain ⟨it, k2⟩ := k2 c
  exact ⟨_, rfl, Fd, v, d, rfl, hF.trans e1, it.dp, it.tr, it.wt, fun H2 e2 => k2 H2 (e1.trans e2)⟩
theorem scDepthOf : FnScope ["tree"] ["tree"] (defScope sDepthOf) := ⟨rfl, rfl, rfl, by decide +kernel, rfl, by decide +kernel, by decide +kernel⟩
theorem ok_depthOf {f C : Addr} {fd : FuncData} {k j1 j2 n : Nat} (F : Fun K "depth_of" "depth_of" sDepthOf f fd) (U1 : UseX P w K mg base "check_tree" ["thing"] j1 (spChk K isTreeD C)) (U2 : Use P w K mg base "count_levels" ["tree"] j2 (spNum K lev n)) (h1 : j1 ≤ k) (h2 : j2 ≤ k) :
    FnOk P w K mg base (L2.CX P w) (k + 1) f fd ["tree"] (spAsk K lev n C) := by
  refine F.okX scDepthOf (fun vs H Q E h => ?_) (fun cdv A outer s H vs Q E hr h => ?_)
  · obtain ⟨_, _, _, rfl, _⟩ := h
    rfl
  obtain ⟨Fd, v, d, rfl, hF, hv, ht, k1, k2⟩ := h
  refine ⟨_, pss_cons (ps_expr (pe_callS U1.ok (hr.mono (by omega)) rfl U1.m U1.kp U1.b (fun σ => passAt (takes_of (E := E) rfl rfl rfl rfl) σ) (pa_cons (pv 0) pa_nil))) (PSs.nox (pss_one (ps_ret (pe_call U2.ok (hr.mono (by omega)) rfl U2.m U2.kp U2.b .nil pass0 (pa_cons (pv 0) pa_nil))))), ?_⟩
  refine ⟨_, rfl, v, d, rfl, hv.mono hF, ht, fun c H1 e1 => ?_, fun c H1 e1 => k1 c H1 e1⟩
  obtain ⟨it, k2⟩ := k2 c
  exact ⟨_, rfl, Fd, v, d, rfl, hF.trans e1, it.dp, it.tr, it.wt, fun H2 e2 => k2 H2 (e1.trans e2)⟩
theorem scPlacesOf : FnScope ["tree"] ["tree"] (defScope sPlacesOf) := ⟨rfl, rfl, rfl, by decide +kernel, rfl, by decide +kernel, by decide +kernel⟩
theorem ok_placesOf {f C : Addr} {fd : FuncData} {k j1 j2 n : Nat} (F : Fun K "places_of" "places_of" sPlacesOf f fd) (U1 : UseX P w K mg base "check_tree" ["thing"] j1 (spChk K isTreeD C)) (U2 : Use P w K mg base "paths_from" ["tree", "path"] j2 (spPl K n)) (h1 : j1 ≤ k) (h2 : j2 ≤ k) :
    FnOk P w K mg base (L2.CX P w) (k + 1) f fd ["tree"] (spAskP K n C) := by
  refine F.okX scPlacesOf (fun vs H Q E h => ?_) (fun cdv A outer s H vs Q E hr h => ?_)
  · obtain ⟨_, _, _, rfl, _⟩ := h
    rfl
  obtain ⟨Fd, v, d, rfl, hF, hv, ht, k1, k2⟩ := h
  refine ⟨_, pss_cons (ps_expr (pe_callS U1.ok (hr.mono (by omega)) rfl U1.m U1.kp U1.b (fun σ => passAt (takes_of (E := E) rfl rfl rfl rfl) σ) (pa_cons (pv 0) pa_nil))) (PSs.nox (pss_one (ps_ret (pe_call U2.ok (hr.mono (by omega)) rfl U2.m U2.kp U2.b .nil pass0 (pa_cons (pv 0) (pa_cons (pe_tup pa_nil) pa_nil)))))), ?_⟩
  refine ⟨_, rfl, v, d, rfl, hv.mono hF, ht, fun c H1 e1 => ?_, fun c H1 e1 => k1 c H1 e1⟩
  obtain ⟨it, hn, k2⟩ := k2 c
  refine ⟨_, rfl, by show 0 ≤ sizeLine; decide, fun t0 ht0 => ?_⟩
  obtain ⟨g1, d1⟩ := gw_tup (K := K) (xs := []) (hF.trans e1) ht0 .nil
  have g0 : Gw Fd H Fd H1 := ⟨Same.refl _, hF.trans e1, e1, fun _ _ h => h⟩
  refine ⟨_, v, d, .ref t0, [], rfl, g1.fh, dp_mono g1.ff _ _ it.dp, it.tr, d1, it.wt, by show 0 ≤ _; omega, hn, fun a xs F' H' g ha hn2 hf hx => ?_⟩
  refine k2 a xs F' H' ((g0.trans g1).trans g) ha ((g0.trans g1).hh.free hn2) hf ?_
  have e : (plc d).map ([] ++ ·) = plc d := by simp
  rw [e] at hx
  exact hx
theorem scHasPlace : FnScope ["tree", "path"] ["tree", "path"] (defScope sHasPlace) := ⟨rfl, rfl, rfl, by decide +kernel, rfl, by decide +kernel, by decide +kernel⟩
theorem ok_hasPlace {f C1 C2 : Addr} {fd : FuncData} {k j1 j2 j3 n : Nat} (F : Fun K "has_place" "has_place" sHasPlace f fd) (U1 : UseX P w K mg base "check_tree" ["thing"] j1 (spChk K isTreeD C1)) (U3 : UseX P w K mg base "check_path" ["thing"] j3 (spChk K isPath C2)) (U2 : Use P w K mg base "part_at" ["tree", "path"] j2 (spPartAt K)) (h1 : j1 ≤ k) (h2 : j2 ≤ k) (h3 : j3 ≤ k) :
    FnOk P w K mg base (L2.CX P w) (k + 1) f fd ["tree", "path"] (spHas K n C1 C2) := by
  refine F.okX scHasPlace (fun vs H Q E h => ?_) (fun cdv A outer s H vs Q E hr h => ?_)
  · obtain ⟨_, _, _, _, _, rfl, _⟩ := h
    rfl
  obtain ⟨Fd, v, p, d, pd, rfl, hF, hv, ht, hp, hpt, k1, k2, k3⟩ := h
  refine ⟨_, pss_cons (ps_expr (pe_callS U1.ok (hr.mono (by omega)) rfl U1.m U1.kp U1.b (fun σ => passAt (takes_of (E := E) rfl rfl rfl rfl) σ) (pa_cons (pv 0) pa_nil))) (pss_cons (ps_expr (pe_callS U3.ok (hr.mono (by omega)) rfl U3.m U3.kp U3.b (fun σ => passAt (takes_of (E := E) rfl rfl rfl rfl) σ) (pa_cons (pv 1) pa_nil)))
    (PSs.nox (pss_one (ps_ret (pe_cmpR op_notN (pe_call U2.ok (hr.mono (by omega)) rfl U2.m U2.kp U2.b .nil pass0 (pa_cons (pv 0) (pa_cons (pv 1) pa_nil))) pe_non (nomark _)))))), ?_⟩
  refine ⟨_, rfl, v, d, rfl, hv.mono hF, ht, fun c H1 e1 => ?_, fun c H1 e1 => k1 c H1 e1⟩
  refine ⟨_, rfl, p, pd, rfl, hp.mono (hF.trans e1), hpt, fun c2 H2 e2 => ?_, fun c2 H2 e2 => k2 c c2 H2 (e1.trans e2)⟩
  obtain ⟨it, q, rfl, hpp, k4⟩ := k3 c c2
  have k5 := k4 H2 (e1.trans e2)
  refine ⟨_, rfl, _, rfl, Fd, v, d, p, q, n, rfl, (hF.trans e1).trans e2, it.dp, it.tr, hpp, fun r e he hr2 => ?_, fun he => ?_⟩
  · rw [he] at k5
    obtain ⟨a, rfl⟩ : ∃ a, r = .ref a := by
      obtain ⟨s0, ks, rfl⟩ := sub_node it.tr he
      cases hr2 with
      | @tup a _ _ _ _ => exact ⟨a, rfl⟩
    exact ⟨rfl, k5⟩
  · rw [he] at k5
    exact ⟨rfl, k5⟩
end
end Tl

set_option Elab.async false
set_option linter.all false
set_option maxRecDepth 100000
set_option maxHeartbeats 8000000
namespace Tl
open PySem L2
abbrev kNoPlace : Stmt := top 8
def inCls (s : Stmt) : Stmt := match s with
  | .ClassDef _ _ _ b _ _ _ _ _ _ _ => b.getD 0 (.Pass ⟨0, 0, 0, 0⟩)
  | _ => .Pass ⟨0, 0, 0, 0⟩
abbrev sInit : Stmt := inCls kNoPlace
/-- NoPlace, as the top has left it -/
structure ErP (K : PySem.W.Frag) (mg : Str → Option Value) (C fI : Addr) : Prop where
  o : OexC K C
  g : mg "NoPlace" = some (.ref C)
  i : PySem.W.findIn K (.ref C) "__init__" = some (some (.ref fI))
  t : PySem.W.typeIn K (.ref fI) = some (.type "function")
  n : PySem.W.findIn K (.ref C) "path" = some none
def spInit (K : PySem.W.Frag) (C : Addr) : Sp := fun vs H Q _ => ∃ (a : Addr) (v : V), vs = [.ref a, v] ∧ H a = some (exo a C none) ∧ ∀ dx, H dx = none → dx ≠ a → Q .non (upd (upd H dx (exd dx [("path", v)])) a (exo a C (some dx)))
def spChkPl (K : PySem.W.Frag) (n : Nat) (C2 C3 : Addr) : Sp := fun vs H Q E => ∃ (F : Hp) (v p : V) (d pd : PyData), vs = [v, p] ∧ Same F H ∧ IsT K F v d n ∧ Dt K F p pd ∧ txt pd = true ∧ (isPath pd = false → ∀ H', Same H H' → E (.ref C2) none H') ∧
  (isPath pd = true → ∃ q, pd = pathD q ∧ Dp K F p pd ∧ (∀ e, sub d q = some e → ∀ H', Same H H' → Q .non H') ∧ (sub d q = none → ∀ H' dd, Same H H' → H dd = none → H' dd = some (.xd [("path", p)]) → E (.ref C3) (some dd) H'))
def spPartOf (K : PySem.W.Frag) (n : Nat) (C1 C2 C3 : Addr) : Sp := fun vs H Q E => ∃ (F : Hp) (v p : V) (d pd : PyData), vs = [v, p] ∧ Same F H ∧ Dt K F v d ∧ txt d = true ∧ Dt K F p pd ∧ txt pd = true ∧ (isTreeD d = false → ∀ H', Same H H' → E (.ref C1) none H') ∧
  (isTreeD d = true → IsT K F v d n) ∧
  (isTreeD d = true → isPath pd = false → ∀ H', Same H H' → E (.ref C2) none H') ∧
  (isTreeD d = true → isPath pd = true → ∃ q, pd = pathD q ∧ Dp K F p pd ∧ (∀ e r, sub d q = some e → Dp K F r e → ∀ H', Same H H' → Q r H') ∧ (sub d q = none → ∀ H' dd, Same H H' → H dd = none → H' dd = some (.xd [("path", p)]) → E (.ref C3) (some dd) H'))
section
variable {P : Program} {w : World} {K : PySem.W.Frag} {mg : Str → Option Value} {base : Heap}
theorem scInit : FnScope ["self", "path"] ["self", "path"] (defScope sInit) := ⟨rfl, rfl, rfl, by decide +kernel, rfl, by decide +kernel, by decide +kernel⟩
theorem ok_init {f C : Addr} {fd : FuncData} {k : Nat} (F : Fun K "__init__" "NoPlace.__init__" sInit f fd) (X : ErP K mg C f) : FnOk P w K mg base CX0 (k + 1) f fd ["self", "path"] (spInit K C) := by
  refine F.ok scInit (fun vs H Q E h => ?_) (fun cdv A outer s H vs Q E hr h => ?_)
  · obtain ⟨_, _, rfl, _⟩ := h
    rfl
  obtain ⟨a, v, rfl, ha, q⟩ := h
  refine ⟨_, pss_one (ps_ost (pv 0) (pv 1)), ?_⟩
  exact ⟨_, rfl, _, rfl, a, C, rfl, X.o, X.n, .inl ⟨ha, fun dx h1 h2 => q dx h1 h2⟩⟩
theorem scChkPlace : FnScope ["tree", "thing"] ["tree", "thing"] (defScope sChkPlace) := ⟨rfl, rfl, rfl, by decide +kernel, rfl, by decide +kernel, by decide +kernel⟩
theorem ok_chkPlace {f C2 C3 fI : Addr} {fd fdI : FuncData} {k j1 j2 n : Nat} (F : Fun K "check_place" "check_place" sChkPlace f fd) (FI : Fun K "__init__" "NoPlace.__init__" sInit fI fdI) (X : ErP K mg C3 fI) (U1 : UseX P w K mg base "check_path" ["thing"] j1 (spChk K isPath C2)) (U2 : Use P w K mg base "part_at" ["tree", "path"] j2 (spPartAt K)) (h1 : j1 ≤ k) (h2 : j2 ≤ k) (h3 : 2 ≤ k) :
    FnOk P w K mg base (L2.CX P w) (k + 1) f fd ["tree", "thing"] (spChkPl K n C2 C3) := by
  refine F.okX scChkPlace (fun vs H Q E h => ?_) (fun cdv A outer s H vs Q E hr h => ?_)
  · obtain ⟨_, _, _, _, _, rfl, _⟩ := h
    rfl
  obtain ⟨Fd, v, p, d, pd, rfl, hF, it, hp, hpt, k1, k2⟩ := h
  have bI := FI.binds (ps := ["self", "path"]) fun _ _ _ _ _ _ us hl => match us, hl with | [_, _], _ => rfl
  refine ⟨_, pss_cons (ps_expr (pe_callS U1.ok (hr.mono (by omega)) rfl U1.m U1.kp U1.b (fun σ => passAt (takes_of (E := E) rfl rfl rfl rfl) σ) (pa_cons (pv 1) pa_nil)))
    (pss_one (ps_if (PT.nox (pt_cmpR op_isN (pe_call U2.ok (hr.mono (by omega)) rfl U2.m U2.kp U2.b .nil pass0 (pa_cons (pv 0) (pa_cons (pv 1) pa_nil))) pe_non (nomark _)))
      (pss_one (ps_raise rfl (takes_of (E := E) rfl rfl rfl rfl) (pmk_oex X.o X.i X.t (ok_init (P := P) (w := w) (base := base) (k := 0) FI X) (hr.mono (by omega)) bI .nil pass0 (by exact rfl) X.g (pa_cons (pv 1) pa_nil)))) pss_nil)), ?_⟩
  refine ⟨_, rfl, p, pd, rfl, hp.mono hF, hpt, fun c H1 e1 => ?_, fun c H1 e1 => k1 c H1 e1⟩
  obtain ⟨q, rfl, hpp, k3, k4⟩ := k2 c
  refine ⟨_, rfl, _, rfl, Fd, v, d, p, q, n, rfl, hF.trans e1, it.dp, it.tr, hpp, fun r e he hr2 => ?_, fun he => ?_⟩
  · obtain ⟨a, rfl⟩ : ∃ a, r = .ref a := by
      obtain ⟨s0, ks, rfl⟩ := sub_node it.tr he
      cases hr2 with
      | @tup a _ _ _ _ => exact ⟨a, rfl⟩
    exact ⟨rfl, _, rfl, k3 e he H1 e1⟩
  · refine ⟨rfl, _, rfl, ?_⟩
    refine ⟨_, rfl, by show 1 ≤ 1000; decide, fun a ha => ?_⟩
    refine ⟨a, p, rfl, upd_same, fun dx hd1 hd2 => ⟨rfl, dx, [("path", p)], upd_same, ?_, ?_, ?_⟩⟩
    · rw [upd_ne hd2]
      exact upd_same
    · rw [upd_ne hd2] at hd1
      exact hd1
    · rw [upd_ne hd2] at hd1
      refine k4 he _ dx (e1.trans fun b o hb => ?_) (e1.free hd1) upd_same
      have n1 : b ≠ dx := fun z => by rw [z, hd1] at hb; cases hb
      have n2 : b ≠ a := fun z => by rw [z, ha] at hb; cases hb
      rw [upd_ne n1, del_ne n2, upd_ne n2, upd_ne n1, upd_ne n2]
      exact hb
theorem scPartOf : FnScope ["tree", "path"] ["tree", "path"] (defScope sPartOf) := ⟨rfl, rfl, rfl, by decide +kernel, rfl, by decide +kernel, by decide +kernel⟩
theorem ok_partOf {f C1 C2 C3 : Addr} {fd : FuncData} {k j1 j2 j3 n : Nat} (F : Fun K "part_of" "part_of" sPartOf f fd) (U1 : UseX P w K mg base "check_tree" ["thing"] j1 (spChk K isTreeD C1)) (U3 : UseX P w K mg base "check_place" ["tree", "thing"] j3 (spChkPl K n C2 C3)) (U2 : Use P w K mg base "part_at" ["tree", "path"] j2 (spPartAt K)) (h1 : j1 ≤ k) (h2 : j2 ≤ k) (h3 : j3 ≤ k) :
    FnOk P w K mg base (L2.CX P w) (k + 1) f fd ["tree", "path"] (spPartOf K n C1 C2 C3) := by
  refine F.okX scPartOf (fun vs H Q E h => ?_) (fun cdv A outer s H vs Q E hr h => ?_)
  · obtain ⟨_, _, _, _, _, rfl, _⟩ := h
    rfl
  obtain ⟨Fd, v, p, d, pd, rfl, hF, hv, ht, hp, hpt, k1, k2, k3, k4⟩ := h
  refine ⟨_, pss_cons (ps_expr (pe_callS U1.ok (hr.mono (by omega)) rfl U1.m U1.kp U1.b (fun σ => passAt (takes_of (E := E) rfl rfl rfl rfl) σ) (pa_cons (pv 0) pa_nil))) (pss_cons (ps_expr (pe_callS U3.ok (hr.mono (by omega)) rfl U3.m U3.kp U3.b (fun σ => passAt (takes_of (E := E) rfl rfl rfl rfl) σ) (pa_cons (pv 0) (pa_cons (pv 1) pa_nil))))
    (PSs.nox (pss_one (ps_ret (pe_call U2.ok (hr.mono (by omega)) rfl U2.m U2.kp U2.b .nil pass0 (pa_cons (pv 0) (pa_cons (pv 1) pa_nil))))))), ?_⟩
  refine ⟨_, rfl, v, d, rfl, hv.mono hF, ht, fun c H1 e1 => ?_, fun c H1 e1 => k1 c H1 e1⟩
  refine ⟨_, rfl, _, rfl, Fd, v, p, d, pd, rfl, hF.trans e1, k2 c, hp, hpt, fun c2 H2 e2 => k3 c c2 H2 (e1.trans e2), fun c2 => ?_⟩
  obtain ⟨q, rfl, hpp, k5, k6⟩ := k4 c c2
  refine ⟨q, rfl, hpp, fun e he H2 e2 => ?_, fun he H2 dd e2 hd h2 => k6 he H2 dd (e1.trans e2) (e1.free hd) h2⟩
  exact ⟨_, rfl, _, rfl, Fd, v, d, p, q, n, rfl, (hF.trans e1).trans e2, (k2 c).dp, (k2 c).tr, hpp, fun r e' he' hr2 => k5 e' r he' hr2 H2 (e1.trans e2), fun z => by rw [he] at z; cases z⟩
end
end Tl

set_option Elab.async false
set_option linter.all false
set_option maxRecDepth 100000
set_option maxHeartbeats 8000000
namespace Tl
open PySem L2 RZ
abbrev sAlike : Stmt := top 35
def isLst : PyData → Bool
  | .list _ => true
  | _ => false
theorem kit_lst (d : PyData) : kitB (tyName d) "list" = some (isLst d) := by cases d <;> (simp only [tyName, isLst]; decide +kernel)
theorem walk_zipT' {K : PySem.W.Frag} {a b : Addr} {xs ys : List V} {n : Nat} (h1 : xs.length = n) (h2 : ys.length = n) : Walk (ItzT K a b) n (fun H => SqT K H a xs ∧ SqT K H b ys) (YPair (fun i => xs[i]?) (fun i => ys[i]?)) := by
  refine ⟨fun i _ hi q => ⟨xs, ys, xs[i]'(by omega), ys[i]'(by omega), q.1, q.2, List.getElem?_eq_getElem _, List.getElem?_eq_getElem _⟩, fun _ q => ⟨xs, ys, q.1, q.2, .inl (by omega)⟩, fun i H v H' _ q y => ?_⟩
  obtain ⟨T, x, z, g1, g2, g3, g4, g5⟩ := y
  exact ⟨T, x, z, g1, g2, g3, g4 xs q.1, g5 ys q.2⟩
theorem walk_zipL' {K : PySem.W.Frag} {a b : Addr} {xs ys : List V} {n : Nat} (h1 : xs.length = n) (h2 : ys.length = n) : Walk (Itz K a b) n (fun H => SqL K H a xs ∧ SqL K H b ys) (YPair (fun i => xs[i]?) (fun i => ys[i]?)) := by
  refine ⟨fun i _ hi q => ⟨xs, ys, xs[i]'(by omega), ys[i]'(by omega), q.1, q.2, List.getElem?_eq_getElem _, List.getElem?_eq_getElem _⟩, fun _ q => ⟨xs, ys, q.1, q.2, .inl (by omega)⟩, fun i H v H' _ q y => ?_⟩
  obtain ⟨T, x, z, g1, g2, g3, g4, g5⟩ := y
  exact ⟨T, x, z, g1, g2, g3, g4 xs q.1, g5 ys q.2⟩
section
variable {X : Cx}
theorem b_list (T : Bl X.mg) {p : Pos} (hg : Gl X "list" := by rfl) : PE X (.Name "list" p) (tC (.ty "list")) := pe_bltn hg T.list PyProof.Rows.boot_list rfl
end
theorem depth_mem : ∀ {ds : List PyData} {d : PyData}, d ∈ ds → d.depth ≤ PyData.depthAll ds
  | d' :: ds, d, h => by
    rw [PyData.depthAll]
    rcases List.mem_cons.mp h with rfl | h
    · omega
    · have := depth_mem h
      omega
/-- data alike are told to be so -/
def spAlike (K : PySem.W.Frag) (n : Nat) : Sp := fun vs H Q _ => ∃ (x y : V) (d : PyData), vs = [x, y] ∧ Dp K H x d ∧ Dp K H y d ∧ d.depth < n ∧ ∀ H', Same H H' → Q (.bl true) H'
section
variable {P : Program} {w : World} {K : PySem.W.Frag} {mg : Str → Option Value} {base : Heap}
theorem scAlike : FnScope ["_law_found", "_law_due", "_law_one", "_law_other"] ["_law_found", "_law_due"] (defScope sAlike) := ⟨rfl, rfl, rfl, by decide +kernel, rfl, by decide +kernel, by decide +kernel⟩
theorem ok_alike1 {f : Addr} {fd : FuncData} {n : Nat} (F : Fun K "_law_alike" "_law_alike" sAlike f fd) (U_law_alike : Use P w K mg base "_law_alike" ["_law_found", "_law_due"] n (spAlike K n)) (T : Bl mg) (mz : mg "zip" = none) :
    FnOk P w K mg base CX0 (n + 1) f fd ["_law_found", "_law_due"] (spAlike K (n + 1)) := by
  refine F.ok scAlike (fun vs H Q E h => ?_) (fun cdv A outer s H vs Q E hr h => ?_)
  · obtain ⟨_, _, _, rfl, _⟩ := h
    rfl
  obtain ⟨x, y, d, rfl, hx, hy, hd, q⟩ := h
  refine ⟨_, (pss_cons (ps_if (pt_cmpR op_isN (pv 1) pe_non (nomark _)) (pss_one (ps_ret (pe_cmpR op_isN (pv 0) pe_non (nomark _)))) pss_nil)
    (pss_cons (ps_if (pt_val (pe_callB (r := rIsi K) call_isi (by rfl) T.isi PyProof.Rows.boot_isinstance (pa_cons (pv 1) (pa_cons (b_bool T) pa_nil)))) (pss_one (ps_ret (pe_and (pe_callB (r := rIsi K) call_isi (by rfl) T.isi PyProof.Rows.boot_isinstance (pa_cons (pv 0) (pa_cons (b_bool T) pa_nil))) (pe_one (pe_cmpR op_eq (pv 0) (pv 1) (nomark _)))))) pss_nil)
    (pss_cons (ps_if (pt_val (pe_callB (r := rIsi K) call_isi (by rfl) T.isi PyProof.Rows.boot_isinstance (pa_cons (pv 1) (pa_cons (b_int T) pa_nil)))) (pss_one (ps_ret (pe_and (pe_callB (r := rIsi K) call_isi (by rfl) T.isi PyProof.Rows.boot_isinstance (pa_cons (pv 0) (pa_cons (b_int T) pa_nil))) (pe_and (pe_not (pe_callB (r := rIsi K) call_isi (by rfl) T.isi PyProof.Rows.boot_isinstance (pa_cons (pv 0) (pa_cons (b_bool T) pa_nil)))) (pe_one (pe_cmpR op_eq (pv 0) (pv 1) (nomark _))))))) pss_nil)
    (pss_cons (ps_if (pt_val (pe_callB (r := rIsi K) call_isi (by rfl) T.isi PyProof.Rows.boot_isinstance (pa_cons (pv 1) (pa_cons (b_str T) pa_nil)))) (pss_one (ps_ret (pe_and (pe_callB (r := rIsi K) call_isi (by rfl) T.isi PyProof.Rows.boot_isinstance (pa_cons (pv 0) (pa_cons (b_str T) pa_nil))) (pe_one (pe_cmpR op_eq (pv 0) (pv 1) (nomark _)))))) pss_nil)
    (pss_cons (ps_if (PW.pt (pw_and (pt_val (pe_callB (r := rIsi K) call_isi (by rfl) T.isi PyProof.Rows.boot_isinstance (pa_cons (pv 1) (pa_cons (b_list T) pa_nil)))) (pw_and1 (pt_not (pt_val (pe_callB (r := rIsi K) call_isi (by rfl) T.isi PyProof.Rows.boot_isinstance (pa_cons (pv 0) (pa_cons (b_list T) pa_nil)))))))) (pss_one (ps_ret pe_bl)) pss_nil)
    (pss_cons (ps_if (PW.pt (pw_and (pt_val (pe_callB (r := rIsi K) call_isi (by rfl) T.isi PyProof.Rows.boot_isinstance (pa_cons (pv 1) (pa_cons (b_tuple T) pa_nil)))) (pw_and1 (pt_not (pt_val (pe_callB (r := rIsi K) call_isi (by rfl) T.isi PyProof.Rows.boot_isinstance (pa_cons (pv 0) (pa_cons (b_tuple T) pa_nil)))))))) (pss_one (ps_ret pe_bl)) pss_nil)
    (pss_cons (ps_if (pt_cmpR op_ne (pe_callB call_len_seq (by rfl) T.len PySem.boot_len (pa_cons (pv 0) pa_nil)) (pe_callB call_len_seq (by rfl) T.len PySem.boot_len (pa_cons (pv 1) pa_nil)) (nomark _)) (pss_one (ps_ret pe_bl)) pss_nil)
    (pss_cons (ps_for PassesOwn.never rfl (pi_zipA (by rfl) mz (pa_cons (pv 0) (pa_cons (pv 1) pa_nil))) (pg_tup rfl (pgs_cons (pg_name (i := 2) scAlike.nd rfl (.inl rfl)) (pgs_cons (pg_name (i := 3) scAlike.nd rfl (.inl rfl)) pgs_nil))) (pss_one (ps_if (pt_not (pt_val (pe_call U_law_alike.ok (hr.mono (by omega)) rfl U_law_alike.m U_law_alike.kp U_law_alike.b .nil pass0 (pa_cons (pv 2) (pa_cons (pv 3) pa_nil))))) (pss_one (ps_ret pe_bl)) pss_nil)))
    (pss_one (ps_ret pe_bl)))))))))), ?_⟩
  have q' := q H (Same.refl H)
  have fin : ∀ z : V, Q (.bl (decide (z = z))) H := fun z => by rw [decide_eq_true rfl]; exact q'
  cases d with
  | none =>
    cases hx
    cases hy
    refine ⟨_, rfl, rfl, _, rfl, ?_⟩
    exact ⟨_, rfl, rfl, q'⟩
  | bool b =>
    cases hx
    cases hy
    refine ⟨_, rfl, rfl, _, rfl, ?_⟩
    refine ⟨_, rfl, _, .ty "bool", _, _, _, rfl, .ty "bool", ty_data (.d (.bl b)), kit_ty (kit_bl (.bool b)), _, rfl, ?_⟩
    refine ⟨_, rfl, _, .ty "bool", _, _, _, rfl, .ty "bool", ty_data (.d (.bl b)), kit_ty (kit_bl (.bool b)), _, rfl, ?_⟩
    exact ⟨_, rfl, _, rfl, rfl, fin _⟩
  | int i =>
    cases hx
    cases hy
    refine ⟨_, rfl, rfl, _, rfl, ?_⟩
    refine iteF ?_
    refine ⟨_, rfl, _, .ty "bool", _, _, _, rfl, .ty "bool", ty_data (.d (.int i)), kit_ty (kit_bl (.int i)), _, rfl, ?_⟩
    refine iteF ?_
    refine ⟨_, rfl, _, .ty "int", _, _, _, rfl, .ty "int", ty_data (.d (.int i)), kit_ty (kit_int (.int i)), _, rfl, ?_⟩
    refine iteT ?_
    refine ⟨_, rfl, _, .ty "int", _, _, _, rfl, .ty "int", ty_data (.d (.int i)), kit_ty (kit_int (.int i)), _, rfl, ?_⟩
    refine ⟨_, rfl, _, .ty "bool", _, _, _, rfl, .ty "bool", ty_data (.d (.int i)), kit_ty (kit_bl (.int i)), _, rfl, ?_⟩
    exact ⟨_, rfl, _, rfl, _, rfl, rfl, fin _⟩
  | str i =>
    cases hx
    cases hy
    refine ⟨_, rfl, rfl, _, rfl, ?_⟩
    refine iteF ?_
    refine ⟨_, rfl, _, .ty "bool", _, _, _, rfl, .ty "bool", ty_data (.d (.str i)), kit_ty (kit_bl (.str i)), _, rfl, ?_⟩
    refine iteF ?_
    refine ⟨_, rfl, _, .ty "int", _, _, _, rfl, .ty "int", ty_data (.d (.str i)), kit_ty (kit_int (.str i)), _, rfl, ?_⟩
    refine iteF ?_
    refine ⟨_, rfl, _, .ty "str", _, _, _, rfl, .ty "str", ty_data (.d (.str i)), kit_ty (kit_str (.str i)), _, rfl, ?_⟩
    refine iteT ?_
    refine ⟨_, rfl, _, .ty "str", _, _, _, rfl, .ty "str", ty_data (.d (.str i)), kit_ty (kit_str (.str i)), _, rfl, ?_⟩
    exact ⟨_, rfl, _, rfl, rfl, fin _⟩
  | list ds =>
    cases hx with
    | @lst a xs _ ha hxa =>
    cases hy with
    | @lst b ys _ hb hyb =>
    have hlx := DpAll.len hxa
    have hly := DpAll.len hyb
    refine ⟨_, rfl, rfl, _, rfl, ?_⟩
    refine iteF ?_
    refine ⟨_, rfl, _, .ty "bool", _, _, _, rfl, .ty "bool", ty_data (.d (.lst hb hyb)), kit_ty (kit_bl (.list ds)), _, rfl, ?_⟩
    refine iteF ?_
    refine ⟨_, rfl, _, .ty "int", _, _, _, rfl, .ty "int", ty_data (.d (.lst hb hyb)), kit_ty (kit_int (.list ds)), _, rfl, ?_⟩
    refine iteF ?_
    refine ⟨_, rfl, _, .ty "str", _, _, _, rfl, .ty "str", ty_data (.d (.lst hb hyb)), kit_ty (kit_str (.list ds)), _, rfl, ?_⟩
    refine iteF ?_
    refine ⟨_, rfl, _, .ty "list", _, _, _, rfl, .ty "list", ty_data (.d (.lst hb hyb)), kit_ty (kit_lst (.list ds)), _, rfl, ?_⟩
    refine iteT ?_
    refine ⟨_, rfl, _, .ty "list", _, _, _, rfl, .ty "list", ty_data (.d (.lst ha hxa)), kit_ty (kit_lst (.list ds)), _, rfl, ?_⟩
    refine iteF ?_
    refine ⟨_, rfl, _, .ty "tuple", _, _, _, rfl, .ty "tuple", ty_data (.d (.lst hb hyb)), kit_ty (kit_tup (.list ds)), _, rfl, ?_⟩
    refine iteF ?_
    refine ⟨_, rfl, a, xs, rfl, .inl ha, _, rfl, b, ys, rfl, .inl hb, rfl, _, rfl, ?_⟩
    refine iteN (fun z => absurd (by rw [hlx, hly]) z) (fun _ => ?_)
    refine ⟨_, rfl, _, rfl, a, b, xs, ys, rfl, .inl ⟨ha, hb, ?_⟩⟩
    refine for_it (walk_zipL' (n := ds.length) hlx hly) (fun i σ H2 => ∃ (y1 y2 : Option V), σ = [some (.ref a), some (.ref b), y1, y2] ∧ Same H H2) ⟨none, none, rfl, Same.refl _⟩ (fun i σ H2 _ p => ?_) (fun i v σ H2 H3 hi p hy2 => ?_) (fun σ H2 p => ?_)
    · obtain ⟨_, _, _, e⟩ := p
      exact ⟨same_l e ha, same_l e hb⟩
    · obtain ⟨y1, y2, rfl, e⟩ := p
      obtain ⟨TT, x1, x2, rfl, hT, rfl, g1, g2⟩ := hy2
      have eT := same_new (o := HO.tup [x1, x2]) hT
      obtain ⟨d1, hd1, hx1⟩ := DpAll.get hxa g1
      obtain ⟨d2, hd2, hx2⟩ := DpAll.get hyb g2
      rw [hd1] at hd2
      cases hd2
      have hdep : d1.depth ≤ PyData.depthAll ds := depth_mem (List.mem_of_getElem? hd1)
      rw [PyData.depth] at hd
      refine ⟨TT, _, rfl, .inl (.inl upd_same), rfl, _, _, rfl, _, _, rfl, rfl, ?_⟩
      refine ⟨_, rfl, _, rfl, x1, x2, d1, rfl, dp_mono (e.trans eT) _ _ hx1, dp_mono (e.trans eT) _ _ hx2, by omega, fun H4 e4 => ⟨_, rfl, ?_⟩⟩
      exact ⟨_, _, rfl, (e.trans eT).trans e4⟩
    · obtain ⟨_, _, rfl, e⟩ := p
      exact q H2 e
  | tuple ds =>
    cases hx with
    | @tup a xs _ ha hxa =>
    cases hy with
    | @tup b ys _ hb hyb =>
    have hlx := DpAll.len hxa
    have hly := DpAll.len hyb
    refine ⟨_, rfl, rfl, _, rfl, ?_⟩
    refine iteF ?_
    refine ⟨_, rfl, _, .ty "bool", _, _, _, rfl, .ty "bool", ty_data (.d (.tup hb hyb)), kit_ty (kit_bl (.tuple ds)), _, rfl, ?_⟩
    refine iteF ?_
    refine ⟨_, rfl, _, .ty "int", _, _, _, rfl, .ty "int", ty_data (.d (.tup hb hyb)), kit_ty (kit_int (.tuple ds)), _, rfl, ?_⟩
    refine iteF ?_
    refine ⟨_, rfl, _, .ty "str", _, _, _, rfl, .ty "str", ty_data (.d (.tup hb hyb)), kit_ty (kit_str (.tuple ds)), _, rfl, ?_⟩
    refine iteF ?_
    refine ⟨_, rfl, _, .ty "list", _, _, _, rfl, .ty "list", ty_data (.d (.tup hb hyb)), kit_ty (kit_lst (.tuple ds)), _, rfl, ?_⟩
    refine iteF ?_
    refine ⟨_, rfl, _, .ty "tuple", _, _, _, rfl, .ty "tuple", ty_data (.d (.tup hb hyb)), kit_ty (kit_tup (.tuple ds)), _, rfl, ?_⟩
    refine iteT ?_
    refine ⟨_, rfl, _, .ty "tuple", _, _, _, rfl, .ty "tuple", ty_data (.d (.tup ha hxa)), kit_ty (kit_tup (.tuple ds)), _, rfl, ?_⟩
    refine iteF ?_
    refine ⟨_, rfl, a, xs, rfl, .inr ha, _, rfl, b, ys, rfl, .inr hb, rfl, _, rfl, ?_⟩
    refine iteN (fun z => absurd (by rw [hlx, hly]) z) (fun _ => ?_)
    refine ⟨_, rfl, _, rfl, a, b, xs, ys, rfl, .inr ⟨ha, hb, ?_⟩⟩
    refine for_it (walk_zipT' (n := ds.length) hlx hly) (fun i σ H2 => ∃ (y1 y2 : Option V), σ = [some (.ref a), some (.ref b), y1, y2] ∧ Same H H2) ⟨none, none, rfl, Same.refl _⟩ (fun i σ H2 _ p => ?_) (fun i v σ H2 H3 hi p hy2 => ?_) (fun σ H2 p => ?_)
    · obtain ⟨_, _, _, e⟩ := p
      exact ⟨same_t e ha, same_t e hb⟩
    · obtain ⟨y1, y2, rfl, e⟩ := p
      obtain ⟨TT, x1, x2, rfl, hT, rfl, g1, g2⟩ := hy2
      have eT := same_new (o := HO.tup [x1, x2]) hT
      obtain ⟨d1, hd1, hx1⟩ := DpAll.get hxa g1
      obtain ⟨d2, hd2, hx2⟩ := DpAll.get hyb g2
      rw [hd1] at hd2
      cases hd2
      have hdep : d1.depth ≤ PyData.depthAll ds := depth_mem (List.mem_of_getElem? hd1)
      rw [PyData.depth] at hd
      refine ⟨TT, _, rfl, .inl (.inl upd_same), rfl, _, _, rfl, _, _, rfl, rfl, ?_⟩
      refine ⟨_, rfl, _, rfl, x1, x2, d1, rfl, dp_mono (e.trans eT) _ _ hx1, dp_mono (e.trans eT) _ _ hx2, by omega, fun H4 e4 => ⟨_, rfl, ?_⟩⟩
      exact ⟨_, _, rfl, (e.trans eT).trans e4⟩
    · obtain ⟨_, _, rfl, e⟩ := p
      exact q H2 e
  | dict ds => cases hx
theorem ok_alike {f : Addr} {fd : FuncData} (F : Fun K "_law_alike" "_law_alike" sAlike f fd) (mF : mg "_law_alike" = some (.ref f)) (T : Bl mg) (mz : mg "zip" = none) : ∀ n, FnOk P w K mg base CX0 n f fd ["_law_found", "_law_due"] (spAlike K n)
  | 0 => by
    have no : ∀ vs H Q E, ¬ spAlike K 0 vs H Q E := fun vs H Q E h => by
      obtain ⟨_, _, _, _, _, _, h, _⟩ := h
      exact absurd h (Nat.not_lt_zero _)
    exact ⟨fun vs H Q E h => absurd h (no vs H Q E), fun A outer s H args us vs Q E _ _ _ _ h => absurd h (no vs H Q E)⟩
  | n + 1 => ok_alike1 F ⟨f, fd, ok_alike F mF T mz n, mF, F.kp, F.binds (ps := ["_law_found", "_law_due"]) fun _ _ _ _ _ _ us hl => match us, hl with | [_, _], _ => rfl⟩ T mz
end
end Tl

set_option Elab.async false
set_option linter.all false
set_option maxRecDepth 100000
set_option maxHeartbeats 16000000
namespace Tl
open PySem L2
abbrev sRefused : Stmt := top 40
theorem bootVE : bootBuiltins "ValueError" = some (.type "ValueError") := by decide +kernel
/-- the classes of errors, as the top has left them -/
structure Cls (K : PySem.W.Frag) (mg : Str → Option Value) where
  c_TreeError : Addr
  c_NoTree : Addr
  c_NoPath : Addr
  c_NoPlace : Addr
  c_NoDeed : Addr
  c_NoCount : Addr
  c_NoThing : Addr
  c_NoFit : Addr
  m_TreeError : mg "TreeError" = some (.ref c_TreeError)
  m_NoTree : mg "NoTree" = some (.ref c_NoTree)
  m_NoPath : mg "NoPath" = some (.ref c_NoPath)
  m_NoPlace : mg "NoPlace" = some (.ref c_NoPlace)
  m_NoDeed : mg "NoDeed" = some (.ref c_NoDeed)
  m_NoCount : mg "NoCount" = some (.ref c_NoCount)
  m_NoThing : mg "NoThing" = some (.ref c_NoThing)
  m_NoFit : mg "NoFit" = some (.ref c_NoFit)
  xf : XfC K c_NoPlace
  nop : PySem.W.findIn K (.ref c_NoPlace) "path" = some none
/-- what is told of an error of the class at D, whose name is z -/
structure Kf {K : PySem.W.Frag} {mg : Str → Option Value} (A : Cls K mg) (D : Addr) (z : Str) : Prop where
  te : PySem.W.exmOne K (.ref D) (.ref A.c_TreeError) = some true
  ex : ExcC K D
  ve : PySem.W.kitOne K (.ref D) (.type "ValueError") = some true
  k1 : PySem.W.kitOne K (.ref D) (.ref A.c_NoTree) = some (decide (V.str z = V.str "NoTree"))
  k2 : PySem.W.kitOne K (.ref D) (.ref A.c_NoPath) = some (decide (V.str z = V.str "NoPath"))
  k3 : PySem.W.kitOne K (.ref D) (.ref A.c_NoPlace) = some (decide (V.str z = V.str "NoPlace"))
  k4 : PySem.W.kitOne K (.ref D) (.ref A.c_NoDeed) = some (decide (V.str z = V.str "NoDeed"))
  k5 : PySem.W.kitOne K (.ref D) (.ref A.c_NoCount) = some (decide (V.str z = V.str "NoCount"))
  k6 : PySem.W.kitOne K (.ref D) (.ref A.c_NoThing) = some (!decide (V.str z = V.str "NoPlace"))
  k7 : PySem.W.kitOne K (.ref D) (.ref A.c_NoFit) = some (decide (V.str z = V.str "NoPlace"))
/-- how a call of the way is refused -/
def Refd (K : PySem.W.Frag) (n : Nat) (way : Int) (F : Hp) (v p : V) (d pd : PyData) (z : Str) : Prop :=
  (isTreeD d = false ∧ z = "NoTree") ∨ (isTreeD d = true ∧ IsT K F v d n ∧ (way = 3 ∨ way = 4) ∧ isPath pd = false ∧ z = "NoPath") ∨
    (isTreeD d = true ∧ IsT K F v d n ∧ way = 4 ∧ isPath pd = true ∧ Dp K F p pd ∧ pd.depth < 50 ∧ (∃ q, pd = pathD q ∧ sub d q = none) ∧ z = "NoPlace")
def spRef (K : PySem.W.Frag) (n : Nat) : Sp := fun vs H Q _ => ∃ (F : Hp) (way : Int) (v p : V) (d pd : PyData) (z : Str), vs = [.int way, v, p, .str z] ∧ Same F H ∧ Dt K F v d ∧ txt d = true ∧ Dt K F p pd ∧ txt pd = true ∧ 0 ≤ way ∧ way ≤ 4 ∧ Refd K n way F v p d pd z ∧ ∀ H', Same H H' → Q (.bl true) H'
def nms : List V := [V.str "NoTree", V.str "NoPath", V.str "NoPlace", V.str "NoDeed", V.str "NoCount"]
theorem eqv6 (a b c d e f : Bool) : PyData.eqv (.list [.bool a, .bool b, .bool c, .bool d, .bool e, .bool f]) (.list [.bool a, .bool b, .bool c, .bool d, .bool e, .bool f]) = true := by
  revert a b c d e f
  decide +kernel
theorem seq_set {u : TS} {D : Ends} {σ : L2.St} {H : Hp} {x : V} {j : Nat} (h : u D (σ.set j (some x)) H) : tSeq (tAsg (tC x) (gName j)) u D σ H := h
theorem seq_keep {K : PySem.W.Frag} {c : Value} {i : Nat} {ts : Addr → Value → Option Addr → TS} {Wout : WX} {tb : WX → TS} {u : TS} {D : Ends} {σ : L2.St} {H : Hp} (R : Value → Option Addr → L2.St → Hp → Prop) (h1 : ∀ (W : WX) (D' : Ends), (∀ cls d τ H', R cls d τ H' → W cls d τ H') → tb W D' σ H)
    (h2 : ∀ cls d τ H', R cls d τ H' → wKeep K c i ts Wout { D with nx := u D } cls d τ H') : tSeq (fun D σ H => tb (wKeep K c i ts Wout D) D σ H) u D σ H := h1 _ _ h2
theorem dxo_mono {H H' : Hp} {d : Option Addr} (e : Same H H') (h : DxO H d) : DxO H' d := by
  cases d with
  | none => trivial
  | some dd =>
    obtain ⟨fs, hf⟩ := h
    exact ⟨fs, e _ _ hf⟩
/-- what is known of the error that is caught -/
def RefC {K : PySem.W.Frag} {mg : Str → Option Value} (A : Cls K mg) (F H2 : Hp) (p : V) (pd : PyData) (z : Str) (D : Addr) (dd : Option Addr) (H3 : Hp) : Prop :=
  Kf A D z ∧ Same H2 H3 ∧ DxO H3 dd ∧ (z = "NoPlace" → ∃ d', dd = some d' ∧ D = A.c_NoPlace ∧ H3 d' = some (.xd [("path", p)]) ∧ Dp K H3 p pd ∧ pd.depth < 50)
/-- the body of the try -/
def tBody {K : PySem.W.Frag} {mg : Str → Option Value} (n : Nat) (A : Cls K mg) : WX → TS := fun W =>
  tIfS (tTest (tOp rEq (tVar 0) (tC (V.int 0)))) (tDrop (tCallS (spAsk K (fun d => (plc d).length) n A.c_NoTree) (WE W) (tCons (tVar 1) tNil)))
    (tIfS (tTest (tOp rEq (tVar 0) (tC (V.int 1)))) (tDrop (tCallS (spAsk K lev n A.c_NoTree) (WE W) (tCons (tVar 1) tNil)))
      (tIfS (tTest (tOp rEq (tVar 0) (tC (V.int 2)))) (tDrop (tCallS (spAskP K n A.c_NoTree) (WE W) (tCons (tVar 1) tNil)))
        (tIfS (tTest (tOp rEq (tVar 0) (tC (V.int 3)))) (tDrop (tCallS (spHas K n A.c_NoTree A.c_NoPath) (WE W) (tCons (tVar 1) (tCons (tVar 2) tNil))))
          (tDrop (tCallS (spPartOf K n A.c_NoTree A.c_NoPath A.c_NoPlace) (WE W) (tCons (tVar 1) (tCons (tVar 2) tNil)))))))
theorem body_ok {K : PySem.W.Frag} {mg : Str → Option Value} {n : Nat} {A : Cls K mg} {W : WX} {D' : Ends} {way : Int} {v p : V} {d pd : PyData} {z : Str} {σr : L2.St} {Fd H H2 : Hp}
    (hW : ∀ cls dd τ H3, (∃ D, cls = .ref D ∧ τ = some (.int way) :: some v :: some p :: σr ∧ RefC A Fd H2 p pd z D dd H3) → W cls dd τ H3) (e2 : Same H H2) (hF : Same Fd H) (hv : Dt K Fd v d) (ht : txt d = true) (hp : Dt K Fd p pd) (hpt : txt pd = true) (hw0 : 0 ≤ way) (hw4 : way ≤ 4)
    (hR : Refd K n way Fd v p d pd z) (f1 : Kf A A.c_NoTree "NoTree") (f2 : Kf A A.c_NoPath "NoPath") (f3 : Kf A A.c_NoPlace "NoPlace") : tBody n A W D' (some (.int way) :: some v :: some p :: σr) H2 := by
  have hF2 := hF.trans e2
  have w1 : isTreeD d = false → z = "NoTree" → ∀ H3, Same H2 H3 → W (.ref A.c_NoTree) none (some (.int way) :: some v :: some p :: σr) H3 := fun _ hz H3 e3 =>
    hW _ _ _ _ ⟨_, rfl, rfl, hz ▸ f1, e3, trivial, fun h => by rw [hz] at h; exact absurd h (by decide)⟩
  have w2 : z = "NoPath" → ∀ H3, Same H2 H3 → W (.ref A.c_NoPath) none (some (.int way) :: some v :: some p :: σr) H3 := fun hz H3 e3 =>
    hW _ _ _ _ ⟨_, rfl, rfl, hz ▸ f2, e3, trivial, fun h => by rw [hz] at h; exact absurd h (by decide)⟩
  rcases hR with ⟨c1, hz⟩ | ⟨c1, it, hw, c2, hz⟩ | ⟨c1, it, hw, c2, hdp, hdep, ⟨q, hq, hsub⟩, hz⟩
  · have no : isTreeD d = true → False := fun h => by rw [c1] at h; cases h
    refine ⟨_, rfl, rfl, _, rfl, ?_⟩
    refine iteD (fun cc => ?_) (fun cc => ?_)
    · exact ⟨_, rfl, Fd, v, d, rfl, hF2, hv, ht, fun c H3 e3 => w1 c hz H3 e3, fun h => (no h).elim⟩
    refine ⟨_, rfl, rfl, _, rfl, ?_⟩
    refine iteD (fun cc => ?_) (fun cc => ?_)
    · exact ⟨_, rfl, Fd, v, d, rfl, hF2, hv, ht, fun c H3 e3 => w1 c hz H3 e3, fun h => (no h).elim⟩
    refine ⟨_, rfl, rfl, _, rfl, ?_⟩
    refine iteD (fun cc => ?_) (fun cc => ?_)
    · exact ⟨_, rfl, Fd, v, d, rfl, hF2, hv, ht, fun c H3 e3 => w1 c hz H3 e3, fun h => (no h).elim⟩
    refine ⟨_, rfl, rfl, _, rfl, ?_⟩
    refine iteD (fun cc => ?_) (fun cc => ?_)
    · exact ⟨_, rfl, _, rfl, Fd, v, p, d, pd, rfl, hF2, hv, ht, hp, hpt, fun c H3 e3 => w1 c hz H3 e3, fun h => (no h).elim, fun h => (no h).elim⟩
    · exact ⟨_, rfl, _, rfl, Fd, v, p, d, pd, rfl, hF2, hv, ht, hp, hpt, fun c H3 e3 => w1 c hz H3 e3, fun h => (no h).elim, fun h => (no h).elim, fun h => (no h).elim⟩
  · have no : isTreeD d = false → False := fun h => by rw [c1] at h; cases h
    have no2 : isPath pd = true → False := fun h => by rw [c2] at h; cases h
    refine ⟨_, rfl, rfl, _, rfl, ?_⟩
    refine iteD (fun cc => absurd (V.int.inj cc) (by omega)) (fun cc => ?_)
    refine ⟨_, rfl, rfl, _, rfl, ?_⟩
    refine iteD (fun cc => absurd (V.int.inj cc) (by omega)) (fun cc => ?_)
    refine ⟨_, rfl, rfl, _, rfl, ?_⟩
    refine iteD (fun cc => absurd (V.int.inj cc) (by omega)) (fun cc => ?_)
    refine ⟨_, rfl, rfl, _, rfl, ?_⟩
    refine iteD (fun cc => ?_) (fun cc => ?_)
    · exact ⟨_, rfl, _, rfl, Fd, v, p, d, pd, rfl, hF2, hv, ht, hp, hpt, fun c => (no c).elim, fun _ _ H3 e3 => w2 hz H3 e3, fun _ h => (no2 h).elim⟩
    · exact ⟨_, rfl, _, rfl, Fd, v, p, d, pd, rfl, hF2, hv, ht, hp, hpt, fun c => (no c).elim, fun _ => it, fun _ _ H3 e3 => w2 hz H3 e3, fun _ h => (no2 h).elim⟩
  · have no : isTreeD d = false → False := fun h => by rw [c1] at h; cases h
    have no2 : isPath pd = false → False := fun h => by rw [c2] at h; cases h
    refine ⟨_, rfl, rfl, _, rfl, ?_⟩
    refine iteD (fun cc => absurd (V.int.inj cc) (by omega)) (fun cc => ?_)
    refine ⟨_, rfl, rfl, _, rfl, ?_⟩
    refine iteD (fun cc => absurd (V.int.inj cc) (by omega)) (fun cc => ?_)
    refine ⟨_, rfl, rfl, _, rfl, ?_⟩
    refine iteD (fun cc => absurd (V.int.inj cc) (by omega)) (fun cc => ?_)
    refine ⟨_, rfl, rfl, _, rfl, ?_⟩
    refine iteD (fun cc => absurd (V.int.inj cc) (by omega)) (fun cc => ?_)
    refine ⟨_, rfl, _, rfl, Fd, v, p, d, pd, rfl, hF2, hv, ht, hp, hpt, fun c => (no c).elim, fun _ => it, fun _ h => (no2 h).elim, fun _ _ => ⟨q, hq, hdp, fun e r h => (by rw [hsub] at h; cases h), fun _ H3 dd e3 hd1 hd2 => ?_⟩⟩
    exact hW _ _ _ _ ⟨_, rfl, rfl, hz ▸ f3, e3, ⟨_, hd2⟩, fun _ => ⟨dd, rfl, rfl, hd2, dp_mono (hF2.trans e3) _ _ hdp, hdep⟩⟩
section
variable {P : Program} {w : World} {K : PySem.W.Frag} {mg : Str → Option Value} {base : Heap}
theorem scRefused : FnScope ["_law_way", "_law_tree_here", "_law_path", "_law_name", "_law_turn", "_law_caught", "_law_said", "_law_names", "_law_one", "error"] ["_law_way", "_law_tree_here", "_law_path", "_law_name"] (defScope sRefused) := ⟨rfl, rfl, rfl, by decide +kernel, rfl, by decide +kernel, by decide +kernel⟩
theorem ok_refused {f : Addr} {fd : FuncData} {k j1 j2 j3 j4 j5 j6 n : Nat} (F : Fun K "_law_refused" "_law_refused" sRefused f fd) (A : Cls K mg) (f1 : Kf A A.c_NoTree "NoTree") (f2 : Kf A A.c_NoPath "NoPath") (f3 : Kf A A.c_NoPlace "NoPlace")
    (Usize_of : UseX P w K mg base "size_of" ["tree"] j1 (spAsk K (fun d => (plc d).length) n A.c_NoTree)) (Udepth_of : UseX P w K mg base "depth_of" ["tree"] j2 (spAsk K lev n A.c_NoTree)) (Uplaces_of : UseX P w K mg base "places_of" ["tree"] j3 (spAskP K n A.c_NoTree))
    (Uhas_place : UseX P w K mg base "has_place" ["tree", "path"] j4 (spHas K n A.c_NoTree A.c_NoPath)) (Upart_of : UseX P w K mg base "part_of" ["tree", "path"] j5 (spPartOf K n A.c_NoTree A.c_NoPath A.c_NoPlace)) (U_law_alike : Use P w K mg base "_law_alike" ["_law_found", "_law_due"] j6 (spAlike K 50))
    (h1 : j1 ≤ k) (h2 : j2 ≤ k) (h3 : j3 ≤ k) (h4 : j4 ≤ k) (h5 : j5 ≤ k) (h6 : j6 ≤ k) (T : Bl mg) (mVE : mg "ValueError" = none) : FnOk P w K mg base CX0 (k + 1) f fd ["_law_way", "_law_tree_here", "_law_path", "_law_name"] (spRef K n) := by
  refine F.ok scRefused (fun vs H Q E h => ?_) (fun cdv B outer s H vs Q E hr h => ?_)
  · obtain ⟨_, _, _, _, _, _, _, rfl, _⟩ := h
    rfl
  obtain ⟨Fd, way, v, p, d, pd, z, rfl, hF, hv, ht, hp, hpt, hw0, hw4, hR, q⟩ := h
  refine ⟨_, (pss_cons (ps_for PassesOwn.never rfl (pi_range1 (by rfl) T.range (pa_cons pe_int pa_nil)) (pg_name (i := 4) scRefused.nd rfl (.inl rfl)) (pss_cons (ps_set (i := 5) scRefused.nd rfl (.inl rfl) pe_non)
      (pss_cons (ps_try_keep (i := 9) (Wout := fun _ _ _ _ => False) rfl rfl rfl scRefused.nd rfl rfl ⟨rfl, by decide, .inl A.m_TreeError⟩ takes0
      (fun W pn xe tk _ => (pss_one (ps_if (pt_cmpR op_eq (pv 0) pe_int (nomark _)) (pss_one (ps_expr (pe_callS Usize_of.ok (hr.mono (by omega)) rfl Usize_of.m Usize_of.kp Usize_of.b (fun σ => passAt tk σ) (pa_cons (pv 1) pa_nil)))) (pss_one (ps_if (pt_cmpR op_eq (pv 0) pe_int (nomark _)) (pss_one (ps_expr (pe_callS Udepth_of.ok (hr.mono (by omega)) rfl Udepth_of.m Udepth_of.kp Udepth_of.b (fun σ => passAt tk σ) (pa_cons (pv 1) pa_nil)))) (pss_one (ps_if (pt_cmpR op_eq (pv 0) pe_int (nomark _)) (pss_one (ps_expr (pe_callS Uplaces_of.ok (hr.mono (by omega)) rfl Uplaces_of.m Uplaces_of.kp Uplaces_of.b (fun σ => passAt tk σ) (pa_cons (pv 1) pa_nil)))) (pss_one (ps_if (pt_cmpR op_eq (pv 0) pe_int (nomark _)) (pss_one (ps_expr (pe_callS Uhas_place.ok (hr.mono (by omega)) rfl Uhas_place.m Uhas_place.kp Uhas_place.b (fun σ => passAt tk σ) (pa_cons (pv 1) (pa_cons (pv 2) pa_nil))))) (pss_one (ps_expr (pe_callS Upart_of.ok (hr.mono (by omega)) rfl Upart_of.m Upart_of.kp Upart_of.b (fun σ => passAt tk σ) (pa_cons (pv 1) (pa_cons (pv 2) pa_nil))))))))))))))
      (fun a oe cls d pn hz hf => (pss_one (ps_set (i := 5) scRefused.nd rfl (.inl rfl) (pv 9)))))
      (pss_cons (ps_if (PW.pt (pw_or (pt_cmpR op_isN (pv 5) pe_non (nomark _)) (pw_or1 (pt_not (pt_val (pe_callB (r := rIsK K) call_isK (by rfl) T.isi PyProof.Rows.boot_isinstance (pa_cons (pv 5) (pa_cons (pe_bltn (v := .ty "ValueError") (by rfl) mVE bootVE rfl) pa_nil)))))))) (pss_one (ps_ret pe_bl)) pss_nil)
      (pss_cons (ps_set (i := 6) scRefused.nd rfl (.inl rfl) (pe_lst (pa_cons (pe_callB (r := rIsK K) call_isK (by rfl) T.isi PyProof.Rows.boot_isinstance (pa_cons (pv 5) (pa_cons (pe_glob (v := .ref A.c_NoTree) (by rfl) A.m_NoTree rfl) pa_nil))) (pa_cons (pe_callB (r := rIsK K) call_isK (by rfl) T.isi PyProof.Rows.boot_isinstance (pa_cons (pv 5) (pa_cons (pe_glob (v := .ref A.c_NoPath) (by rfl) A.m_NoPath rfl) pa_nil))) (pa_cons (pe_callB (r := rIsK K) call_isK (by rfl) T.isi PyProof.Rows.boot_isinstance (pa_cons (pv 5) (pa_cons (pe_glob (v := .ref A.c_NoPlace) (by rfl) A.m_NoPlace rfl) pa_nil))) pa_nil)))))
      (pss_cons (ps_set (i := 6) scRefused.nd rfl (.inl rfl) (pe_op op_cat (pv 6) (pe_lst (pa_cons (pe_callB (r := rIsK K) call_isK (by rfl) T.isi PyProof.Rows.boot_isinstance (pa_cons (pv 5) (pa_cons (pe_glob (v := .ref A.c_NoDeed) (by rfl) A.m_NoDeed rfl) pa_nil))) (pa_cons (pe_callB (r := rIsK K) call_isK (by rfl) T.isi PyProof.Rows.boot_isinstance (pa_cons (pv 5) (pa_cons (pe_glob (v := .ref A.c_NoCount) (by rfl) A.m_NoCount rfl) pa_nil))) (pa_cons (pe_callB (r := rIsK K) call_isK (by rfl) T.isi PyProof.Rows.boot_isinstance (pa_cons (pv 5) (pa_cons (pe_glob (v := .ref A.c_NoThing) (by rfl) A.m_NoThing rfl) pa_nil))) pa_nil))))))
      (pss_cons (ps_set (i := 7) scRefused.nd rfl (.inl rfl) (pe_lst (pa_cons pe_str (pa_cons pe_str (pa_cons pe_str (pa_cons pe_str (pa_cons pe_str pa_nil)))))))
      (pss_cons (ps_if (pt_cmpR (op_neD hr.units) (pv 6) (pe_op op_cat (pe_lc (own := [("_law_one", 8)]) (g := gName 8) (tt := tYes) (by rfl) scRefused.nd (pi_list (pv 7)) (blkOk_by (N := ["_law_way", "_law_tree_here", "_law_path", "_law_name", "_law_turn", "_law_caught", "_law_said", "_law_names", "_law_one", "error"]) (sc := defScope sRefused) (own := [("_law_one", 8)]) (by decide +kernel)) (fun _ _ _ _ _ => pg_name (i := 8) scRefused.nd rfl (Or.inl rfl)) (fun _ _ _ _ _ => pts_nil) (fun _ _ _ _ _ => (pe_cmpR op_eq (pv 3) (pv 8) (nomark _)))) (pe_lst (pa_cons (pe_cmpR op_ne (pv 3) pe_str (nomark _)) pa_nil))) (nomark _)) (pss_one (ps_ret pe_bl)) pss_nil)
      (pss_cons (ps_if (pt_cmpR op_ne (pe_callB (r := rIsK K) call_isK (by rfl) T.isi PyProof.Rows.boot_isinstance (pa_cons (pv 5) (pa_cons (pe_glob (v := .ref A.c_NoFit) (by rfl) A.m_NoFit rfl) pa_nil))) (pe_cmpR op_eq (pv 3) pe_str (nomark _)) (nomark _)) (pss_one (ps_ret pe_bl)) pss_nil)
      (pss_one (ps_if (PW.pt (pw_and (pt_cmpR op_eq (pv 3) pe_str (nomark _)) (pw_and1 (pt_not (pt_val (pe_call U_law_alike.ok (hr.mono (by omega)) rfl U_law_alike.m U_law_alike.kp U_law_alike.b .nil pass0 (pa_cons (pe_kf A.xf A.nop (pv 5)) (pa_cons (pv 2) pa_nil)))))))) (pss_one (ps_ret pe_bl)) pss_nil)))))))))))
    (pss_one (ps_ret pe_bl))), ?_⟩
  refine ⟨2, rfl, by decide, by decide, ?_⟩
  refine for_range (n := 2) (fun i σ H2 => ∃ (y4 y5 y6 y7 y8 y9 : Option V), σ = [some (.int way), some v, some p, some (.str z), y4, y5, y6, y7, y8, y9] ∧ Same H H2)
    ⟨_, _, _, _, _, _, rfl, Same.refl _⟩ (fun i σ H2 hi pp => ?_) (fun σ H2 pp => ?_)
  · obtain ⟨y4, y5, y6, y7, y8, y9, rfl, e2⟩ := pp
    refine seq_set ?_
    refine seq_keep (tb := tBody n A) (fun cls dd τ H3 => ∃ D, cls = .ref D ∧ τ = [some (.int way), some v, some p, some (.str z), some (.int (0 + (i : Int))), some .non, y6, y7, y8, y9] ∧ RefC A Fd H2 p pd z D dd H3) (fun W D' hW => ?_) (fun cls dd τ H3 hc => ?_)
    · exact body_ok (D' := D') hW e2 hF hv ht hp hpt hw0 hw4 hR f1 f2 f3
    · obtain ⟨D, rfl, rfl, kf, e3, hdx, hnp⟩ := hc
      refine ⟨true, kf.te, fun _ a ha => ?_, fun q => nomatch q⟩
      refine ⟨_, rfl, ?_⟩
      have s4 := same_new (o := CgO (.ref D) dd a) ha
      have c4 : (upd H3 a (CgO (.ref D) dd a)) a = some (CgO (.ref D) dd a) := upd_same
      have x4 := dxo_mono s4 hdx
      refine ⟨_, rfl, rfl, _, rfl, ?_⟩
      refine ⟨_, rfl, a, D, dd, _, _, _, rfl, c4, x4, kf.ex, fun u r => r, kf.ve, _, rfl, ?_⟩
      refine iteF ?_
      -- said
      refine ⟨_, rfl, a, D, dd, _, _, _, rfl, c4, x4, kf.ex, fun u r => r, kf.k1, _, rfl, a, D, dd, _, _, _, rfl, c4, x4, kf.ex, fun u r => r, kf.k2, _, rfl, a, D, dd, _, _, _, rfl, c4, x4, kf.ex, fun u r => r, kf.k3, by show 3 ≤ sizeLine; decide, fun p1 hp1 => ?_⟩
      have s5 := same_new (o := HO.lst [V.bl (decide (V.str z = V.str "NoTree")), V.bl (decide (V.str z = V.str "NoPath")), V.bl (decide (V.str z = V.str "NoPlace"))]) hp1
      have x5 := dxo_mono s5 x4
      have c4b := s5 _ _ c4
      refine ⟨_, rfl, _, rfl, a, D, dd, _, _, _, rfl, c4b, x5, kf.ex, fun u r => r, kf.k4, _, rfl, a, D, dd, _, _, _, rfl, c4b, x5, kf.ex, fun u r => r, kf.k5, _, rfl, a, D, dd, _, _, _, rfl, c4b, x5, kf.ex, fun u r => r, kf.k6, by show 3 ≤ sizeLine; decide, fun p2 hp2 => ?_⟩
      have s6 := same_new (o := HO.lst [V.bl (decide (V.str z = V.str "NoDeed")), V.bl (decide (V.str z = V.str "NoCount")), V.bl (!decide (V.str z = V.str "NoPlace"))]) hp2
      refine ⟨p1, p2, _, _, rfl, rfl, s6 _ _ upd_same, upd_same, by show 6 ≤ sizeLine; decide, fun p3 hp3 => ?_⟩
      have s7 := same_new (o := HO.lst ([V.bl (decide (V.str z = V.str "NoTree")), V.bl (decide (V.str z = V.str "NoPath")), V.bl (decide (V.str z = V.str "NoPlace"))] ++ [V.bl (decide (V.str z = V.str "NoDeed")), V.bl (decide (V.str z = V.str "NoCount")), V.bl (!decide (V.str z = V.str "NoPlace"))])) hp3
      -- names
      refine ⟨by show 5 ≤ sizeLine; decide, fun p4 hp4 => ?_⟩
      have s8 := same_new (o := HO.lst [V.str "NoTree", V.str "NoPath", V.str "NoPlace", V.str "NoDeed", V.str "NoCount"]) hp4
      have c7 := s8 p3 _ upd_same
      have u8 := (((s4.trans s5).trans s6).trans s7).trans s8
      refine ⟨_, rfl, _, rfl, p4, rfl, ⟨_, SqL.of upd_same⟩, fun Dl hDl => ?_⟩
      refine lc_pure (n := 5) (G := fun H => SqL K H p4 nms) (fn_list (xs := nms)) (fun _ => true) (fun i => V.bl (decide (V.str z = nms.getD i .non))) (fun _ e => same_l e (SqL.of upd_same)) (by decide) (fun x => rfl) hDl (fun j H9 _ _ Qt k => k H9 (Same.refl _)) (fun j H9 hj _ _ Qe k => ?_) (fun H9 s9 h9 => ?_)
      · obtain ⟨nm, hnm⟩ : ∃ nm, nms.getD j .non = V.str nm := by
          match j, hj with
          | 0, _ => exact ⟨_, rfl⟩
          | 1, _ => exact ⟨_, rfl⟩
          | 2, _ => exact ⟨_, rfl⟩
          | 3, _ => exact ⟨_, rfl⟩
          | 4, _ => exact ⟨_, rfl⟩
        rw [hnm] at k ⊢
        exact ⟨_, rfl, _, rfl, rfl, k H9 (Same.refl _)⟩
      have h9' : H9 Dl = some (.lst [V.bl (decide (V.str z = V.str "NoTree")), V.bl (decide (V.str z = V.str "NoPath")), V.bl (decide (V.str z = V.str "NoPlace")), V.bl (decide (V.str z = V.str "NoDeed")), V.bl (decide (V.str z = V.str "NoCount"))]) := h9
      have u9 := u8.trans s9
      have c9 := s9 _ _ c7
      refine ⟨_, rfl, rfl, by show 1 ≤ sizeLine; decide, fun p5 hp5 => ?_⟩
      have s10 := same_new (o := HO.lst [V.bl (!decide (V.str z = V.str "NoPlace"))]) hp5
      refine ⟨Dl, p5, _, _, rfl, rfl, s10 _ _ h9', upd_same, by show 6 ≤ sizeLine; decide, fun p6 hp6 => ?_⟩
      have s11 := same_new (o := HO.lst ([V.bl (decide (V.str z = V.str "NoTree")), V.bl (decide (V.str z = V.str "NoPath")), V.bl (decide (V.str z = V.str "NoPlace")), V.bl (decide (V.str z = V.str "NoDeed")), V.bl (decide (V.str z = V.str "NoCount"))] ++ [V.bl (!decide (V.str z = V.str "NoPlace"))])) hp6
      have c11 := s11 _ _ (s10 _ _ c9)
      have u11 := (u9.trans s10).trans s11
      refine ⟨.list [.bool (decide (V.str z = V.str "NoTree")), .bool (decide (V.str z = V.str "NoPath")), .bool (decide (V.str z = V.str "NoPlace")), .bool (decide (V.str z = V.str "NoDeed")), .bool (decide (V.str z = V.str "NoCount")), .bool (!decide (V.str z = V.str "NoPlace"))], .list [.bool (decide (V.str z = V.str "NoTree")), .bool (decide (V.str z = V.str "NoPath")), .bool (decide (V.str z = V.str "NoPlace")), .bool (decide (V.str z = V.str "NoDeed")), .bool (decide (V.str z = V.str "NoCount")), .bool (!decide (V.str z = V.str "NoPlace"))], .lst (SqL.of c11) (.cons (.bl _) (.cons (.bl _) (.cons (.bl _) (.cons (.bl _) (.cons (.bl _) (.cons (.bl _) .nil)))))), .lst (SqL.of upd_same) (.cons (.bl _) (.cons (.bl _) (.cons (.bl _) (.cons (.bl _) (.cons (.bl _) (.cons (.bl _) .nil)))))), flat_shaped rfl, flat_shaped rfl, _, rfl, ?_⟩
      rw [eqv6]
      refine iteF ?_
      have v11 := (((((s5.trans s6).trans s7).trans s8).trans s9).trans s10).trans s11
      have cC := v11 _ _ c4
      have xC := dxo_mono v11 x4
      refine ⟨_, rfl, a, D, dd, _, _, _, rfl, cC, xC, kf.ex, fun u r => r, kf.k7, _, rfl, rfl, rfl, _, rfl, ?_⟩
      refine iteN (fun z => absurd rfl z) (fun _ => ?_)
      refine ⟨_, rfl, rfl, _, rfl, ?_⟩
      refine iteD (fun cc => ?_) (fun cc => ?_)
      · obtain ⟨d', rfl, rfl, hd', hpd, hdep⟩ := hnp (V.str.inj cc)
        have hd2 := u11 _ _ hd'
        have hp2 := dp_mono u11 _ _ hpd
        refine ⟨_, rfl, a, d', _, p, rfl, cC, hd2, rfl, _, rfl, p, p, pd, rfl, hp2, hp2, hdep, fun H12 e12 => ⟨_, rfl, ?_⟩⟩
        exact ⟨_, _, _, _, _, _, rfl, ((e2.trans e3).trans u11).trans e12⟩
      · exact ⟨_, _, _, _, _, _, rfl, (e2.trans e3).trans u11⟩
  · obtain ⟨y4, y5, y6, y7, y8, y9, rfl, e2⟩ := pp
    exact q H2 e2
end
end Tl

set_option Elab.async false
set_option linter.all false
set_option maxRecDepth 100000
set_option maxHeartbeats 8000000
namespace Tl
open PySem L2
theorem tags6_tag : ∀ s ∈ tags6, isTag (.str s) = true := by decide +kernel
theorem cntK_nn (l : Nat) : ∀ (ks : List PyData) (n : Nat), (∀ k ∈ ks, cntB l k ≤ (nn k : Nat)) → n + nnAll ks ≤ 60 → cntK (cntB l) ks n ≤ ((n + nnAll ks : Nat) : Int)
  | [], n, _, h => by
    rw [cntK, nnAll]
    omega
  | k :: r, n, hk, h => by
    have h1 := hk k List.mem_cons_self
    have hp := cntB_pos l k
    rw [nnAll] at h
    rw [cntK, nnAll]
    rw [if_neg (by omega)]
    obtain ⟨m, hm⟩ : ∃ m : Nat, (m : Int) = n + cntB l k := ⟨(n + cntB l k).toNat, by omega⟩
    rw [← hm]
    have ih := cntK_nn l r m (fun x hx => hk x (List.mem_cons_of_mem _ hx)) (by omega)
    omega
theorem nn_mem : ∀ {ks : List PyData} {k : PyData}, k ∈ ks → nn k ≤ nnAll ks
  | k' :: ks, k, h => by
    rw [nnAll]
    rcases List.mem_cons.mp h with rfl | h
    · omega
    · have := nn_mem h
      omega
theorem cnt_nn : ∀ (l h : Nat) (d : PyData), TrD h d → h ≤ l → nn d ≤ 60 → cntB l d ≤ (nn d : Nat)
  | _, 0, _, t, _, _ => t.elim
  | 0, h + 1, _, _, hl, _ => by omega
  | l + 1, h + 1, d, t, hl, hw => by
    obtain ⟨s, ks, rfl, hs, hk⟩ := t
    have e : tagKids (.tuple [.str s, .tuple ks]) = true := by
      rw [tagKids, tags6_tag s hs.2.2.2]
      rfl
    rw [nn] at hw
    rw [cntB, if_pos e, nn]
    have q : cntK (cntB l) ks 1 ≤ ((1 + nnAll ks : Nat) : Int) := cntK_nn l ks 1 (fun k hk2 => by
      have hm := nn_mem hk2
      exact cnt_nn l h k (hk k hk2) (by omega) (by omega)) (by omega)
    exact q
theorem tr_treeN {h : Nat} {d : PyData} (t : TrD h d) (hl : h ≤ 12) (hw : nn d ≤ 60) : isTreeD d = true := by
  rw [tree_cnt]
  have := cnt_nn 12 h d t hl hw
  exact decide_eq_true (by omega)
theorem len_nn : ∀ ks : List PyData, ks.length ≤ nnAll ks
  | [] => Nat.zero_le _
  | k :: ks => by
    have := len_nn ks
    have : 1 ≤ nn k := by
      unfold nn
      split <;> omega
    rw [nnAll, List.length_cons]
    omega
theorem sub_small : ∀ {q : List Nat} {n : Nat} {d e : PyData}, TrD n d → sub d q = some e → q.length < n ∧ (∀ i ∈ q, i < nn d) ∧ nn e ≤ nn d
  | [], 0, d, e, h, he => h.elim
  | [], n + 1, d, e, h, he => by
    rw [sub] at he
    cases he
    exact ⟨Nat.succ_pos _, fun i hi => absurd hi List.not_mem_nil, Nat.le_refl _⟩
  | i :: q, n, d, e, h, he => by
    obtain ⟨s, ks, k, rfl, hk, h2⟩ := sub_cons he
    obtain ⟨s', ks', e', _, h3⟩ := trD_node h
    cases e'
    obtain ⟨a, b, c⟩ := sub_small (h3 k (List.mem_of_getElem? hk)) h2
    have hl := (List.getElem?_eq_some_iff.mp hk).1
    have h4 := len_nn ks
    have h5 := nn_mem (List.mem_of_getElem? hk)
    rw [nn]
    refine ⟨?_, fun j hj => ?_, by omega⟩
    · rw [List.length_cons]
      omega
    · rcases List.mem_cons.mp hj with rfl | hj
      · omega
      · have := b j hj
        omega
theorem plcAll_sub : ∀ (i : Nat) (ks : List PyData), (∀ k ∈ ks, ∀ q ∈ plc k, ∃ e, sub k q = some e) → ∀ q ∈ plcAll i ks, ∃ (j : Nat) (k : PyData) (q' : List Nat) (e : PyData), q = (i + j) :: q' ∧ ks[j]? = some k ∧ sub k q' = some e
  | _, [], _, q, hq => by
    rw [plcAll] at hq
    exact absurd hq List.not_mem_nil
  | i, k :: ks, h, q, hq => by
    rw [plcAll] at hq
    rcases List.mem_append.mp hq with hq | hq
    · obtain ⟨q', h1, rfl⟩ := List.mem_map.mp hq
      obtain ⟨e, he⟩ := h k (.head _) q' h1
      exact ⟨0, k, q', e, rfl, rfl, he⟩
    · obtain ⟨j, k', q', e, h1, h2, h3⟩ := plcAll_sub (i + 1) ks (fun x hx => h x (.tail _ hx)) q hq
      exact ⟨j + 1, k', q', e, by rw [h1]; congr 1; omega, h2, h3⟩
theorem plc_sub : ∀ {n : Nat} {d : PyData}, TrD n d → ∀ q ∈ plc d, ∃ e, sub d q = some e
  | n + 1, _, ⟨s, ks, rfl, _, h⟩, q, hq => by
    rw [plc] at hq
    rcases List.mem_cons.mp hq with rfl | hq
    · exact ⟨_, by rw [sub]⟩
    · obtain ⟨j, k, q', e, rfl, h2, h3⟩ := plcAll_sub 0 ks (fun k hk => plc_sub (h k hk)) q hq
      refine ⟨e, ?_⟩
      rw [sub, Nat.zero_add, h2]
      exact h3
theorem path_is {q : List Nat} (h1 : q.length < 12) (h2 : ∀ i ∈ q, i ≤ 59) : isPath (pathD q) = true := by
  unfold pathD
  rw [isPath, List.length_map, decide_eq_true h1, Bool.true_and, List.all_map, List.all_eq_true]
  intro i hi
  have := h2 i hi
  show isNum 59 (.int (i : Int)) = true
  rw [isNum, decide_eq_true (by omega), decide_eq_true (by omega)]
  rfl
theorem sub_app : ∀ {q : List Nat} {d e : PyData} (i : Nat), sub d q = some e → sub d (q ++ [i]) = sub e [i]
  | [], d, e, i, h => by
    rw [sub] at h
    cases h
    rfl
  | j :: q, d, e, i, h => by
    obtain ⟨s, ks, k, rfl, hk, h2⟩ := sub_cons h
    rw [List.cons_append, sub, hk]
    exact sub_app i h2
end Tl

set_option Elab.async false
set_option linter.all false
set_option maxRecDepth 100000
set_option maxHeartbeats 16000000
namespace Tl
open PySem L2
abbrev sLaw : Stmt := top 41
/-- a list of our own is left as it is from now on -/
theorem gw_freeze {F H F' H' : Hp} {a : Addr} {o : HO} (g : Gw F H F' H') (h : H' a = some o) (hn : H a = none) (hf : F' a = none) : Gw F H (upd F' a o) H' := by
  refine ⟨fun b u q => ?_, fun b u q => ?_, g.hh, fun b h1 h2 => ?_⟩
  · have := g.ff b u q
    rw [upd_ne (fun z => by rw [z, hf] at this; cases this)]
    exact this
  · by_cases z : b = a
    · subst z
      rw [upd_same] at q
      cases q
      exact h
    · rw [upd_ne z] at q
      exact g.fh b u q
  · rw [upd_ne (fun z => by rw [z] at h1; exact h1 hn)]
    exact g.nw b h1 h2
theorem pathD_depth (q : List Nat) : (pathD q).depth ≤ 1 := by
  unfold pathD
  rw [PyData.depth]
  have : PyData.depthAll (q.map fun (n : Nat) => PyData.int (n : Int)) = 0 := by
    induction q with
    | nil => rfl
    | cons a r ih => rw [List.map_cons, PyData.depthAll, ih]; rfl
  omega
theorem paths_depth : ∀ L : List (List Nat), PyData.depthAll (L.map pathD) ≤ 1
  | [] => by rw [List.map_nil]; exact Nat.zero_le _
  | q :: L => by
    rw [List.map_cons, PyData.depthAll]
    have h1 := pathD_depth q
    have h2 := paths_depth L
    omega
theorem sub_trn : ∀ {q : List Nat} {n : Nat} {d e : PyData}, TrD n d → sub d q = some e → TrD n e
  | [], n, d, e, h, he => by
    rw [sub] at he
    cases he
    exact h
  | i :: q, n, d, e, h, he => by
    obtain ⟨s, ks, k, rfl, hk, h2⟩ := sub_cons he
    obtain ⟨s', ks', e', _, h3⟩ := trD_node h
    cases e'
    exact TrD.mono (by omega) (sub_trn (h3 k (List.mem_of_getElem? hk)) h2)
theorem txt_path (q : List Nat) : txt (pathD q) = true := by
  unfold pathD
  rw [txt]
  induction q with
  | nil => rfl
  | cons a r ih => rw [List.map_cons, txtAll, ih]; rfl
theorem at_mem {xs : List V} {m : Int} (h0 : 0 ≤ m) (h1 : m < xs.length) : ∃ x, atI xs m = some x ∧ x ∈ xs := by
  obtain ⟨j, rfl⟩ : ∃ j : Nat, m = (j : Int) := ⟨m.toNat, by omega⟩
  have hj : j < xs.length := by omega
  exact ⟨xs[j], atI_nat (List.getElem?_eq_getElem hj), List.getElem_mem hj⟩
theorem atI_last {xs : List V} (h : 0 < xs.length) : atI xs (-1) = atI xs ((xs.length : Int) - 1) := by
  unfold atI ixN
  rw [if_neg (by omega), if_pos (by omega), if_pos (by omega), if_pos (by omega)]
  congr 2
section
variable {P : Program} {w : World} {K : PySem.W.Frag} {mg : Str → Option Value} {base : Heap}
/-- all that law calls -/
structure Calls (P : Program) (w : World) (K : PySem.W.Frag) (mg : Str → Option Value) (base : Heap) (A : Cls K mg) where
  size_of : UseX P w K mg base "size_of" ["tree"] 20 (spAsk K (fun d => (plc d).length) 10 A.c_NoTree)
  depth_of : UseX P w K mg base "depth_of" ["tree"] 20 (spAsk K lev 10 A.c_NoTree)
  places_of : UseX P w K mg base "places_of" ["tree"] 20 (spAskP K 10 A.c_NoTree)
  has_place : UseX P w K mg base "has_place" ["tree", "path"] 20 (spHas K 10 A.c_NoTree A.c_NoPath)
  part_of : UseX P w K mg base "part_of" ["tree", "path"] 20 (spPartOf K 10 A.c_NoTree A.c_NoPath A.c_NoPlace)
  state : Use P w K mg base "_law_state" ["_law_script"] 1 (spState K)
  next : Use P w K mg base "_law_next" ["_law_state_here", "_law_below"] 1 spNext
  alike : Use P w K mg base "_law_alike" ["_law_found", "_law_due"] 50 (spAlike K 50)
  tree : Use P w K mg base "_law_tree" ["_law_state_here", "_law_most"] 2 (spTreeL K)
  places : Use P w K mg base "_law_places" ["_law_tree_here", "_law_path"] 10 (spPl K 10)
  reach : Use P w K mg base "_law_reach" ["_law_tree_here", "_law_path"] 1 (spReach K)
  levels : Use P w K mg base "_law_levels" ["_law_tree_here"] 10 (spNum K lev 10)
  refused : Use P w K mg base "_law_refused" ["_law_way", "_law_tree_here", "_law_path", "_law_name"] 51 (spRef K 10)
theorem scLaw : FnScope ["_law_script", "_law_state_here", "_law_turn", "_law_tree_here", "_law_places_here", "_law_told", "_law_path", "_law_beyond", "_law_one", "_law_none", "_law_odd", "_law_way"] ["_law_script"] (defScope sLaw) := ⟨rfl, rfl, rfl, by decide +kernel, rfl, by decide +kernel, by decide +kernel⟩
theorem ok_law {f : Addr} {fd : FuncData} {s : Shared} {H : Hp} {a : Addr} {ns : List Int} (F : Fun K "law" "law" sLaw f fd) (T : Bl mg) {A : Cls K mg} (U : Calls P w K mg base A) (hS : SqL K H a (ns.map V.int)) (e0 : Env0 P w K mg base callerA [] s H) :
    codeAny (model P w) callerA (.call (.ref f) ⟨[.ref a], []⟩) (CR CX0 [] P w H s (fun v _ => v = V.bl true) fun _ _ _ => False) s := by
  have hb := F.binds (ps := ["_law_script"]) fun _ _ _ _ _ _ us hl => match us, hl with | [_], _ => rfl
  have KX : K.In s.heap := e0.mod.kin.keeps fun b o q => (e0.bs b o q).1
  obtain ⟨Usize_of, Udepth_of, Uplaces_of, Uhas_place, Upart_of, U_law_state, U_law_next, U_law_alike, U_law_tree, U_law_places, U_law_reach, U_law_levels, U_law_refused⟩ := U
  refine run_at (k := 60) (vs := [V.ref a]) (us := [Value.ref a]) F scLaw ⟨rfl, by decide, by decide⟩ e0 (hb s [.ref a] KX rfl) (.cons rfl .nil) rfl (fun cdv hr => ?_)
  refine ⟨_, (pss_cons (ps_set (i := 1) scLaw.nd rfl (.inl rfl) (pe_call U_law_state.ok (hr.mono (by omega)) rfl U_law_state.m U_law_state.kp U_law_state.b .nil pass0 (pa_cons (pv 0) pa_nil)))
    (pss_cons (ps_for PassesOwn.never rfl (pi_range1 (by rfl) T.range (pa_cons pe_int pa_nil)) (pg_name (i := 2) scLaw.nd rfl (.inl rfl)) (pss_cons (ps_set (i := 3) scLaw.nd rfl (.inl rfl) (pe_call U_law_tree.ok (hr.mono (by omega)) rfl U_law_tree.m U_law_tree.kp U_law_tree.b .nil pass0 (pa_cons (pv 1) (pa_cons pe_int pa_nil))))
      (pss_cons (ps_set (i := 4) scLaw.nd rfl (.inl rfl) (pe_call U_law_places.ok (hr.mono (by omega)) rfl U_law_places.m U_law_places.kp U_law_places.b .nil pass0 (pa_cons (pv 3) (pa_cons (pe_tup pa_nil) pa_nil))))
      (pss_cons (ps_if (pt_not (pt_val (pe_call U_law_alike.ok (hr.mono (by omega)) rfl U_law_alike.m U_law_alike.kp U_law_alike.b .nil pass0 (pa_cons (pe_lst (pa_cons (pe_callS Usize_of.ok (hr.mono (by omega)) rfl Usize_of.m Usize_of.kp Usize_of.b (fun σ => passAt takes0 σ) (pa_cons (pv 3) pa_nil)) (pa_cons (pe_callS Udepth_of.ok (hr.mono (by omega)) rfl Udepth_of.m Udepth_of.kp Udepth_of.b (fun σ => passAt takes0 σ) (pa_cons (pv 3) pa_nil)) pa_nil))) (pa_cons (pe_lst (pa_cons (pe_callB call_len_seq (by rfl) T.len PySem.boot_len (pa_cons (pv 4) pa_nil)) (pa_cons (pe_call U_law_levels.ok (hr.mono (by omega)) rfl U_law_levels.m U_law_levels.kp U_law_levels.b .nil pass0 (pa_cons (pv 3) pa_nil)) pa_nil))) pa_nil))))) (pss_one (ps_ret pe_bl)) pss_nil)
      (pss_cons (ps_set (i := 5) scLaw.nd rfl (.inl rfl) (pe_callS Uplaces_of.ok (hr.mono (by omega)) rfl Uplaces_of.m Uplaces_of.kp Uplaces_of.b (fun σ => passAt takes0 σ) (pa_cons (pv 3) pa_nil)))
      (pss_cons (ps_if (pt_not (pt_val (pe_call U_law_alike.ok (hr.mono (by omega)) rfl U_law_alike.m U_law_alike.kp U_law_alike.b .nil pass0 (pa_cons (pv 5) (pa_cons (pv 4) pa_nil))))) (pss_one (ps_ret pe_bl)) pss_nil)
      (pss_cons (ps_expr (pe_bm PySem.F.plainAttrs_list PySem.F.slot_list_append PySem.F.type_list_append mt_append (pv 5) (pa_cons (pe_tup pa_nil) pa_nil)))
      (pss_cons (ps_set (i := 6) scLaw.nd rfl (.inl rfl) (pe_ix ix_list (pv 4) (pe_call U_law_next.ok (hr.mono (by omega)) rfl U_law_next.m U_law_next.kp U_law_next.b .nil pass0 (pa_cons (pv 1) (pa_cons (pe_callB call_len_seq (by rfl) T.len PySem.boot_len (pa_cons (pv 4) pa_nil)) pa_nil))) (fun _ _ => rfl)))
      (pss_cons (ps_set (i := 7) scLaw.nd rfl (.inl rfl) (pe_op op_catA (pv 6) (pe_tup (pa_cons (pe_op op_add (pe_callB call_len_seq (by rfl) T.len PySem.boot_len (pa_cons (pe_ix ix_tup (pe_call U_law_reach.ok (hr.mono (by omega)) rfl U_law_reach.m U_law_reach.kp U_law_reach.b .nil pass0 (pa_cons (pv 3) (pa_cons (pv 6) pa_nil))) pe_int (fun _ _ => rfl)) pa_nil)) (pe_call U_law_next.ok (hr.mono (by omega)) rfl U_law_next.m U_law_next.kp U_law_next.b .nil pass0 (pa_cons (pv 1) (pa_cons pe_int pa_nil)))) pa_nil))))
      (pss_cons (ps_for PassesOwn.never rfl (pi_list (pe_lst (pa_cons (pv 6) (pa_cons (pe_tup pa_nil) (pa_cons (pe_ix ix_list (pv 4) (pe_un un_neg pe_int) (fun _ _ => rfl)) pa_nil))))) (pg_name (i := 8) scLaw.nd rfl (.inl rfl)) (pss_one (ps_if (PW.pt (pw_or (pt_cmpR op_notBl (pe_callS Uhas_place.ok (hr.mono (by omega)) rfl Uhas_place.m Uhas_place.kp Uhas_place.b (fun σ => passAt takes0 σ) (pa_cons (pv 3) (pa_cons (pv 8) pa_nil))) pe_bl (nomark _)) (pw_or1 (pt_not (pt_val (pe_call U_law_alike.ok (hr.mono (by omega)) rfl U_law_alike.m U_law_alike.kp U_law_alike.b .nil pass0 (pa_cons (pe_callS Upart_of.ok (hr.mono (by omega)) rfl Upart_of.m Upart_of.kp Upart_of.b (fun σ => passAt takes0 σ) (pa_cons (pv 3) (pa_cons (pv 8) pa_nil))) (pa_cons (pe_call U_law_reach.ok (hr.mono (by omega)) rfl U_law_reach.m U_law_reach.kp U_law_reach.b .nil pass0 (pa_cons (pv 3) (pa_cons (pv 8) pa_nil))) pa_nil)))))))) (pss_one (ps_ret pe_bl)) pss_nil)))
      (pss_cons (ps_if (PW.pt (pw_or (pt_cmpR op_notBl (pe_callS Uhas_place.ok (hr.mono (by omega)) rfl Uhas_place.m Uhas_place.kp Uhas_place.b (fun σ => passAt takes0 σ) (pa_cons (pv 3) (pa_cons (pv 7) pa_nil))) pe_bl (nomark _)) (pw_or1 (pt_not (pt_val (pe_call U_law_refused.ok (hr.mono (by omega)) rfl U_law_refused.m U_law_refused.kp U_law_refused.b .nil pass0 (pa_cons pe_int (pa_cons (pv 3) (pa_cons (pv 7) (pa_cons pe_str pa_nil)))))))))) (pss_one (ps_ret pe_bl)) pss_nil)
      (pss_cons (ps_set (i := 9) scLaw.nd rfl (.inl rfl) (pe_ix ix_list (pe_lst (pa_cons pe_non (pa_cons (pe_tup pa_nil) (pa_cons (pe_tup (pa_cons pe_str pa_nil)) (pa_cons (pe_tup (pa_cons pe_str (pa_cons (pe_tup pa_nil) pa_nil))) (pa_cons (pe_lst (pa_cons pe_str (pa_cons (pe_tup pa_nil) pa_nil))) (pa_cons (pe_tup (pa_cons pe_str (pa_cons (pe_lst pa_nil) pa_nil))) (pa_cons (pe_tup (pa_cons pe_str (pa_cons (pe_tup (pa_cons (pe_tup (pa_cons pe_str pa_nil)) pa_nil)) pa_nil))) (pa_cons pe_str (pa_cons pe_dnewK pa_nil)))))))))) (pe_call U_law_next.ok (hr.mono (by omega)) rfl U_law_next.m U_law_next.kp U_law_next.b .nil pass0 (pa_cons (pv 1) (pa_cons pe_int pa_nil))) (fun _ _ => rfl)))
      (pss_cons (ps_set (i := 10) scLaw.nd rfl (.inl rfl) (pe_ix ix_list (pe_lst (pa_cons pe_non (pa_cons (pe_lst (pa_cons pe_int pa_nil)) (pa_cons (pe_tup (pa_cons pe_int pa_nil)) (pa_cons (pe_tup (pa_cons (pe_un un_neg pe_int) pa_nil)) (pa_cons (pe_tup (pa_cons pe_bl pa_nil)) (pa_cons (pe_op op_repA (pe_tup (pa_cons pe_int pa_nil)) pe_int) (pa_cons pe_str (pa_cons pe_int (pa_cons (pe_tup (pa_cons pe_str pa_nil)) pa_nil)))))))))) (pe_call U_law_next.ok (hr.mono (by omega)) rfl U_law_next.m U_law_next.kp U_law_next.b .nil pass0 (pa_cons (pv 1) (pa_cons pe_int pa_nil))) (fun _ _ => rfl)))
      (pss_cons (ps_for PassesOwn.never rfl (pi_range1 (by rfl) T.range (pa_cons pe_int pa_nil)) (pg_name (i := 11) scLaw.nd rfl (.inl rfl)) (pss_one (ps_if (PW.pt (pw_or (pt_not (pt_val (pe_call U_law_refused.ok (hr.mono (by omega)) rfl U_law_refused.m U_law_refused.kp U_law_refused.b .nil pass0 (pa_cons (pv 11) (pa_cons (pv 9) (pa_cons (pv 10) (pa_cons pe_str pa_nil))))))) (pw_or1 (pt_not (pt_val (pe_call U_law_refused.ok (hr.mono (by omega)) rfl U_law_refused.m U_law_refused.kp U_law_refused.b .nil pass0 (pa_cons (pv 11) (pa_cons (pv 9) (pa_cons (pv 6) (pa_cons pe_str pa_nil)))))))))) (pss_one (ps_ret pe_bl)) pss_nil)))
      (pss_cons (ps_if (PW.pt (pw_or (pt_not (pt_val (pe_call U_law_refused.ok (hr.mono (by omega)) rfl U_law_refused.m U_law_refused.kp U_law_refused.b .nil pass0 (pa_cons pe_int (pa_cons (pv 3) (pa_cons (pv 10) (pa_cons pe_str pa_nil))))))) (pw_or1 (pt_not (pt_val (pe_call U_law_refused.ok (hr.mono (by omega)) rfl U_law_refused.m U_law_refused.kp U_law_refused.b .nil pass0 (pa_cons pe_int (pa_cons (pv 3) (pa_cons (pv 10) (pa_cons pe_str pa_nil)))))))))) (pss_one (ps_ret pe_bl)) pss_nil)
      (pss_one (ps_if (pt_not (pt_val (pe_call U_law_alike.ok (hr.mono (by omega)) rfl U_law_alike.m U_law_alike.kp U_law_alike.b .nil pass0 (pa_cons (pe_callS Uplaces_of.ok (hr.mono (by omega)) rfl Uplaces_of.m Uplaces_of.kp Uplaces_of.b (fun σ => passAt takes0 σ) (pa_cons (pv 3) pa_nil)) (pa_cons (pv 4) pa_nil))))) (pss_one (ps_ret pe_bl)) pss_nil)))))))))))))))))
    (pss_one (ps_ret pe_bl)))), ?_⟩
  refine ⟨_, rfl, a, ns, rfl, hS, fun st cc H1 e1 hst sa1 => ?_⟩
  have W1 : Wd st cc (fun _ => none) H1 := ⟨fun b o q => (by cases q), rfl, sa1⟩
  refine ⟨3, rfl, by decide, by decide, ?_⟩
  refine for_range (n := 3) (fun i σ H6 => ∃ (F6 : Hp) (y2 y3 y4 y5 y6 y7 y8 y9 y10 y11 : Option V), σ = [some (.ref a), some (.ref st), y2, y3, y4, y5, y6, y7, y8, y9, y10, y11] ∧ Wd st cc F6 H6)
    ⟨_, none, none, none, none, none, none, none, none, none, none, rfl, W1⟩ (fun i σ H6 hi p => ?_) (fun σ H6 p => ?_)
  · obtain ⟨F6, y2, y3, y4, y5, y6, y7, y8, y9, y10, y11, rfl, W6⟩ := p
    refine ⟨_, rfl, st, cc, F6, 20, rfl, W6, by decide, by decide, fun tv td F7 H7 W7 e7 dtv ttv wtv nnv => ?_⟩
    have hnn : nn td ≤ 20 := by omega
    have isT : isTreeD td = true := tr_treeN ttv (by decide) (by omega)
    have noT : isTreeD td = false → False := fun h => by rw [isT] at h; cases h
    have txd : txt td = true := gd_txt td ttv.gd.1
    -- places
    refine ⟨_, rfl, by show 0 ≤ sizeLine; decide, fun t0 ht0 => ?_⟩
    obtain ⟨g8, d8⟩ := gw_tup (K := K) (xs := []) W7.fh ht0 .nil
    have W8 := W7.gw g8
    refine ⟨_, tv, td, .ref t0, [], rfl, W8.fh, dp_mono g8.ff _ _ dtv, ttv, d8, by omega, by decide, by decide, fun pa pxs F9 H9 g9 hpa hpan hpaF hpx => ?_⟩
    have gz := gw_freeze g9 hpa hpan hpaF
    have W10 := W8.gw gz
    have dt10 := dp_mono (g8.ff.trans gz.ff) _ _ dtv
    have ePl : (plc td).map ([] ++ ·) = plc td := by simp
    rw [ePl] at hpx
    have ff9 : Same F9 (upd F9 pa (.lst pxs)) := same_new hpaF
    have dpl : Dp K (upd F9 pa (.lst pxs)) (.ref pa) (.list ((plc td).map pathD)) := .lst (.inl (.inl upd_same)) (dpAll_mono ff9 _ _ hpx)
    have plen : pxs.length = (plc td).length := by
      have := DpAll.len hpx
      rwa [List.length_map] at this
    have hpz : (upd F9 pa (.lst pxs)) pa = some (.lst pxs) := upd_same
    generalize upd F9 pa (.lst pxs) = F10 at gz W10 dt10 ff9 dpl hpz
    have it : ∀ F', Same F10 F' → IsT K F' tv td 10 := fun F' e => ⟨dp_mono e _ _ dt10, ttv, by omega⟩
    -- size and depth
    refine ⟨_, rfl, F10, tv, td, rfl, W10.fh, .d dt10, txd, fun c => (noT c).elim, fun _ => ⟨it _ (Same.refl _), fun H11 e11 => ?_⟩⟩
    have W11 := W10.same e11
    refine ⟨_, rfl, F10, tv, td, rfl, W11.fh, .d dt10, txd, fun c => (noT c).elim, fun _ => ⟨it _ (Same.refl _), fun H12 e12 => ?_⟩⟩
    have W12 := W11.same e12
    refine ⟨by show 2 ≤ sizeLine; decide, fun p1 hp1 => ?_⟩
    have s13 := same_new (o := HO.lst [V.int (((plc td).length : Nat) : Int), V.int ((lev td : Nat) : Int)]) hp1
    have W13 := W12.same s13
    refine ⟨_, rfl, pa, pxs, rfl, .inl (SqL.of (W13.fh _ _ hpz)), ?_⟩
    refine ⟨_, rfl, F10, tv, td, rfl, W13.fh, dt10, ttv, by omega, fun H14 e14 => ?_⟩
    have W14 := W13.same e14
    refine ⟨by show 2 ≤ sizeLine; decide, fun p2 hp2 => ?_⟩
    have s15 := same_new (o := HO.lst [V.int ((pxs.length : Nat) : Int), V.int ((lev td : Nat) : Int)]) hp2
    have W15 := W14.same s15
    refine ⟨.ref p1, .ref p2, .list [.int (((plc td).length : Nat) : Int), .int ((lev td : Nat) : Int)], rfl, .lst (SqL.of (s15 _ _ (e14 _ _ upd_same))) (.cons (.int _) (.cons (.int _) .nil)), .lst (SqL.of upd_same) (.cons (by rw [plen]; exact .int _) (.cons (.int _) .nil)), (by decide : (1 : Nat) < 50), fun H16 e16 => ⟨_, rfl, ?_⟩⟩
    have W16 := W15.same e16
    refine iteF ?_
    refine ⟨_, rfl, F10, tv, td, rfl, W16.fh, .d dt10, txd, fun c => (noT c).elim, fun _ => ⟨it _ (Same.refl _), by decide, fun ta txs F17 H17 g17 hta htan htaF htx => ?_⟩⟩
    have W17 := W16.gw g17
    have dep : (PyData.list ((plc td).map pathD)).depth < 50 := by
      rw [PyData.depth]
      have := paths_depth (plc td)
      omega
    refine ⟨_, rfl, _, rfl, .ref ta, .ref pa, .list ((plc td).map pathD), rfl, .lst (SqL.of hta) (dpAll_mono g17.fh _ _ htx), dp_mono (g17.ff.trans g17.fh) _ _ dpl, dep, fun H18 e18 => ⟨_, rfl, ?_⟩⟩
    have W18 := W17.same e18
    refine iteF ?_
    -- told.append(())
    have hta18 := e18 _ _ hta
    have nst := W16.ne htan
    have tlen : txs.length = (plc td).length := by
      have := DpAll.len htx
      rwa [List.length_map] at this
    have ple := plc_le ttv
    refine ⟨_, rfl, .inl ⟨rfl, _, SqL.of hta18⟩, by show 0 ≤ sizeLine; decide, fun t1 ht1 => ?_⟩
    obtain ⟨g19, d19⟩ := gw_tup (K := K) (xs := []) W18.fh ht1 .nil
    have W19 := W18.gw g19
    refine ⟨ta, _, _, rfl, rfl, g19.hh _ _ hta18, Nat.lt_of_le_of_lt (show txs.length ≤ 100000 by omega) (by decide), ?_⟩
    have htF19 := g19.nw ta (by rw [hta18]; exact fun z => nomatch z) htaF
    have W20 := W19.mut (o := .lst (txs ++ [.ref t1])) htF19 nst.1 nst.2
    have f20 := g17.ff.trans g19.ff
    have dpl20 := dp_mono f20 _ _ dpl
    have hpz20 := f20 _ _ hpz
    have dt20 := dp_mono f20 _ _ dt10
    have hpx20 := dpAll_mono (ff9.trans f20) _ _ hpx
    generalize upd F17 t1 (.tup []) = F20 at W20 f20 dpl20 hpz20 dt20 hpx20
    have pick : ∀ m : Int, 0 ≤ m → m < (pxs.length : Nat) → ∃ pv q e, atI pxs m = some pv ∧ Dp K F20 pv (pathD q) ∧ sub td q = some e ∧ q.length < 10 ∧ (∀ j ∈ q, j < 20) ∧ TrD 10 e ∧ nn e ≤ 20 := fun m hm0 hm1 => by
      obtain ⟨pv, pd, hat, hmem, dpv⟩ := DpAll.pick hpx20 hm0 (by rw [List.length_map]; omega)
      obtain ⟨q, hqL, rfl⟩ := List.mem_map.mp hmem
      obtain ⟨e, hsub⟩ := plc_sub ttv q hqL
      obtain ⟨h1, h2, h3⟩ := sub_small ttv hsub
      have te := sub_trn ttv hsub
      exact ⟨pv, q, e, hat, dpv, hsub, h1, fun j hj => by have := h2 j hj; omega, te, by omega⟩
    have ppos : 0 < pxs.length := by
      rw [plen]
      obtain ⟨s0, ks, rfl, _⟩ := trD_node ttv
      rw [plc, List.length_cons]
      omega
    refine ⟨_, rfl, _, rfl, _, rfl, pa, pxs, rfl, .inl (SqL.of (W20.fh _ _ hpz20)), st, cc, _, rfl, W20.sa, by omega, by omega, fun m3 o3 hm30 hm31 sa3 => ?_⟩
    have W21 := W20.next sa3
    obtain ⟨pv, q, e, hat3, dpv, hsub, pq1, pq2, te, hne⟩ := pick m3 hm30 hm31
    refine ⟨pa, pxs, m3, pv, rfl, rfl, SqL.of (W21.fh _ _ hpz20), hat3, ?_⟩
    -- beyond
    obtain ⟨sg, ks, rfl, hsg, hks⟩ := trD_node te
    have lks := len_nn ks
    rw [nn] at hne
    refine ⟨_, rfl, _, rfl, _, rfl, F20, tv, td, pv, q, _, rfl, W21.fh, dt20, dpv, hsub, fun rv drv => ?_⟩
    cases drv with
    | @tup ra rxs _ hra hrx =>
    obtain ⟨x0, y0, _, _, rfl, h00, dx0, dy0⟩ := DpAll.two hrx (DpAll.len hrx)
    cases h00
    cases dy0 with
    | @tup rc rys _ hrc hry =>
    have lry : rys.length = ks.length := DpAll.len hry
    refine ⟨ra, _, 1, _, rfl, rfl, same_t W21.fh hra, atI_nat (j := 1) rfl, rc, rys, rfl, .inr (same_t W21.fh hrc), ?_⟩
    refine ⟨_, rfl, st, cc, 3, rfl, W21.sa, by decide, by decide, fun m4 o4 hm40 hm41 sa4 => ?_⟩
    have W22 := W21.next sa4
    refine ⟨_, _, rfl, rfl, by show 1 ≤ sizeLine; decide, fun t2 ht2 => ?_⟩
    obtain ⟨bi, hbi⟩ : ∃ bi : Nat, (bi : Int) = (rys.length : Nat) + m4 := ⟨((rys.length : Nat) + m4).toNat, by omega⟩
    obtain ⟨g23, d23⟩ := gw_tup (K := K) (xs := [.int ((rys.length : Nat) + m4)]) W22.fh ht2 (.cons (.int _) .nil)
    have W23 := W22.gw g23
    obtain ⟨qa, rfl, hqa⟩ := dp_path (dp_mono g23.ff _ _ dpv)
    cases d23 with
    | @tup _ xs2 _ hs2 ha2 =>
    refine cat_data (K := K) (ds := q.map fun (n : Nat) => PyData.int (n : Int)) W23.fh hqa hs2 (path_all q) ha2 ?_ (fun bv F24 H24 g24 dbv => ?_)
    · rw [List.length_map, DpAll.len ha2]
      exact sz1000 (by show q.length + 1 ≤ 1000; omega)
    have W24 := W23.gw g24
    have ebv : PyData.tuple ((q.map fun (n : Nat) => PyData.int (n : Int)) ++ [PyData.int ((rys.length : Nat) + m4)]) = pathD (q ++ [bi]) := by
      unfold pathD
      rw [List.map_append, ← hbi]
      rfl
    rw [ebv] at dbv
    have bnone : sub td (q ++ [bi]) = none := by
      rw [sub_app bi hsub, sub, List.getElem?_eq_none (by omega)]
    have bpath : isPath (pathD (q ++ [bi])) = true := path_is (by rw [List.length_append]; show q.length + 1 < 12; omega) fun j hj => by
      rcases List.mem_append.mp hj with hj | hj
      · have := pq2 j hj
        omega
      · rw [List.mem_singleton.mp hj]
        omega
    -- the three places
    have f24 := g23.ff.trans g24.ff
    dsimp only [tC]
    refine ⟨_, rfl, by show 0 ≤ sizeLine; decide, fun t3 ht3 => ?_⟩
    obtain ⟨g25, d25⟩ := gw_tup (K := K) (xs := []) W24.fh ht3 .nil
    have W25 := W24.gw g25
    have f25 := f24.trans g25.ff
    obtain ⟨lv, ql, el, hatl, dlv, hsubl, pql1, pql2, tel, _⟩ := pick ((pxs.length : Int) - 1) (by omega) (by omega)
    rw [← atI_last ppos] at hatl
    refine ⟨_, rfl, 1, rfl, pa, pxs, -1, lv, rfl, rfl, SqL.of (W25.fh _ _ (f25 _ _ hpz20)), hatl, by show 3 ≤ sizeLine; decide, fun p5 hp5 => ?_⟩
    have s26 := same_new (o := HO.lst [.ref qa, .ref t3, lv]) hp5
    have W26 := W25.same s26
    refine ⟨p5, rfl, ⟨_, SqL.of upd_same⟩, ?_⟩
    have h26 : (upd (upd H24 t3 (.tup [])) p5 (HO.lst [.ref qa, .ref t3, lv])) p5 = some (.lst [.ref qa, .ref t3, lv]) := upd_same
    have dt25 := dp_mono f25 _ _ dt20
    have db25 := dp_mono g25.ff _ _ dbv
    have dp25 := dp_mono f25 _ _ dpv
    have hpz25 := f25 _ _ hpz20
    have dpl25 := dp_mono f25 _ _ dpl20
    have items : ∀ x ∈ [V.ref qa, V.ref t3, lv], ∃ q' e', Dp K (upd F24 t3 (.tup [])) x (pathD q') ∧ sub td q' = some e' ∧ isPath (pathD q') = true ∧ TrD 10 e' := by
      simp only [List.forall_mem_cons]
      refine ⟨⟨q, _, dp25, hsub, path_is (by omega) fun j hj => by have := pq2 j hj; omega, te⟩, ⟨[], td, d25, by rw [sub], rfl, ttv⟩, ⟨ql, el, dp_mono f25 _ _ dlv, hsubl, path_is (by omega) fun j hj => by have := pql2 j hj; omega, tel⟩, fun x hx => absurd hx List.not_mem_nil⟩
    generalize upd F24 t3 (.tup []) = F25 at W26 dt25 db25 dp25 hpz25 dpl25 items
    have it25 : IsT K F25 tv td 10 := ⟨dt25, ttv, by omega⟩
    refine for_list (xs := [.ref qa, .ref t3, lv]) (fun i2 σ H27 => ∃ (z8 : Option V), σ = [some (.ref a), some (.ref st), some (.int (0 + (i : Int))), some tv, some (.ref pa), some (.ref ta), some (.ref qa), some bv, z8, y9, y10, y11] ∧ Wd st cc F25 H27 ∧ H27 p5 = some (.lst [.ref qa, .ref t3, lv]))
      ⟨_, rfl, W26, h26⟩ (fun i2 σ H27 _ p => ?_) (fun i2 x σ H27 hx p => ?_) (fun σ H27 p => ?_)
    · obtain ⟨_, _, _, h⟩ := p
      exact SqL.of h
    · obtain ⟨z8, rfl, W27, h27⟩ := p
      obtain ⟨q', e', dx, hs', hp', te'⟩ := items x (List.mem_of_getElem? hx)
      clear hx
      have noP : isPath (pathD q') = false → False := fun h => by rw [hp'] at h; cases h
      refine ⟨_, rfl, _, rfl, F25, tv, x, td, pathD q', rfl, W27.fh, .d dt25, txd, .d dx, txt_path q', fun c => (noT c).elim, fun _ c => (noP c).elim, fun _ _ => ⟨it25, q', rfl, dx, fun H28 e28 => ?_⟩⟩
      have W28 := W27.same e28
      rw [hs']
      refine ⟨_, _, rfl, rfl, _, rfl, ?_⟩
      refine iteF ?_
      refine ⟨_, rfl, _, rfl, F25, tv, x, td, pathD q', rfl, W28.fh, .d dt25, txd, .d dx, txt_path q', fun c => (noT c).elim, fun _ => it25, fun _ c => (noP c).elim, fun _ _ => ⟨q', rfl, dx, fun e1 r1 h1 dr1 H29 e29 => ?_, fun h => (by rw [hs'] at h; cases h)⟩⟩
      have W29 := W28.same e29
      rw [hs'] at h1
      cases h1
      refine ⟨_, rfl, _, rfl, F25, tv, td, x, q', e', rfl, W29.fh, dt25, dx, hs', fun r2 dr2 => ?_⟩
      have := te'.gd.2
      refine ⟨r1, r2, e', rfl, dp_mono W29.fh _ _ dr1, dp_mono W29.fh _ _ dr2, by omega, fun H30 e30 => ⟨_, rfl, ?_⟩⟩
      exact ⟨_, rfl, W29.same e30, e30 _ _ (e29 _ _ (e28 _ _ h27))⟩
    · obtain ⟨z8, rfl, W27, _⟩ := p
      have noP : isPath (pathD (q ++ [bi])) = false → False := fun h => by rw [bpath] at h; cases h
      have dep1 := pathD_depth (q ++ [bi])
      refine ⟨_, rfl, _, rfl, F25, tv, bv, td, pathD (q ++ [bi]), rfl, W27.fh, .d dt25, txd, .d db25, txt_path _, fun c => (noT c).elim, fun _ c => (noP c).elim, fun _ _ => ⟨it25, _, rfl, db25, fun H28 e28 => ?_⟩⟩
      have W28 := W27.same e28
      rw [bnone]
      refine ⟨_, _, rfl, rfl, _, rfl, ?_⟩
      refine iteF ?_
      dsimp only [tC]
      refine ⟨_, rfl, _, rfl, F25, 4, tv, bv, td, pathD (q ++ [bi]), "NoPlace", rfl, W28.fh, .d dt25, txd, .d db25, txt_path _, by decide, by decide, .inr (.inr ⟨isT, it25, rfl, bpath, db25, by omega, ⟨_, rfl, bnone⟩, rfl⟩), fun H29 e29 => ⟨_, rfl, ?_⟩⟩
      have W29 := W28.same e29
      refine iteF ?_
      -- things that are no trees
      refine ⟨by show 0 ≤ sizeLine; decide, fun u1 hu1 => ?_⟩
      obtain ⟨k1, n1⟩ := gw_tup (K := K) (xs := []) W29.fh hu1 .nil
      refine ⟨by show 1 ≤ sizeLine; decide, fun u2 hu2 => ?_⟩
      obtain ⟨k2, n2⟩ := gw_tup (K := K) (xs := [.str "a"]) k1.fh hu2 (.cons (.str _) .nil)
      refine ⟨by show 0 ≤ sizeLine; decide, fun u3 hu3 => ?_⟩
      obtain ⟨k3, n3⟩ := gw_tup (K := K) (xs := []) k2.fh hu3 .nil
      refine ⟨by show 2 ≤ sizeLine; decide, fun u4 hu4 => ?_⟩
      obtain ⟨k4, n4⟩ := gw_tup (K := K) (xs := [.str "A", .ref u3]) k3.fh hu4 (.cons (.str _) (.cons n3 .nil))
      refine ⟨by show 0 ≤ sizeLine; decide, fun u5 hu5 => ?_⟩
      obtain ⟨k5, n5⟩ := gw_tup (K := K) (xs := []) k4.fh hu5 .nil
      refine ⟨by show 2 ≤ sizeLine; decide, fun u6 hu6 => ?_⟩
      obtain ⟨k6, n6⟩ := gw_lst (K := K) (xs := [.str "a", .ref u5]) k5.fh hu6 (.cons (.str _) (.cons n5 .nil))
      refine ⟨by show 0 ≤ sizeLine; decide, fun u7 hu7 => ?_⟩
      obtain ⟨k7, n7⟩ := gw_lst (K := K) (xs := []) k6.fh hu7 .nil
      refine ⟨by show 2 ≤ sizeLine; decide, fun u8 hu8 => ?_⟩
      obtain ⟨k8, n8⟩ := gw_tup (K := K) (xs := [.str "a", .ref u7]) k7.fh hu8 (.cons (.str _) (.cons n7 .nil))
      refine ⟨by show 1 ≤ sizeLine; decide, fun u9 hu9 => ?_⟩
      obtain ⟨k9, n9⟩ := gw_tup (K := K) (xs := [.str "b"]) k8.fh hu9 (.cons (.str _) .nil)
      refine ⟨by show 1 ≤ sizeLine; decide, fun u10 hu10 => ?_⟩
      obtain ⟨k10, n10⟩ := gw_tup (K := K) (xs := [.ref u9]) k9.fh hu10 (.cons n9 .nil)
      refine ⟨by show 2 ≤ sizeLine; decide, fun u11 hu11 => ?_⟩
      obtain ⟨k11, n11⟩ := gw_tup (K := K) (xs := [.str "a", .ref u10]) k10.fh hu11 (.cons (.str _) (.cons n10 .nil))
      intro u12 hu12
      have k12 := Gw.new (o := HO.dK []) k11.fh hu12
      refine ⟨by show 9 ≤ sizeLine; decide, fun u13 hu13 => ?_⟩
      obtain ⟨Fn, Wn, en, hnl, hno⟩ : ∃ Fn, Wd st cc Fn _ ∧ Same F25 Fn ∧ Fn u13 = some (.lst [.non, .ref u1, .ref u2, .ref u4, .ref u6, .ref u8, .ref u11, .str "a", .ref u12]) ∧
          ∀ x ∈ [V.non, V.ref u1, V.ref u2, V.ref u4, V.ref u6, V.ref u8, V.ref u11, V.str "a", V.ref u12], ∃ d, Dt K Fn x d ∧ txt d = true ∧ isTreeD d = false := by
        have k13 := Gw.new (o := HO.lst [.non, .ref u1, .ref u2, .ref u4, .ref u6, .ref u8, .ref u11, .str "a", .ref u12]) k12.fh hu13
        have z11 := k12.ff.trans k13.ff
        have z8 := ((k9.ff.trans k10.ff).trans k11.ff).trans z11
        have z6 := (k7.ff.trans k8.ff).trans z8
        have z4 := (k5.ff.trans k6.ff).trans z6
        have z2 := (k3.ff.trans k4.ff).trans z4
        have z1 := k2.ff.trans z2
        refine ⟨_, W29.gw (((((((((((((k1.trans k2).trans k3).trans k4).trans k5).trans k6).trans k7).trans k8).trans k9).trans k10).trans k11).trans k12).trans k13)), k1.ff.trans z1, upd_same, ?_⟩
        simp only [List.forall_mem_cons]
        exact ⟨⟨.none, .d .non, rfl, by decide +kernel⟩, ⟨_, .d (dp_mono z1 _ _ n1), by decide +kernel, by decide +kernel⟩, ⟨_, .d (dp_mono z2 _ _ n2), by decide +kernel, by decide +kernel⟩, ⟨_, .d (dp_mono z4 _ _ n4), by decide +kernel, by decide +kernel⟩, ⟨_, .d (dp_mono z6 _ _ n6), by decide +kernel, by decide +kernel⟩, ⟨_, .d (dp_mono z8 _ _ n8), by decide +kernel, by decide +kernel⟩, ⟨_, .d (dp_mono z11 _ _ n11), by decide +kernel, by decide +kernel⟩, ⟨_, .d (.str "a"), by decide +kernel, by decide +kernel⟩, ⟨_, .e (k13.ff _ _ upd_same), rfl, by decide +kernel⟩, fun x hx => absurd hx List.not_mem_nil⟩
      refine ⟨_, rfl, st, cc, 9, rfl, Wn.sa, by decide, by decide, fun m5 o5 h50 h51 sa5 => ?_⟩
      have W30 := Wn.next sa5
      obtain ⟨nv, hnat, hnm⟩ := at_mem (xs := [V.non, V.ref u1, V.ref u2, V.ref u4, V.ref u6, V.ref u8, V.ref u11, V.str "a", V.ref u12]) h50 h51
      obtain ⟨nd, dnv, tnv, isN⟩ := hno nv hnm
      refine ⟨u13, _, m5, nv, rfl, rfl, SqL.of (W30.fh _ _ hnl), hnat, ?_⟩
      clear hno k1 k2 k3 k4 k5 k6 k7 k8 k9 k10 k11 k12 n1 n2 n3 n4 n5 n6 n7 n8 n9 n10 n11
      -- things that are no paths
      refine ⟨by show 1 ≤ sizeLine; decide, fun v1 hv1 => ?_⟩
      obtain ⟨k1, n1⟩ := gw_lst (K := K) (xs := [.int 0]) W30.fh hv1 (.cons (.int _) .nil)
      refine ⟨by show 1 ≤ sizeLine; decide, fun v2 hv2 => ?_⟩
      obtain ⟨k2, n2⟩ := gw_tup (K := K) (xs := [.int 60]) k1.fh hv2 (.cons (.int _) .nil)
      refine ⟨1, rfl, by show 1 ≤ sizeLine; decide, fun v3 hv3 => ?_⟩
      obtain ⟨k3, n3⟩ := gw_tup (K := K) (xs := [.int (-1)]) k2.fh hv3 (.cons (.int _) .nil)
      refine ⟨by show 1 ≤ sizeLine; decide, fun v4 hv4 => ?_⟩
      obtain ⟨k4, n4⟩ := gw_tup (K := K) (xs := [.bl true]) k3.fh hv4 (.cons (.bl _) .nil)
      refine ⟨by show 1 ≤ sizeLine; decide, fun v5 hv5 => ?_⟩
      obtain ⟨k5, n5⟩ := gw_tup (K := K) (xs := [.int 0]) k4.fh hv5 (.cons (.int _) .nil)
      cases n5 with
      | @tup _ xs5 _ hs5 ha5 =>
      dsimp only [tC]
      refine rep_data (K := K) (n := 12) k5.fh hs5 ha5 (by decide) (by decide) (by rw [DpAll.len ha5]; show 1 ≤ 1000; decide) (fun r6 F6' H6' k6 n6 => ?_)
      refine ⟨by show 1 ≤ sizeLine; decide, fun v7 hv7 => ?_⟩
      obtain ⟨k7, n7⟩ := gw_tup (K := K) (xs := [.str "0"]) k6.fh hv7 (.cons (.str _) .nil)
      refine ⟨by show 9 ≤ sizeLine; decide, fun v8 hv8 => ?_⟩
      obtain ⟨Fo, Wo, eo, hol, hoo⟩ : ∃ Fo, Wd st cc Fo _ ∧ Same Fn Fo ∧ Fo v8 = some (.lst [.non, .ref v1, .ref v2, .ref v3, .ref v4, r6, .str "0", .int 0, .ref v7]) ∧
          ∀ x ∈ [V.non, V.ref v1, V.ref v2, V.ref v3, V.ref v4, r6, V.str "0", V.int 0, V.ref v7], ∃ d, Dt K Fo x d ∧ txt d = true ∧ isPath d = false := by
        have k8 := Gw.new (o := HO.lst [.non, .ref v1, .ref v2, .ref v3, .ref v4, r6, .str "0", .int 0, .ref v7]) k7.fh hv8
        have z6 := k7.ff.trans k8.ff
        have z4 := (k5.ff.trans k6.ff).trans z6
        have z3 := k4.ff.trans z4
        have z2 := k3.ff.trans z3
        have z1 := k2.ff.trans z2
        refine ⟨_, W30.gw (((((((k1.trans k2).trans k3).trans k4).trans k5).trans k6).trans k7).trans k8), k1.ff.trans z1, upd_same, ?_⟩
        simp only [List.forall_mem_cons]
        exact ⟨⟨.none, .d .non, rfl, rfl⟩, ⟨_, .d (dp_mono z1 _ _ n1), by decide +kernel, by decide +kernel⟩, ⟨_, .d (dp_mono z2 _ _ n2), by decide +kernel, by decide +kernel⟩, ⟨_, .d (dp_mono z3 _ _ n3), by decide +kernel, by decide +kernel⟩, ⟨_, .d (dp_mono z4 _ _ n4), by decide +kernel, by decide +kernel⟩, ⟨_, .d (dp_mono z6 _ _ n6), by decide +kernel, by decide +kernel⟩, ⟨_, .d (.str "0"), by decide +kernel, rfl⟩, ⟨_, .d (.int 0), rfl, rfl⟩, ⟨_, .d (dp_mono k8.ff _ _ n7), by decide +kernel, by decide +kernel⟩, fun x hx => absurd hx List.not_mem_nil⟩
      refine ⟨_, rfl, st, cc, 9, rfl, Wo.sa, by decide, by decide, fun m6 o6 h60 h61 sa6 => ?_⟩
      have W31 := Wo.next sa6
      obtain ⟨ov, hoat, hom⟩ := at_mem (xs := [V.non, V.ref v1, V.ref v2, V.ref v3, V.ref v4, r6, V.str "0", V.int 0, V.ref v7]) h60 h61
      obtain ⟨od, dov, tov, isO⟩ := hoo ov hom
      refine ⟨v8, _, m6, ov, rfl, rfl, SqL.of (W31.fh _ _ hol), hoat, ?_⟩
      have f31 := en.trans eo
      have dnv31 := dnv.mono eo
      have dt31 := dp_mono f31 _ _ dt25
      have dp31 := dp_mono f31 _ _ dp25
      have dpl31 := dp_mono f31 _ _ dpl25
      have it31 : IsT K Fo tv td 10 := ⟨dt31, ttv, by omega⟩
      -- all ways
      refine ⟨5, rfl, by decide, by decide, ?_⟩
      refine for_range (n := 5) (fun i2 σ H32 => ∃ (z8 z11 : Option V), σ = [some (.ref a), some (.ref st), some (.int (0 + (i : Int))), some tv, some (.ref pa), some (.ref ta), some (.ref qa), some bv, z8, some nv, some ov, z11] ∧ Wd st cc Fo H32)
        ⟨_, _, rfl, W31⟩ (fun i2 σ H32 hi2 p => ?_) (fun σ H32 p => ?_)
      · obtain ⟨z8, z11, rfl, W32⟩ := p
        refine ⟨_, rfl, _, rfl, _, rfl, Fo, _, nv, ov, nd, od, "NoTree", rfl, W32.fh, dnv31, tnv, dov, tov, by omega, by omega, .inl ⟨isN, rfl⟩, fun H33 e33 => ⟨_, rfl, ?_⟩⟩
        have W33 := W32.same e33
        refine iteF ?_
        refine ⟨_, rfl, _, rfl, _, rfl, Fo, _, nv, .ref qa, nd, pathD q, "NoTree", rfl, W33.fh, dnv31, tnv, .d dp31, txt_path q, by omega, by omega, .inl ⟨isN, rfl⟩, fun H34 e34 => ⟨_, rfl, ?_⟩⟩
        exact ⟨_, _, rfl, W33.same e34⟩
      · obtain ⟨z8, z11, rfl, W32⟩ := p
        dsimp only [tC]
        refine ⟨_, rfl, _, rfl, Fo, 3, tv, ov, td, od, "NoPath", rfl, W32.fh, .d dt31, txd, dov, tov, by decide, by decide, .inr (.inl ⟨isT, it31, .inl rfl, isO, rfl⟩), fun H33 e33 => ⟨_, rfl, ?_⟩⟩
        have W33 := W32.same e33
        refine iteF ?_
        dsimp only [tC]
        refine ⟨_, rfl, _, rfl, Fo, 4, tv, ov, td, od, "NoPath", rfl, W33.fh, .d dt31, txd, dov, tov, by decide, by decide, .inr (.inl ⟨isT, it31, .inr rfl, isO, rfl⟩), fun H34 e34 => ⟨_, rfl, ?_⟩⟩
        have W34 := W33.same e34
        refine iteF ?_
        refine ⟨_, rfl, Fo, tv, td, rfl, W34.fh, .d dt31, txd, fun c => (noT c).elim, fun _ => ⟨it31, by decide, fun ta2 txs2 F35 H35 g35 hta2 htan2 htaF2 htx2 => ?_⟩⟩
        have W35 := W34.gw g35
        refine ⟨_, rfl, .ref ta2, .ref pa, .list ((plc td).map pathD), rfl, .lst (SqL.of hta2) (dpAll_mono g35.fh _ _ htx2), dp_mono (g35.ff.trans g35.fh) _ _ dpl31, dep, fun H36 e36 => ⟨_, rfl, ?_⟩⟩
        refine iteF ?_
        exact ⟨_, _, _, _, _, _, _, _, _, _, _, rfl, W35.same e36⟩
  · obtain ⟨F6, y2, y3, y4, y5, y6, y7, y8, y9, y10, y11, rfl, W6⟩ := p
    rfl
end
end Tl

set_option Elab.async false
set_option linter.all false
namespace Tl
open PySem L2
theorem kit_sub0 {K : PySem.W.Frag} {D C : Addr} {b : Bool} (h1 : PySem.W.isClsIn K C = true) (h2 : PySem.W.typeIn K (.ref C) = some (.type "type")) (h : PySem.W.subIn K (.ref D) (.ref C) = some b) (hb : D = C → b = true) : PySem.W.kitOne K (.ref D) (.ref C) = some b := by
  unfold PySem.W.kitOne
  by_cases e : D = C
  · rw [hb e, e, if_pos (by simp)]
  · rw [if_neg (fun z => e (Value.ref.inj (eq_of_beq z)))]
    unfold PySem.W.kitCls
    have h1' : (PySem.W.clsIn K C).isSome = true := h1
    have e2 : ((PySem.W.clsIn K C).isSome && PySem.W.typeIn K (.ref C) == some (.type "type")) = true := by rw [h1', h2] <;> rfl
    show (if ((PySem.W.clsIn K C).isSome && PySem.W.typeIn K (.ref C) == some (.type "type")) = true then PySem.W.subIn K (.ref D) (.ref C) else none) = some b
    rw [if_pos e2]
    exact h
theorem kit_sub {K : PySem.W.Frag} {D C : Addr} (h1 : PySem.W.isClsIn K C = true) (h2 : PySem.W.typeIn K (.ref C) = some (.type "type")) (h : PySem.W.subIn K (.ref D) (.ref C) = some true) : PySem.W.kitOne K (.ref D) (.ref C) = some true := kit_sub0 h1 h2 h fun _ => rfl
theorem kit_no {K : PySem.W.Frag} {D C : Addr} (h1 : PySem.W.isClsIn K C = true) (h2 : PySem.W.typeIn K (.ref C) = some (.type "type")) (hs : PySem.W.subIn K (.ref D) (.ref D) = some true) (h : PySem.W.subIn K (.ref D) (.ref C) = some false) : PySem.W.kitOne K (.ref D) (.ref C) = some false :=
  kit_sub0 h1 h2 h fun e => by
    subst e
    rw [hs] at h
    cases h
theorem kit_ve {K : PySem.W.Frag} {D : Addr} (h : PySem.W.subIn K (.ref D) (.type "ValueError") = some true) : PySem.W.kitOne K (.ref D) (.type "ValueError") = some true := by
  unfold PySem.W.kitOne
  rw [if_neg (by simp)]
  show (if PySem.W.kitMeta "ValueError" = true then PySem.W.subIn K (.ref D) (.type "ValueError") else none) = some true
  rw [if_pos (by decide +kernel)]
  exact h
end Tl

set_option Elab.async false
set_option linter.all false
set_option maxRecDepth 100000
set_option maxHeartbeats 16000000
namespace Tl
open PySem L2
section
variable {P : Program} {w : World} {K : PySem.W.Frag} {mg : Str → Option Value}
/-- a def as the top has left it -/
structure At (K : PySem.W.Frag) (mg : Str → Option Value) (x : Str) (st : Stmt) where
  f : Addr
  fd : FuncData
  F : Fun K x x st f fd
  m : mg x = some (.ref f)
/-- all defs of the text -/
structure Defs (K : PySem.W.Frag) (mg : Str → Option Value) where
  d_is_count : At K mg "is_count" sIsCount
  d_is_number : At K mg "is_number" sIsNumber
  d_is_tag : At K mg "is_tag" sIsTag
  d_is_path : At K mg "is_path" sIsPath
  d_is_tree : At K mg "is_tree" sIsTree
  d_room_behind : At K mg "room_behind" sRoom
  d_is_tag_and_kids : At K mg "is_tag_and_kids" sTagKids
  d_size_of : At K mg "size_of" sSizeOf
  d_depth_of : At K mg "depth_of" sDepthOf
  d_has_place : At K mg "has_place" sHasPlace
  d_part_of : At K mg "part_of" sPartOf
  d_places_of : At K mg "places_of" sPlacesOf
  d_check_tree : At K mg "check_tree" sChkTree
  d_check_path : At K mg "check_path" sChkPath
  d_check_place : At K mg "check_place" sChkPlace
  d_count_places : At K mg "count_places" sCntPlaces
  d_count_levels : At K mg "count_levels" sCntLevels
  d_part_at : At K mg "part_at" sPartAt
  d_paths_from : At K mg "paths_from" sPathsFrom
  d_law_state : At K mg "_law_state" sState
  d_law_next : At K mg "_law_next" sNext
  d_law_alike : At K mg "_law_alike" sAlike
  d_law_tree : At K mg "_law_tree" sTreeL
  d_law_places : At K mg "_law_places" sPlaces
  d_law_reach : At K mg "_law_reach" sReach
  d_law_levels : At K mg "_law_levels" sLevels
  d_law_refused : At K mg "_law_refused" sRefused
  d_law : At K mg "law" sLaw
def use {base : Heap} {x : Str} {st : Stmt} {ps : List Str} {k : Nat} {sp : Sp} (d : At K mg x st) (b : Binds K d.fd ps []) (ok : FnOk P w K mg base CX0 k d.f d.fd ps sp) : Use P w K mg base x ps k sp := ⟨d.f, d.fd, ok, d.m, d.F.kp, b⟩
def useX {base : Heap} {x : Str} {st : Stmt} {ps : List Str} {k : Nat} {sp : Sp} (d : At K mg x st) (b : Binds K d.fd ps []) (ok : FnOk P w K mg base (L2.CX P w) k d.f d.fd ps sp) : UseX P w K mg base x ps k sp := ⟨d.f, d.fd, ok, d.m, d.F.kp, b⟩
def calls (D : Defs K mg) (T : Bl mg) (C : Cs mg) (mS : mg "sum" = none) (mz : mg "zip" = none) (mVE : mg "ValueError" = none) (A : Cls K mg) (xT : Er K mg "NoTree" A.c_NoTree) (xP : Er K mg "NoPath" A.c_NoPath) {fI : Addr} {fdI : FuncData} (FI : Fun K "__init__" "NoPlace.__init__" sInit fI fdI) (xL : ErP K mg A.c_NoPlace fI) (f1 : Kf A A.c_NoTree "NoTree") (f2 : Kf A A.c_NoPath "NoPath") (f3 : Kf A A.c_NoPlace "NoPlace") (base : Heap) : Calls P w K mg base A :=
  let uCount := use (P := P) (w := w) (base := base) D.d_is_count (D.d_is_count.F.binds (ps := ["thing"]) fun _ _ _ _ _ _ us hl => match us, hl with | [_], _ => rfl) (ok_count (k := 0) D.d_is_count.F T)
  let uNumber := use (P := P) (w := w) (base := base) D.d_is_number (D.d_is_number.F.binds (ps := ["thing", "most"]) fun _ _ _ _ _ _ us hl => match us, hl with | [_, _], _ => rfl) (ok_number (k := 1) D.d_is_number.F uCount (Nat.le_refl _) T)
  let uTag := use (P := P) (w := w) (base := base) D.d_is_tag (D.d_is_tag.F.binds (ps := ["thing"]) fun _ _ _ _ _ _ us hl => match us, hl with | [_], _ => rfl) (ok_tag (k := 0) D.d_is_tag.F T C)
  let uPath := use (P := P) (w := w) (base := base) D.d_is_path (D.d_is_path.F.binds (ps := ["thing"]) fun _ _ _ _ _ _ us hl => match us, hl with | [_], _ => rfl) (ok_path (k := 2) D.d_is_path.F uNumber (Nat.le_refl _) T C)
  let uTagKids := use (P := P) (w := w) (base := base) D.d_is_tag_and_kids (D.d_is_tag_and_kids.F.binds (ps := ["thing"]) fun _ _ _ _ _ _ us hl => match us, hl with | [_], _ => rfl) (ok_tagKids (k := 1) D.d_is_tag_and_kids.F uTag (Nat.le_refl _) T)
  let uRoom := use (P := P) (w := w) (base := base) D.d_room_behind (D.d_room_behind.F.binds (ps := ["thing", "levels", "room"]) fun _ _ _ _ _ _ us hl => match us, hl with | [_, _, _], _ => rfl) (ok_room D.d_room_behind.F D.d_room_behind.m uTagKids (Nat.le_refl _) T 13)
  let uTree := use (P := P) (w := w) (base := base) D.d_is_tree (D.d_is_tree.F.binds (ps := ["thing"]) fun _ _ _ _ _ _ us hl => match us, hl with | [_], _ => rfl) (ok_tree (k := 15) D.d_is_tree.F uRoom (Nat.le_refl _) C)
  let uChkT := useX (P := P) (w := w) (base := base) D.d_check_tree (D.d_check_tree.F.binds (ps := ["thing"]) fun _ _ _ _ _ _ us hl => match us, hl with | [_], _ => rfl) (ok_chkTree (k := 16) D.d_check_tree.F xT uTree (by decide))
  let uChkP := useX (P := P) (w := w) (base := base) D.d_check_path (D.d_check_path.F.binds (ps := ["thing"]) fun _ _ _ _ _ _ us hl => match us, hl with | [_], _ => rfl) (ok_chkPath (k := 3) D.d_check_path.F xP uPath (by decide))
  let uPartAt := use (P := P) (w := w) (base := base) D.d_part_at (D.d_part_at.F.binds (ps := ["tree", "path"]) fun _ _ _ _ _ _ us hl => match us, hl with | [_, _], _ => rfl) (ok_partAt (k := 0) D.d_part_at.F T)
  let uChkL := useX (P := P) (w := w) (base := base) D.d_check_place (D.d_check_place.F.binds (ps := ["tree", "thing"]) fun _ _ _ _ _ _ us hl => match us, hl with | [_, _], _ => rfl) (ok_chkPlace (k := 4) (n := 10) D.d_check_place.F FI xL uChkP uPartAt (by decide) (by decide) (by decide))
  let uCntP := use (P := P) (w := w) (base := base) D.d_count_places (D.d_count_places.F.binds (ps := ["tree"]) fun _ _ _ _ _ _ us hl => match us, hl with | [_], _ => rfl) (ok_cntPlaces D.d_count_places.F D.d_count_places.m T mS 10)
  let uCntL := use (P := P) (w := w) (base := base) D.d_count_levels (D.d_count_levels.F.binds (ps := ["tree"]) fun _ _ _ _ _ _ us hl => match us, hl with | [_], _ => rfl) (ok_cntLevels D.d_count_levels.F D.d_count_levels.m T 10)
  let uPathsF := use (P := P) (w := w) (base := base) D.d_paths_from (D.d_paths_from.F.binds (ps := ["tree", "path"]) fun _ _ _ _ _ _ us hl => match us, hl with | [_, _], _ => rfl) (ok_pf D.d_paths_from.F D.d_paths_from.m T 10)
  let uSize := useX (P := P) (w := w) (base := base) D.d_size_of (D.d_size_of.F.binds (ps := ["tree"]) fun _ _ _ _ _ _ us hl => match us, hl with | [_], _ => rfl) (ok_sizeOf (k := 19) D.d_size_of.F uChkT uCntP (by decide) (by decide))
  let uDepth := useX (P := P) (w := w) (base := base) D.d_depth_of (D.d_depth_of.F.binds (ps := ["tree"]) fun _ _ _ _ _ _ us hl => match us, hl with | [_], _ => rfl) (ok_depthOf (k := 19) D.d_depth_of.F uChkT uCntL (by decide) (by decide))
  let uPlOf := useX (P := P) (w := w) (base := base) D.d_places_of (D.d_places_of.F.binds (ps := ["tree"]) fun _ _ _ _ _ _ us hl => match us, hl with | [_], _ => rfl) (ok_placesOf (k := 19) D.d_places_of.F uChkT uPathsF (by decide) (by decide))
  let uHas := useX (P := P) (w := w) (base := base) D.d_has_place (D.d_has_place.F.binds (ps := ["tree", "path"]) fun _ _ _ _ _ _ us hl => match us, hl with | [_, _], _ => rfl) (ok_hasPlace (k := 19) (n := 10) D.d_has_place.F uChkT uChkP uPartAt (by decide) (by decide) (by decide))
  let uPart := useX (P := P) (w := w) (base := base) D.d_part_of (D.d_part_of.F.binds (ps := ["tree", "path"]) fun _ _ _ _ _ _ us hl => match us, hl with | [_, _], _ => rfl) (ok_partOf (k := 19) D.d_part_of.F uChkT uChkL uPartAt (by decide) (by decide) (by decide))
  let uState := use (P := P) (w := w) (base := base) D.d_law_state (D.d_law_state.F.binds (ps := ["_law_script"]) fun _ _ _ _ _ _ us hl => match us, hl with | [_], _ => rfl) (ok_state (k := 0) D.d_law_state.F T)
  let uNext := use (P := P) (w := w) (base := base) D.d_law_next (D.d_law_next.F.binds (ps := ["_law_state_here", "_law_below"]) fun _ _ _ _ _ _ us hl => match us, hl with | [_, _], _ => rfl) (ok_next (k := 0) D.d_law_next.F T)
  let uAlike := use (P := P) (w := w) (base := base) D.d_law_alike (D.d_law_alike.F.binds (ps := ["_law_found", "_law_due"]) fun _ _ _ _ _ _ us hl => match us, hl with | [_, _], _ => rfl) (ok_alike D.d_law_alike.F D.d_law_alike.m T mz 50)
  let uTreeL := use (P := P) (w := w) (base := base) D.d_law_tree (D.d_law_tree.F.binds (ps := ["_law_state_here", "_law_most"]) fun _ _ _ _ _ _ us hl => match us, hl with | [_, _], _ => rfl) (ok_treeL (k := 1) D.d_law_tree.F uNext (Nat.le_refl _) T)
  let uPlaces := use (P := P) (w := w) (base := base) D.d_law_places (D.d_law_places.F.binds (ps := ["_law_tree_here", "_law_path"]) fun _ _ _ _ _ _ us hl => match us, hl with | [_, _], _ => rfl) (ok_pl D.d_law_places.F D.d_law_places.m T 10)
  let uReach := use (P := P) (w := w) (base := base) D.d_law_reach (D.d_law_reach.F.binds (ps := ["_law_tree_here", "_law_path"]) fun _ _ _ _ _ _ us hl => match us, hl with | [_, _], _ => rfl) (ok_reach (k := 0) D.d_law_reach.F T)
  let uLevels := use (P := P) (w := w) (base := base) D.d_law_levels (D.d_law_levels.F.binds (ps := ["_law_tree_here"]) fun _ _ _ _ _ _ us hl => match us, hl with | [_], _ => rfl) (ok_levels D.d_law_levels.F D.d_law_levels.m T 10)
  let uRef := use (P := P) (w := w) (base := base) D.d_law_refused (D.d_law_refused.F.binds (ps := ["_law_way", "_law_tree_here", "_law_path", "_law_name"]) fun _ _ _ _ _ _ us hl => match us, hl with | [_, _, _, _], _ => rfl) (ok_refused (k := 50) D.d_law_refused.F A f1 f2 f3 uSize uDepth uPlOf uHas uPart uAlike (by decide) (by decide) (by decide) (by decide) (by decide) (by decide) T mVE)
  ⟨uSize, uDepth, uPlOf, uHas, uPart, uState, uNext, uAlike, uTreeL, uPlaces, uReach, uLevels, uRef⟩
/-- one def, from what the top has written -/
def at_mk {h : Heap} {x : Str} {st : Stmt} (X : K.In h) (G : h.Ns mainGlobals mg) {f : Addr} {od an : Option Addr} {sl : Array (Option Value)} {oc kV dc pm cd ct : Value} (a : PySem.W.nsIn K mainGlobals x = some (some (.ref f)))
    (l : K.lookup f = some ⟨oc, od, .func (PySem.W.fnOf x x (defArgs st) (defBody st) (defScope st) .none kV dc pm an cd ct), sl⟩) (c : PySem.W.codeIn K cd x = true) (k : PySem.W.keepIn K (.ref f) = true) : At K mg x st :=
  ⟨f, _, fun_mk (st := st) l c k, PySem.W.mg_of X G a⟩
end
theorem all_mk {P : Program} {w : World} {K : PySem.W.Frag} {h : Heap} {mg : Str → Option Value} {fa : Addr} (X : K.In h) (G : h.Ns mainGlobals mg) (hfa : mg "law" = some (.ref fa)) {t1 t2 t3 : Tok}
    {f1 : Addr} {od1 an1 : Option Addr} {sl1 : Array (Option Value)} {oc1 kV1 dc1 pm1 cd1 ct1 : Value}
    {f2 : Addr} {od2 an2 : Option Addr} {sl2 : Array (Option Value)} {oc2 kV2 dc2 pm2 cd2 ct2 : Value}
    {f3 : Addr} {od3 an3 : Option Addr} {sl3 : Array (Option Value)} {oc3 kV3 dc3 pm3 cd3 ct3 : Value}
    {f4 : Addr} {od4 an4 : Option Addr} {sl4 : Array (Option Value)} {oc4 kV4 dc4 pm4 cd4 ct4 : Value}
    {f5 : Addr} {od5 an5 : Option Addr} {sl5 : Array (Option Value)} {oc5 kV5 dc5 pm5 cd5 ct5 : Value}
    {f6 : Addr} {od6 an6 : Option Addr} {sl6 : Array (Option Value)} {oc6 kV6 dc6 pm6 cd6 ct6 : Value}
    {f7 : Addr} {od7 an7 : Option Addr} {sl7 : Array (Option Value)} {oc7 kV7 dc7 pm7 cd7 ct7 : Value}
    {f8 : Addr} {od8 an8 : Option Addr} {sl8 : Array (Option Value)} {oc8 kV8 dc8 pm8 cd8 ct8 : Value}
    {f9 : Addr} {od9 an9 : Option Addr} {sl9 : Array (Option Value)} {oc9 kV9 dc9 pm9 cd9 ct9 : Value}
    {f10 : Addr} {od10 an10 : Option Addr} {sl10 : Array (Option Value)} {oc10 kV10 dc10 pm10 cd10 ct10 : Value}
    {f11 : Addr} {od11 an11 : Option Addr} {sl11 : Array (Option Value)} {oc11 kV11 dc11 pm11 cd11 ct11 : Value}
    {f12 : Addr} {od12 an12 : Option Addr} {sl12 : Array (Option Value)} {oc12 kV12 dc12 pm12 cd12 ct12 : Value}
    {f13 : Addr} {od13 an13 : Option Addr} {sl13 : Array (Option Value)} {oc13 kV13 dc13 pm13 cd13 ct13 : Value}
    {f14 : Addr} {od14 an14 : Option Addr} {sl14 : Array (Option Value)} {oc14 kV14 dc14 pm14 cd14 ct14 : Value}
    {f15 : Addr} {od15 an15 : Option Addr} {sl15 : Array (Option Value)} {oc15 kV15 dc15 pm15 cd15 ct15 : Value}
    {f16 : Addr} {od16 an16 : Option Addr} {sl16 : Array (Option Value)} {oc16 kV16 dc16 pm16 cd16 ct16 : Value}
    {f17 : Addr} {od17 an17 : Option Addr} {sl17 : Array (Option Value)} {oc17 kV17 dc17 pm17 cd17 ct17 : Value}
    {f18 : Addr} {od18 an18 : Option Addr} {sl18 : Array (Option Value)} {oc18 kV18 dc18 pm18 cd18 ct18 : Value}
    {f19 : Addr} {od19 an19 : Option Addr} {sl19 : Array (Option Value)} {oc19 kV19 dc19 pm19 cd19 ct19 : Value}
    {f20 : Addr} {od20 an20 : Option Addr} {sl20 : Array (Option Value)} {oc20 kV20 dc20 pm20 cd20 ct20 : Value}
    {f21 : Addr} {od21 an21 : Option Addr} {sl21 : Array (Option Value)} {oc21 kV21 dc21 pm21 cd21 ct21 : Value}
    {f22 : Addr} {od22 an22 : Option Addr} {sl22 : Array (Option Value)} {oc22 kV22 dc22 pm22 cd22 ct22 : Value}
    {f23 : Addr} {od23 an23 : Option Addr} {sl23 : Array (Option Value)} {oc23 kV23 dc23 pm23 cd23 ct23 : Value}
    {f24 : Addr} {od24 an24 : Option Addr} {sl24 : Array (Option Value)} {oc24 kV24 dc24 pm24 cd24 ct24 : Value}
    {f25 : Addr} {od25 an25 : Option Addr} {sl25 : Array (Option Value)} {oc25 kV25 dc25 pm25 cd25 ct25 : Value}
    {f26 : Addr} {od26 an26 : Option Addr} {sl26 : Array (Option Value)} {oc26 kV26 dc26 pm26 cd26 ct26 : Value}
    {f27 : Addr} {od27 an27 : Option Addr} {sl27 : Array (Option Value)} {oc27 kV27 dc27 pm27 cd27 ct27 : Value}
    {f28 : Addr} {od28 an28 : Option Addr} {sl28 : Array (Option Value)} {oc28 kV28 dc28 pm28 cd28 ct28 : Value}
    {cTreeError cNoTree cNoPath cNoPlace cNoDeed cNoCount cNoThing cNoFit fI : Addr}
    {nmL qL : Str} {NL : Addr} {bsL bmL : List Value} {snL : List Str} {subL : List Value} {abL : Bool} {colL : Option Bool} {ddL : Option Addr} {g0 g1 g2 g3 g5 : Option Value}
    {odI anI : Option Addr} {slI : Array (Option Value)} {ocI kVI dcI pmI cdI ctI : Value}
    (a1 : PySem.W.nsIn K mainGlobals "is_count" = some (some (.ref f1))) (l1 : K.lookup f1 = some ⟨oc1, od1, .func (PySem.W.fnOf "is_count" "is_count" (defArgs sIsCount) (defBody sIsCount) (defScope sIsCount) .none kV1 dc1 pm1 an1 cd1 ct1), sl1⟩) (c1 : PySem.W.codeIn K cd1 "is_count" = true) (k1 : PySem.W.keepIn K (.ref f1) = true)
    (a2 : PySem.W.nsIn K mainGlobals "is_number" = some (some (.ref f2))) (l2 : K.lookup f2 = some ⟨oc2, od2, .func (PySem.W.fnOf "is_number" "is_number" (defArgs sIsNumber) (defBody sIsNumber) (defScope sIsNumber) .none kV2 dc2 pm2 an2 cd2 ct2), sl2⟩) (c2 : PySem.W.codeIn K cd2 "is_number" = true) (k2 : PySem.W.keepIn K (.ref f2) = true)
    (a3 : PySem.W.nsIn K mainGlobals "is_tag" = some (some (.ref f3))) (l3 : K.lookup f3 = some ⟨oc3, od3, .func (PySem.W.fnOf "is_tag" "is_tag" (defArgs sIsTag) (defBody sIsTag) (defScope sIsTag) .none kV3 dc3 pm3 an3 cd3 ct3), sl3⟩) (c3 : PySem.W.codeIn K cd3 "is_tag" = true) (k3 : PySem.W.keepIn K (.ref f3) = true)
    (a4 : PySem.W.nsIn K mainGlobals "is_path" = some (some (.ref f4))) (l4 : K.lookup f4 = some ⟨oc4, od4, .func (PySem.W.fnOf "is_path" "is_path" (defArgs sIsPath) (defBody sIsPath) (defScope sIsPath) .none kV4 dc4 pm4 an4 cd4 ct4), sl4⟩) (c4 : PySem.W.codeIn K cd4 "is_path" = true) (k4 : PySem.W.keepIn K (.ref f4) = true)
    (a5 : PySem.W.nsIn K mainGlobals "is_tree" = some (some (.ref f5))) (l5 : K.lookup f5 = some ⟨oc5, od5, .func (PySem.W.fnOf "is_tree" "is_tree" (defArgs sIsTree) (defBody sIsTree) (defScope sIsTree) .none kV5 dc5 pm5 an5 cd5 ct5), sl5⟩) (c5 : PySem.W.codeIn K cd5 "is_tree" = true) (k5 : PySem.W.keepIn K (.ref f5) = true)
    (a6 : PySem.W.nsIn K mainGlobals "room_behind" = some (some (.ref f6))) (l6 : K.lookup f6 = some ⟨oc6, od6, .func (PySem.W.fnOf "room_behind" "room_behind" (defArgs sRoom) (defBody sRoom) (defScope sRoom) .none kV6 dc6 pm6 an6 cd6 ct6), sl6⟩) (c6 : PySem.W.codeIn K cd6 "room_behind" = true) (k6 : PySem.W.keepIn K (.ref f6) = true)
    (a7 : PySem.W.nsIn K mainGlobals "is_tag_and_kids" = some (some (.ref f7))) (l7 : K.lookup f7 = some ⟨oc7, od7, .func (PySem.W.fnOf "is_tag_and_kids" "is_tag_and_kids" (defArgs sTagKids) (defBody sTagKids) (defScope sTagKids) .none kV7 dc7 pm7 an7 cd7 ct7), sl7⟩) (c7 : PySem.W.codeIn K cd7 "is_tag_and_kids" = true) (k7 : PySem.W.keepIn K (.ref f7) = true)
    (a8 : PySem.W.nsIn K mainGlobals "size_of" = some (some (.ref f8))) (l8 : K.lookup f8 = some ⟨oc8, od8, .func (PySem.W.fnOf "size_of" "size_of" (defArgs sSizeOf) (defBody sSizeOf) (defScope sSizeOf) .none kV8 dc8 pm8 an8 cd8 ct8), sl8⟩) (c8 : PySem.W.codeIn K cd8 "size_of" = true) (k8 : PySem.W.keepIn K (.ref f8) = true)
    (a9 : PySem.W.nsIn K mainGlobals "depth_of" = some (some (.ref f9))) (l9 : K.lookup f9 = some ⟨oc9, od9, .func (PySem.W.fnOf "depth_of" "depth_of" (defArgs sDepthOf) (defBody sDepthOf) (defScope sDepthOf) .none kV9 dc9 pm9 an9 cd9 ct9), sl9⟩) (c9 : PySem.W.codeIn K cd9 "depth_of" = true) (k9 : PySem.W.keepIn K (.ref f9) = true)
    (a10 : PySem.W.nsIn K mainGlobals "has_place" = some (some (.ref f10))) (l10 : K.lookup f10 = some ⟨oc10, od10, .func (PySem.W.fnOf "has_place" "has_place" (defArgs sHasPlace) (defBody sHasPlace) (defScope sHasPlace) .none kV10 dc10 pm10 an10 cd10 ct10), sl10⟩) (c10 : PySem.W.codeIn K cd10 "has_place" = true) (k10 : PySem.W.keepIn K (.ref f10) = true)
    (a11 : PySem.W.nsIn K mainGlobals "part_of" = some (some (.ref f11))) (l11 : K.lookup f11 = some ⟨oc11, od11, .func (PySem.W.fnOf "part_of" "part_of" (defArgs sPartOf) (defBody sPartOf) (defScope sPartOf) .none kV11 dc11 pm11 an11 cd11 ct11), sl11⟩) (c11 : PySem.W.codeIn K cd11 "part_of" = true) (k11 : PySem.W.keepIn K (.ref f11) = true)
    (a12 : PySem.W.nsIn K mainGlobals "places_of" = some (some (.ref f12))) (l12 : K.lookup f12 = some ⟨oc12, od12, .func (PySem.W.fnOf "places_of" "places_of" (defArgs sPlacesOf) (defBody sPlacesOf) (defScope sPlacesOf) .none kV12 dc12 pm12 an12 cd12 ct12), sl12⟩) (c12 : PySem.W.codeIn K cd12 "places_of" = true) (k12 : PySem.W.keepIn K (.ref f12) = true)
    (a13 : PySem.W.nsIn K mainGlobals "check_tree" = some (some (.ref f13))) (l13 : K.lookup f13 = some ⟨oc13, od13, .func (PySem.W.fnOf "check_tree" "check_tree" (defArgs sChkTree) (defBody sChkTree) (defScope sChkTree) .none kV13 dc13 pm13 an13 cd13 ct13), sl13⟩) (c13 : PySem.W.codeIn K cd13 "check_tree" = true) (k13 : PySem.W.keepIn K (.ref f13) = true)
    (a14 : PySem.W.nsIn K mainGlobals "check_path" = some (some (.ref f14))) (l14 : K.lookup f14 = some ⟨oc14, od14, .func (PySem.W.fnOf "check_path" "check_path" (defArgs sChkPath) (defBody sChkPath) (defScope sChkPath) .none kV14 dc14 pm14 an14 cd14 ct14), sl14⟩) (c14 : PySem.W.codeIn K cd14 "check_path" = true) (k14 : PySem.W.keepIn K (.ref f14) = true)
    (a15 : PySem.W.nsIn K mainGlobals "check_place" = some (some (.ref f15))) (l15 : K.lookup f15 = some ⟨oc15, od15, .func (PySem.W.fnOf "check_place" "check_place" (defArgs sChkPlace) (defBody sChkPlace) (defScope sChkPlace) .none kV15 dc15 pm15 an15 cd15 ct15), sl15⟩) (c15 : PySem.W.codeIn K cd15 "check_place" = true) (k15 : PySem.W.keepIn K (.ref f15) = true)
    (a16 : PySem.W.nsIn K mainGlobals "count_places" = some (some (.ref f16))) (l16 : K.lookup f16 = some ⟨oc16, od16, .func (PySem.W.fnOf "count_places" "count_places" (defArgs sCntPlaces) (defBody sCntPlaces) (defScope sCntPlaces) .none kV16 dc16 pm16 an16 cd16 ct16), sl16⟩) (c16 : PySem.W.codeIn K cd16 "count_places" = true) (k16 : PySem.W.keepIn K (.ref f16) = true)
    (a17 : PySem.W.nsIn K mainGlobals "count_levels" = some (some (.ref f17))) (l17 : K.lookup f17 = some ⟨oc17, od17, .func (PySem.W.fnOf "count_levels" "count_levels" (defArgs sCntLevels) (defBody sCntLevels) (defScope sCntLevels) .none kV17 dc17 pm17 an17 cd17 ct17), sl17⟩) (c17 : PySem.W.codeIn K cd17 "count_levels" = true) (k17 : PySem.W.keepIn K (.ref f17) = true)
    (a18 : PySem.W.nsIn K mainGlobals "part_at" = some (some (.ref f18))) (l18 : K.lookup f18 = some ⟨oc18, od18, .func (PySem.W.fnOf "part_at" "part_at" (defArgs sPartAt) (defBody sPartAt) (defScope sPartAt) .none kV18 dc18 pm18 an18 cd18 ct18), sl18⟩) (c18 : PySem.W.codeIn K cd18 "part_at" = true) (k18 : PySem.W.keepIn K (.ref f18) = true)
    (a19 : PySem.W.nsIn K mainGlobals "paths_from" = some (some (.ref f19))) (l19 : K.lookup f19 = some ⟨oc19, od19, .func (PySem.W.fnOf "paths_from" "paths_from" (defArgs sPathsFrom) (defBody sPathsFrom) (defScope sPathsFrom) .none kV19 dc19 pm19 an19 cd19 ct19), sl19⟩) (c19 : PySem.W.codeIn K cd19 "paths_from" = true) (k19 : PySem.W.keepIn K (.ref f19) = true)
    (a20 : PySem.W.nsIn K mainGlobals "_law_state" = some (some (.ref f20))) (l20 : K.lookup f20 = some ⟨oc20, od20, .func (PySem.W.fnOf "_law_state" "_law_state" (defArgs sState) (defBody sState) (defScope sState) .none kV20 dc20 pm20 an20 cd20 ct20), sl20⟩) (c20 : PySem.W.codeIn K cd20 "_law_state" = true) (k20 : PySem.W.keepIn K (.ref f20) = true)
    (a21 : PySem.W.nsIn K mainGlobals "_law_next" = some (some (.ref f21))) (l21 : K.lookup f21 = some ⟨oc21, od21, .func (PySem.W.fnOf "_law_next" "_law_next" (defArgs sNext) (defBody sNext) (defScope sNext) .none kV21 dc21 pm21 an21 cd21 ct21), sl21⟩) (c21 : PySem.W.codeIn K cd21 "_law_next" = true) (k21 : PySem.W.keepIn K (.ref f21) = true)
    (a22 : PySem.W.nsIn K mainGlobals "_law_alike" = some (some (.ref f22))) (l22 : K.lookup f22 = some ⟨oc22, od22, .func (PySem.W.fnOf "_law_alike" "_law_alike" (defArgs sAlike) (defBody sAlike) (defScope sAlike) .none kV22 dc22 pm22 an22 cd22 ct22), sl22⟩) (c22 : PySem.W.codeIn K cd22 "_law_alike" = true) (k22 : PySem.W.keepIn K (.ref f22) = true)
    (a23 : PySem.W.nsIn K mainGlobals "_law_tree" = some (some (.ref f23))) (l23 : K.lookup f23 = some ⟨oc23, od23, .func (PySem.W.fnOf "_law_tree" "_law_tree" (defArgs sTreeL) (defBody sTreeL) (defScope sTreeL) .none kV23 dc23 pm23 an23 cd23 ct23), sl23⟩) (c23 : PySem.W.codeIn K cd23 "_law_tree" = true) (k23 : PySem.W.keepIn K (.ref f23) = true)
    (a24 : PySem.W.nsIn K mainGlobals "_law_places" = some (some (.ref f24))) (l24 : K.lookup f24 = some ⟨oc24, od24, .func (PySem.W.fnOf "_law_places" "_law_places" (defArgs sPlaces) (defBody sPlaces) (defScope sPlaces) .none kV24 dc24 pm24 an24 cd24 ct24), sl24⟩) (c24 : PySem.W.codeIn K cd24 "_law_places" = true) (k24 : PySem.W.keepIn K (.ref f24) = true)
    (a25 : PySem.W.nsIn K mainGlobals "_law_reach" = some (some (.ref f25))) (l25 : K.lookup f25 = some ⟨oc25, od25, .func (PySem.W.fnOf "_law_reach" "_law_reach" (defArgs sReach) (defBody sReach) (defScope sReach) .none kV25 dc25 pm25 an25 cd25 ct25), sl25⟩) (c25 : PySem.W.codeIn K cd25 "_law_reach" = true) (k25 : PySem.W.keepIn K (.ref f25) = true)
    (a26 : PySem.W.nsIn K mainGlobals "_law_levels" = some (some (.ref f26))) (l26 : K.lookup f26 = some ⟨oc26, od26, .func (PySem.W.fnOf "_law_levels" "_law_levels" (defArgs sLevels) (defBody sLevels) (defScope sLevels) .none kV26 dc26 pm26 an26 cd26 ct26), sl26⟩) (c26 : PySem.W.codeIn K cd26 "_law_levels" = true) (k26 : PySem.W.keepIn K (.ref f26) = true)
    (a27 : PySem.W.nsIn K mainGlobals "_law_refused" = some (some (.ref f27))) (l27 : K.lookup f27 = some ⟨oc27, od27, .func (PySem.W.fnOf "_law_refused" "_law_refused" (defArgs sRefused) (defBody sRefused) (defScope sRefused) .none kV27 dc27 pm27 an27 cd27 ct27), sl27⟩) (c27 : PySem.W.codeIn K cd27 "_law_refused" = true) (k27 : PySem.W.keepIn K (.ref f27) = true)
    (a28 : PySem.W.nsIn K mainGlobals "law" = some (some (.ref f28))) (l28 : K.lookup f28 = some ⟨oc28, od28, .func (PySem.W.fnOf "law" "law" (defArgs sLaw) (defBody sLaw) (defScope sLaw) .none kV28 dc28 pm28 an28 cd28 ct28), sl28⟩) (c28 : PySem.W.codeIn K cd28 "law" = true) (k28 : PySem.W.keepIn K (.ref f28) = true)
    (z1 : PySem.W.nsIn K mainGlobals "isinstance" = some none)
    (z2 : PySem.W.nsIn K mainGlobals "int" = some none)
    (z3 : PySem.W.nsIn K mainGlobals "bool" = some none)
    (z4 : PySem.W.nsIn K mainGlobals "str" = some none)
    (z5 : PySem.W.nsIn K mainGlobals "tuple" = some none)
    (z6 : PySem.W.nsIn K mainGlobals "list" = some none)
    (z7 : PySem.W.nsIn K mainGlobals "len" = some none)
    (z8 : PySem.W.nsIn K mainGlobals "all" = some none)
    (z9 : PySem.W.nsIn K mainGlobals "repr" = some none)
    (z10 : PySem.W.nsIn K mainGlobals "max" = some none)
    (z11 : PySem.W.nsIn K mainGlobals "range" = some none)
    (z12 : PySem.W.nsIn K mainGlobals "enumerate" = some none)
    (z13 : PySem.W.nsIn K mainGlobals "zip" = some none)
    (z14 : PySem.W.nsIn K mainGlobals "sum" = some none)
    (z15 : PySem.W.nsIn K mainGlobals "ValueError" = some none)
    (n1 : PySem.W.nsIn K mainGlobals "SIZE" = some (some (.int 60 t1)))
    (n2 : PySem.W.nsIn K mainGlobals "DEPTH" = some (some (.int 12 t2)))
    (n3 : PySem.W.nsIn K mainGlobals "SIGNS" = some (some (.int 8 t3)))
    (yTreeError : PySem.W.nsIn K mainGlobals "TreeError" = some (some (.ref cTreeError)))
    (yNoTree : PySem.W.nsIn K mainGlobals "NoTree" = some (some (.ref cNoTree)))
    (yNoPath : PySem.W.nsIn K mainGlobals "NoPath" = some (some (.ref cNoPath)))
    (yNoPlace : PySem.W.nsIn K mainGlobals "NoPlace" = some (some (.ref cNoPlace)))
    (yNoDeed : PySem.W.nsIn K mainGlobals "NoDeed" = some (some (.ref cNoDeed)))
    (yNoCount : PySem.W.nsIn K mainGlobals "NoCount" = some (some (.ref cNoCount)))
    (yNoThing : PySem.W.nsIn K mainGlobals "NoThing" = some (some (.ref cNoThing)))
    (yNoFit : PySem.W.nsIn K mainGlobals "NoFit" = some (some (.ref cNoFit)))
    (xT1 : PySem.W.excIn K cNoTree [.type "ValueError", .type "Exception", .type "BaseException", .type "object"] "ValueError.__new__" = true)
    (xT2 : PySem.W.keepIn K (.ref cNoTree) = true)
    (xP1 : PySem.W.excIn K cNoPath [.type "ValueError", .type "Exception", .type "BaseException", .type "object"] "ValueError.__new__" = true)
    (xP2 : PySem.W.keepIn K (.ref cNoPath) = true)
    (xL1 : K.lookup cNoPlace = some (excClassObj nmL qL cNoPlace NL bsL bmL true snL subL abL colL ddL g0 g1 g2 g3 g5 "ValueError.__new__"))
    (xL2 : PySem.HandSPX.refsVE bmL = true)
    (xL3 : PySem.W.findIn K (.ref cNoPlace) "__setattr__" = some (some (.builtin "object.__setattr__")))
    (xL4 : PySem.W.keepIn K (.ref cNoPlace) = true)
    (xL5 : PySem.W.findIn K (.ref cNoPlace) "__init__" = some (some (.ref fI)))
    (xL6 : PySem.W.typeIn K (.ref fI) = some (.type "function"))
    (xL7 : PySem.W.findIn K (.ref cNoPlace) "path" = some none)
    (lI : K.lookup fI = some ⟨ocI, odI, .func (PySem.W.fnOf "__init__" "NoPlace.__init__" (defArgs sInit) (defBody sInit) (defScope sInit) .none kVI dcI pmI anI cdI ctI), slI⟩)
    (cI : PySem.W.codeIn K cdI "NoPlace.__init__" = true)
    (kI : PySem.W.keepIn K (.ref fI) = true)
    (hnG : PySem.W.specialIn K (.builtin "object.__class__") "__get__" = some (some (.builtin "getset_descriptor.__get__")))
    (htG : PySem.W.takesIn K (.builtin "object.__class__") = some true)
    (wNoTreeg : PySem.W.findIn K (.ref cNoTree) "__getattribute__" = some (some (.builtin "BaseException.__getattribute__")))
    (wNoTreek : PySem.W.findIn K (.ref cNoTree) "__getattr__" = some none)
    (wNoTrees : PySem.W.subIn K (.ref cNoTree) (.type "BaseException") = some true)
    (wNoTreed : PySem.W.hasDictIn K cNoTree = true)
    (wNoTreea : PySem.W.findIn K (.ref cNoTree) "__class__" = some (some (.builtin "object.__class__")))
    (wNoTreem : PySem.W.mroIn K cNoTree (.type "object") = some true)
    (wNoTreet : PySem.W.typeIn K (.ref cNoTree) = some (.type "type"))
    (wNoTreee : PySem.W.subIn K (.ref cNoTree) (.ref cTreeError) = some true)
    (wNoTreev : PySem.W.subIn K (.ref cNoTree) (.type "ValueError") = some true)
    (wNoTreeNoTree : PySem.W.subIn K (.ref cNoTree) (.ref cNoTree) = some true)
    (wNoTreeNoPath : PySem.W.subIn K (.ref cNoTree) (.ref cNoPath) = some false)
    (wNoTreeNoPlace : PySem.W.subIn K (.ref cNoTree) (.ref cNoPlace) = some false)
    (wNoTreeNoDeed : PySem.W.subIn K (.ref cNoTree) (.ref cNoDeed) = some false)
    (wNoTreeNoCount : PySem.W.subIn K (.ref cNoTree) (.ref cNoCount) = some false)
    (wNoTreeNoThing : PySem.W.subIn K (.ref cNoTree) (.ref cNoThing) = some true)
    (wNoTreeNoFit : PySem.W.subIn K (.ref cNoTree) (.ref cNoFit) = some false)
    (wNoPathg : PySem.W.findIn K (.ref cNoPath) "__getattribute__" = some (some (.builtin "BaseException.__getattribute__")))
    (wNoPathk : PySem.W.findIn K (.ref cNoPath) "__getattr__" = some none)
    (wNoPaths : PySem.W.subIn K (.ref cNoPath) (.type "BaseException") = some true)
    (wNoPathd : PySem.W.hasDictIn K cNoPath = true)
    (wNoPatha : PySem.W.findIn K (.ref cNoPath) "__class__" = some (some (.builtin "object.__class__")))
    (wNoPathm : PySem.W.mroIn K cNoPath (.type "object") = some true)
    (wNoPatht : PySem.W.typeIn K (.ref cNoPath) = some (.type "type"))
    (wNoPathe : PySem.W.subIn K (.ref cNoPath) (.ref cTreeError) = some true)
    (wNoPathv : PySem.W.subIn K (.ref cNoPath) (.type "ValueError") = some true)
    (wNoPathNoTree : PySem.W.subIn K (.ref cNoPath) (.ref cNoTree) = some false)
    (wNoPathNoPath : PySem.W.subIn K (.ref cNoPath) (.ref cNoPath) = some true)
    (wNoPathNoPlace : PySem.W.subIn K (.ref cNoPath) (.ref cNoPlace) = some false)
    (wNoPathNoDeed : PySem.W.subIn K (.ref cNoPath) (.ref cNoDeed) = some false)
    (wNoPathNoCount : PySem.W.subIn K (.ref cNoPath) (.ref cNoCount) = some false)
    (wNoPathNoThing : PySem.W.subIn K (.ref cNoPath) (.ref cNoThing) = some true)
    (wNoPathNoFit : PySem.W.subIn K (.ref cNoPath) (.ref cNoFit) = some false)
    (wNoPlaceg : PySem.W.findIn K (.ref cNoPlace) "__getattribute__" = some (some (.builtin "BaseException.__getattribute__")))
    (wNoPlacek : PySem.W.findIn K (.ref cNoPlace) "__getattr__" = some none)
    (wNoPlaces : PySem.W.subIn K (.ref cNoPlace) (.type "BaseException") = some true)
    (wNoPlaced : PySem.W.hasDictIn K cNoPlace = true)
    (wNoPlacea : PySem.W.findIn K (.ref cNoPlace) "__class__" = some (some (.builtin "object.__class__")))
    (wNoPlacem : PySem.W.mroIn K cNoPlace (.type "object") = some true)
    (wNoPlacet : PySem.W.typeIn K (.ref cNoPlace) = some (.type "type"))
    (wNoPlacee : PySem.W.subIn K (.ref cNoPlace) (.ref cTreeError) = some true)
    (wNoPlacev : PySem.W.subIn K (.ref cNoPlace) (.type "ValueError") = some true)
    (wNoPlaceNoTree : PySem.W.subIn K (.ref cNoPlace) (.ref cNoTree) = some false)
    (wNoPlaceNoPath : PySem.W.subIn K (.ref cNoPlace) (.ref cNoPath) = some false)
    (wNoPlaceNoPlace : PySem.W.subIn K (.ref cNoPlace) (.ref cNoPlace) = some true)
    (wNoPlaceNoDeed : PySem.W.subIn K (.ref cNoPlace) (.ref cNoDeed) = some false)
    (wNoPlaceNoCount : PySem.W.subIn K (.ref cNoPlace) (.ref cNoCount) = some false)
    (wNoPlaceNoThing : PySem.W.subIn K (.ref cNoPlace) (.ref cNoThing) = some false)
    (wNoPlaceNoFit : PySem.W.subIn K (.ref cNoPlace) (.ref cNoFit) = some true)
    (oTreeError1 : PySem.W.isClsIn K cTreeError = true)
    (oTreeError2 : PySem.W.typeIn K (.ref cTreeError) = some (.type "type"))
    (oNoTree1 : PySem.W.isClsIn K cNoTree = true)
    (oNoTree2 : PySem.W.typeIn K (.ref cNoTree) = some (.type "type"))
    (oNoPath1 : PySem.W.isClsIn K cNoPath = true)
    (oNoPath2 : PySem.W.typeIn K (.ref cNoPath) = some (.type "type"))
    (oNoPlace1 : PySem.W.isClsIn K cNoPlace = true)
    (oNoPlace2 : PySem.W.typeIn K (.ref cNoPlace) = some (.type "type"))
    (oNoDeed1 : PySem.W.isClsIn K cNoDeed = true)
    (oNoDeed2 : PySem.W.typeIn K (.ref cNoDeed) = some (.type "type"))
    (oNoCount1 : PySem.W.isClsIn K cNoCount = true)
    (oNoCount2 : PySem.W.typeIn K (.ref cNoCount) = some (.type "type"))
    (oNoThing1 : PySem.W.isClsIn K cNoThing = true)
    (oNoThing2 : PySem.W.typeIn K (.ref cNoThing) = some (.type "type"))
    (oNoFit1 : PySem.W.isClsIn K cNoFit = true)
    (oNoFit2 : PySem.W.typeIn K (.ref cNoFit) = some (.type "type"))
    (oTE : PySem.W.subIn K (.ref cTreeError) (.type "BaseException") = some true)
    (oTd : PySem.W.hasDictIn K cTreeError = true)
    {s₁ : Shared} {base : Heap} {H : Hp} {a : Addr} {ns : List Int} (hS : SqL K H a (ns.map V.int)) (e0 : Env0 P w K mg base callerA [] s₁ H) :
    codeAny (model P w) callerA (.call (.ref fa) ⟨[.ref a], []⟩) (CR CX0 [] P w H s₁ (fun v _ => v = V.bl true) fun _ _ _ => False) s₁ := by
  have T : Bl mg := ⟨PySem.W.mg_none_of X G z1, PySem.W.mg_none_of X G z2, PySem.W.mg_none_of X G z3, PySem.W.mg_none_of X G z4, PySem.W.mg_none_of X G z5, PySem.W.mg_none_of X G z6, PySem.W.mg_none_of X G z7, PySem.W.mg_none_of X G z8, PySem.W.mg_none_of X G z9, PySem.W.mg_none_of X G z10, PySem.W.mg_none_of X G z11, PySem.W.mg_none_of X G z12⟩
  have cSIZE : ∃ t, mg "SIZE" = some (.int 60 t) := ⟨_, PySem.W.mg_of X G n1⟩
  have cDEPTH : ∃ t, mg "DEPTH" = some (.int 12 t) := ⟨_, PySem.W.mg_of X G n2⟩
  have cSIGNS : ∃ t, mg "SIGNS" = some (.int 8 t) := ⟨_, PySem.W.mg_of X G n3⟩
  have z_zip : mg "zip" = none := PySem.W.mg_none_of X G z13
  have z_sum : mg "sum" = none := PySem.W.mg_none_of X G z14
  have z_ValueError : mg "ValueError" = none := PySem.W.mg_none_of X G z15
  have C : Cs mg := ⟨cSIZE, cDEPTH, cSIGNS⟩
  let A : Cls K mg := ⟨cTreeError, cNoTree, cNoPath, cNoPlace, cNoDeed, cNoCount, cNoThing, cNoFit, PySem.W.mg_of X G yTreeError, PySem.W.mg_of X G yNoTree, PySem.W.mg_of X G yNoPath, PySem.W.mg_of X G yNoPlace, PySem.W.mg_of X G yNoDeed, PySem.W.mg_of X G yNoCount, PySem.W.mg_of X G yNoThing, PySem.W.mg_of X G yNoFit, ⟨wNoPlaceg, wNoPlacek, wNoPlaces, wNoPlaced⟩, xL7⟩
  have xT : Er K mg "NoTree" A.c_NoTree := ⟨A.m_NoTree, xT1, xT2, wNoTrees, wNoTreet⟩
  have xP : Er K mg "NoPath" A.c_NoPath := ⟨A.m_NoPath, xP1, xP2, wNoPaths, wNoPatht⟩
  have xL : ErP K mg A.c_NoPlace fI := ⟨⟨⟨_, _, _, _, _, _, _, _, _, _, _, _, _, _, _, xL1, xL2⟩, xL3, wNoPlaces, wNoPlacet, xL4⟩, A.m_NoPlace, xL5, xL6, xL7⟩
  have FI := fun_mk (st := sInit) lI cI kI
  have dT : ∀ z : Str, some true = some (decide (V.str z = V.str z)) := fun z => by rw [decide_eq_true rfl]
  have dF : ∀ z z2 : Str, z ≠ z2 → some false = some (decide (V.str z = V.str z2)) := fun z z2 h => by rw [decide_eq_false (fun e => h (V.str.inj e))]
  have nT : ∀ z : Str, some false = some (!decide (V.str z = V.str z)) := fun z => by rw [decide_eq_true rfl]; rfl
  have nF : ∀ z z2 : Str, z ≠ z2 → some true = some (!decide (V.str z = V.str z2)) := fun z z2 h => by rw [decide_eq_false (fun e => h (V.str.inj e))]; rfl
  have f1k : Kf A A.c_NoTree "NoTree" := ⟨PySem.W.exm_ref oTE oTd oTreeError2 wNoTreee, ⟨wNoTreeg, wNoTreek, wNoTrees, wNoTreed, wNoTreea, hnG, htG, wNoTreem⟩, kit_ve wNoTreev, (kit_sub oNoTree1 oNoTree2 wNoTreeNoTree).trans (dT _), (kit_no oNoPath1 oNoPath2 wNoTreeNoTree wNoTreeNoPath).trans (dF _ _ (by decide)), (kit_no oNoPlace1 oNoPlace2 wNoTreeNoTree wNoTreeNoPlace).trans (dF _ _ (by decide)), (kit_no oNoDeed1 oNoDeed2 wNoTreeNoTree wNoTreeNoDeed).trans (dF _ _ (by decide)), (kit_no oNoCount1 oNoCount2 wNoTreeNoTree wNoTreeNoCount).trans (dF _ _ (by decide)), (kit_sub oNoThing1 oNoThing2 wNoTreeNoThing).trans (nF _ _ (by decide)), (kit_no oNoFit1 oNoFit2 wNoTreeNoTree wNoTreeNoFit).trans (dF _ _ (by decide))⟩
  have f2k : Kf A A.c_NoPath "NoPath" := ⟨PySem.W.exm_ref oTE oTd oTreeError2 wNoPathe, ⟨wNoPathg, wNoPathk, wNoPaths, wNoPathd, wNoPatha, hnG, htG, wNoPathm⟩, kit_ve wNoPathv, (kit_no oNoTree1 oNoTree2 wNoPathNoPath wNoPathNoTree).trans (dF _ _ (by decide)), (kit_sub oNoPath1 oNoPath2 wNoPathNoPath).trans (dT _), (kit_no oNoPlace1 oNoPlace2 wNoPathNoPath wNoPathNoPlace).trans (dF _ _ (by decide)), (kit_no oNoDeed1 oNoDeed2 wNoPathNoPath wNoPathNoDeed).trans (dF _ _ (by decide)), (kit_no oNoCount1 oNoCount2 wNoPathNoPath wNoPathNoCount).trans (dF _ _ (by decide)), (kit_sub oNoThing1 oNoThing2 wNoPathNoThing).trans (nF _ _ (by decide)), (kit_no oNoFit1 oNoFit2 wNoPathNoPath wNoPathNoFit).trans (dF _ _ (by decide))⟩
  have f3k : Kf A A.c_NoPlace "NoPlace" := ⟨PySem.W.exm_ref oTE oTd oTreeError2 wNoPlacee, ⟨wNoPlaceg, wNoPlacek, wNoPlaces, wNoPlaced, wNoPlacea, hnG, htG, wNoPlacem⟩, kit_ve wNoPlacev, (kit_no oNoTree1 oNoTree2 wNoPlaceNoPlace wNoPlaceNoTree).trans (dF _ _ (by decide)), (kit_no oNoPath1 oNoPath2 wNoPlaceNoPlace wNoPlaceNoPath).trans (dF _ _ (by decide)), (kit_sub oNoPlace1 oNoPlace2 wNoPlaceNoPlace).trans (dT _), (kit_no oNoDeed1 oNoDeed2 wNoPlaceNoPlace wNoPlaceNoDeed).trans (dF _ _ (by decide)), (kit_no oNoCount1 oNoCount2 wNoPlaceNoPlace wNoPlaceNoCount).trans (dF _ _ (by decide)), (kit_no oNoThing1 oNoThing2 wNoPlaceNoPlace wNoPlaceNoThing).trans (nT _), (kit_sub oNoFit1 oNoFit2 wNoPlaceNoFit).trans (dT _)⟩
  have D : Nonempty (Defs K mg) := ⟨⟨at_mk X G a1 l1 c1 k1, at_mk X G a2 l2 c2 k2, at_mk X G a3 l3 c3 k3, at_mk X G a4 l4 c4 k4, at_mk X G a5 l5 c5 k5, at_mk X G a6 l6 c6 k6, at_mk X G a7 l7 c7 k7, at_mk X G a8 l8 c8 k8, at_mk X G a9 l9 c9 k9, at_mk X G a10 l10 c10 k10, at_mk X G a11 l11 c11 k11, at_mk X G a12 l12 c12 k12, at_mk X G a13 l13 c13 k13, at_mk X G a14 l14 c14 k14, at_mk X G a15 l15 c15 k15, at_mk X G a16 l16 c16 k16, at_mk X G a17 l17 c17 k17, at_mk X G a18 l18 c18 k18, at_mk X G a19 l19 c19 k19, at_mk X G a20 l20 c20 k20, at_mk X G a21 l21 c21 k21, at_mk X G a22 l22 c22 k22, at_mk X G a23 l23 c23 k23, at_mk X G a24 l24 c24 k24, at_mk X G a25 l25 c25 k25, at_mk X G a26 l26 c26 k26, at_mk X G a27 l27 c27 k27, at_mk X G a28 l28 c28 k28⟩⟩
  obtain ⟨D⟩ := D
  have e : D.d_law.f = fa := by
    have := hfa.symm.trans D.d_law.m
    cases this
    rfl
  rw [← e]
  exact ok_law D.d_law.F T (calls D T C z_sum z_zip z_ValueError A xT xP FI xL f1k f2k f3k base) hS e0
end Tl

open PySem PySem.W PyProof.Rows
set_option Elab.async false
set_option maxRecDepth 100000 in
set_option maxHeartbeats 0 in
theorem PySem.Challenge.cw_treelore_k02_trees_told_holds : PySem.Challenge.rw_treelore_k02_trees_told.Holds := by
  w_on; o_law; k_head; (case hw => w_witness2)
  k_fill
  refine Tl.walk_at_top (l := PySem.Challenge.rw_treelore_k02_trees_told) (n := 63) rfl (by decide) rfl (fun w h Y => PySem.W.kIn_of Y) ?F
  case F =>
    intro w mg fa h KX G hmg s₁ base H a ns hlen hKb hNb hS e0
    refine' Tl.all_mk KX G hmg ?a1 ?l1 ?c1 ?k1 ?a2 ?l2 ?c2 ?k2 ?a3 ?l3 ?c3 ?k3 ?a4 ?l4 ?c4 ?k4 ?a5 ?l5 ?c5 ?k5 ?a6 ?l6 ?c6 ?k6 ?a7 ?l7 ?c7 ?k7 ?a8 ?l8 ?c8 ?k8 ?a9 ?l9 ?c9 ?k9 ?a10 ?l10 ?c10 ?k10 ?a11 ?l11 ?c11 ?k11 ?a12 ?l12 ?c12 ?k12 ?a13 ?l13 ?c13 ?k13 ?a14 ?l14 ?c14 ?k14 ?a15 ?l15 ?c15 ?k15 ?a16 ?l16 ?c16 ?k16 ?a17 ?l17 ?c17 ?k17 ?a18 ?l18 ?c18 ?k18 ?a19 ?l19 ?c19 ?k19 ?a20 ?l20 ?c20 ?k20 ?a21 ?l21 ?c21 ?k21 ?a22 ?l22 ?c22 ?k22 ?a23 ?l23 ?c23 ?k23 ?a24 ?l24 ?c24 ?k24 ?a25 ?l25 ?c25 ?k25 ?a26 ?l26 ?c26 ?k26 ?a27 ?l27 ?c27 ?k27 ?a28 ?l28 ?c28 ?k28 ?z1 ?z2 ?z3 ?z4 ?z5 ?z6 ?z7 ?z8 ?z9 ?z10 ?z11 ?z12 ?z13 ?z14 ?z15 ?n1 ?n2 ?n3 ?yTreeError ?yNoTree ?yNoPath ?yNoPlace ?yNoDeed ?yNoCount ?yNoThing ?yNoFit ?xT1 ?xT2 ?xP1 ?xP2 ?xL1 ?xL2 ?xL3 ?xL4 ?xL5 ?xL6 ?xL7 ?lI ?cI ?kI ?hnG ?htG ?wNoTreeg ?wNoTreek ?wNoTrees ?wNoTreed ?wNoTreea ?wNoTreem ?wNoTreet ?wNoTreee ?wNoTreev ?wNoTreeNoTree ?wNoTreeNoPath ?wNoTreeNoPlace ?wNoTreeNoDeed ?wNoTreeNoCount ?wNoTreeNoThing ?wNoTreeNoFit ?wNoPathg ?wNoPathk ?wNoPaths ?wNoPathd ?wNoPatha ?wNoPathm ?wNoPatht ?wNoPathe ?wNoPathv ?wNoPathNoTree ?wNoPathNoPath ?wNoPathNoPlace ?wNoPathNoDeed ?wNoPathNoCount ?wNoPathNoThing ?wNoPathNoFit ?wNoPlaceg ?wNoPlacek ?wNoPlaces ?wNoPlaced ?wNoPlacea ?wNoPlacem ?wNoPlacet ?wNoPlacee ?wNoPlacev ?wNoPlaceNoTree ?wNoPlaceNoPath ?wNoPlaceNoPlace ?wNoPlaceNoDeed ?wNoPlaceNoCount ?wNoPlaceNoThing ?wNoPlaceNoFit ?oTreeError1 ?oTreeError2 ?oNoTree1 ?oNoTree2 ?oNoPath1 ?oNoPath2 ?oNoPlace1 ?oNoPlace2 ?oNoDeed1 ?oNoDeed2 ?oNoCount1 ?oNoCount2 ?oNoThing1 ?oNoThing2 ?oNoFit1 ?oNoFit2 ?oTE ?oTd hS e0
    (case a1 => k_is)
    (case l1 => k_is)
    (case c1 => k_is)
    (case k1 => k_is)
    (case a2 => k_is)
    (case l2 => k_is)
    (case c2 => k_is)
    (case k2 => k_is)
    (case a3 => k_is)
    (case l3 => k_is)
    (case c3 => k_is)
    (case k3 => k_is)
    (case a4 => k_is)
    (case l4 => k_is)
    (case c4 => k_is)
    (case k4 => k_is)
    (case a5 => k_is)
    (case l5 => k_is)
    (case c5 => k_is)
    (case k5 => k_is)
    (case a6 => k_is)
    (case l6 => k_is)
    (case c6 => k_is)
    (case k6 => k_is)
    (case a7 => k_is)
    (case l7 => k_is)
    (case c7 => k_is)
    (case k7 => k_is)
    (case a8 => k_is)
    (case l8 => k_is)
    (case c8 => k_is)
    (case k8 => k_is)
    (case a9 => k_is)
    (case l9 => k_is)
    (case c9 => k_is)
    (case k9 => k_is)
    (case a10 => k_is)
    (case l10 => k_is)
    (case c10 => k_is)
    (case k10 => k_is)
    (case a11 => k_is)
    (case l11 => k_is)
    (case c11 => k_is)
    (case k11 => k_is)
    (case a12 => k_is)
    (case l12 => k_is)
    (case c12 => k_is)
    (case k12 => k_is)
    (case a13 => k_is)
    (case l13 => k_is)
    (case c13 => k_is)
    (case k13 => k_is)
    (case a14 => k_is)
    (case l14 => k_is)
    (case c14 => k_is)
    (case k14 => k_is)
    (case a15 => k_is)
    (case l15 => k_is)
    (case c15 => k_is)
    (case k15 => k_is)
    (case a16 => k_is)
    (case l16 => k_is)
    (case c16 => k_is)
    (case k16 => k_is)
    (case a17 => k_is)
    (case l17 => k_is)
    (case c17 => k_is)
    (case k17 => k_is)
    (case a18 => k_is)
    (case l18 => k_is)
    (case c18 => k_is)
    (case k18 => k_is)
    (case a19 => k_is)
    (case l19 => k_is)
    (case c19 => k_is)
    (case k19 => k_is)
    (case a20 => k_is)
    (case l20 => k_is)
    (case c20 => k_is)
    (case k20 => k_is)
    (case a21 => k_is)
    (case l21 => k_is)
    (case c21 => k_is)
    (case k21 => k_is)
    (case a22 => k_is)
    (case l22 => k_is)
    (case c22 => k_is)
    (case k22 => k_is)
    (case a23 => k_is)
    (case l23 => k_is)
    (case c23 => k_is)
    (case k23 => k_is)
    (case a24 => k_is)
    (case l24 => k_is)
    (case c24 => k_is)
    (case k24 => k_is)
    (case a25 => k_is)
    (case l25 => k_is)
    (case c25 => k_is)
    (case k25 => k_is)
    (case a26 => k_is)
    (case l26 => k_is)
    (case c26 => k_is)
    (case k26 => k_is)
    (case a27 => k_is)
    (case l27 => k_is)
    (case c27 => k_is)
    (case k27 => k_is)
    (case a28 => k_is)
    (case l28 => k_is)
    (case c28 => k_is)
    (case k28 => k_is)
    (case z1 => k_is)
    (case z2 => k_is)
    (case z3 => k_is)
    (case z4 => k_is)
    (case z5 => k_is)
    (case z6 => k_is)
    (case z7 => k_is)
    (case z8 => k_is)
    (case z9 => k_is)
    (case z10 => k_is)
    (case z11 => k_is)
    (case z12 => k_is)
    (case z13 => k_is)
    (case z14 => k_is)
    (case z15 => k_is)
    (case n1 => k_is)
    (case n2 => k_is)
    (case n3 => k_is)
    (case yTreeError => k_is)
    (case yNoTree => k_is)
    (case yNoPath => k_is)
    (case yNoPlace => k_is)
    (case yNoDeed => k_is)
    (case yNoCount => k_is)
    (case yNoThing => k_is)
    (case yNoFit => k_is)
    (case xT1 => k_exc)
    (case xT2 => k_is)
    (case xP1 => k_exc)
    (case xP2 => k_is)
    (case xL1 => k_is)
    (case xL2 => first | rfl | decide | k_is)
    (case xL3 => k_is)
    (case xL4 => k_is)
    (case xL5 => k_is)
    (case xL6 => k_is)
    (case xL7 => k_is)
    (case lI => k_is)
    (case cI => k_is)
    (case kI => k_is)
    (case hnG => k_is)
    (case htG => k_is)
    (case wNoTreeg => k_is)
    (case wNoTreek => k_is)
    (case wNoTrees => k_is)
    (case wNoTreed => k_is)
    (case wNoTreea => k_is)
    (case wNoTreem => k_is)
    (case wNoTreet => k_is)
    (case wNoTreee => k_is)
    (case wNoTreev => k_is)
    (case wNoTreeNoTree => first | k_is | rfl)
    (case wNoTreeNoPath => first | k_is | rfl)
    (case wNoTreeNoPlace => first | k_is | rfl)
    (case wNoTreeNoDeed => first | k_is | rfl)
    (case wNoTreeNoCount => first | k_is | rfl)
    (case wNoTreeNoThing => first | k_is | rfl)
    (case wNoTreeNoFit => first | k_is | rfl)
    (case wNoPathg => k_is)
    (case wNoPathk => k_is)
    (case wNoPaths => k_is)
    (case wNoPathd => k_is)
    (case wNoPatha => k_is)
    (case wNoPathm => k_is)
    (case wNoPatht => k_is)
    (case wNoPathe => k_is)
    (case wNoPathv => k_is)
    (case wNoPathNoTree => first | k_is | rfl)
    (case wNoPathNoPath => first | k_is | rfl)
    (case wNoPathNoPlace => first | k_is | rfl)
    (case wNoPathNoDeed => first | k_is | rfl)
    (case wNoPathNoCount => first | k_is | rfl)
    (case wNoPathNoThing => first | k_is | rfl)
    (case wNoPathNoFit => first | k_is | rfl)
    (case wNoPlaceg => k_is)
    (case wNoPlacek => k_is)
    (case wNoPlaces => k_is)
    (case wNoPlaced => k_is)
    (case wNoPlacea => k_is)
    (case wNoPlacem => k_is)
    (case wNoPlacet => k_is)
    (case wNoPlacee => k_is)
    (case wNoPlacev => k_is)
    (case wNoPlaceNoTree => first | k_is | rfl)
    (case wNoPlaceNoPath => first | k_is | rfl)
    (case wNoPlaceNoPlace => first | k_is | rfl)
    (case wNoPlaceNoDeed => first | k_is | rfl)
    (case wNoPlaceNoCount => first | k_is | rfl)
    (case wNoPlaceNoThing => first | k_is | rfl)
    (case wNoPlaceNoFit => first | k_is | rfl)
    (case oTreeError1 => k_is)
    (case oTreeError2 => k_is)
    (case oNoTree1 => k_is)
    (case oNoTree2 => k_is)
    (case oNoPath1 => k_is)
    (case oNoPath2 => k_is)
    (case oNoPlace1 => k_is)
    (case oNoPlace2 => k_is)
    (case oNoDeed1 => k_is)
    (case oNoDeed2 => k_is)
    (case oNoCount1 => k_is)
    (case oNoCount2 => k_is)
    (case oNoThing1 => k_is)
    (case oNoThing2 => k_is)
    (case oNoFit1 => k_is)
    (case oNoFit2 => k_is)
    (case oTE => k_is)
    (case oTd => k_is)

