import PyProof.Rows.All
import Wide.All
import OpenK.AllK
import Wide.FinOn
import HandS.ForMost
import HandS.IsInst
import HandS.TupAny
import HandS.TupMul
import HandS.Style
import HandS.Flow
import HandS.Walk
import KE.GoesMore
import HandS.FStrTup
import HandS.ExcValue
import HandS.ExcIs
import HandS.ExcField
import KE.KExcIs
import HandS.ExcInit
import HandS.WordsExc
import HandS.SortKw
import KE.DataMinMax
import HandS.Zip
import HandS.RevTup
import HandS.More
import HandS.TryOnly
import HandS.Dict
import PySem.Challenge.RW_treelore_k26_flat_rows_or_not
set_option Elab.async false
set_option linter.all false
set_option maxRecDepth 100000
set_option maxHeartbeats 4000000
/-! Data in the heap, by value: what stays when the heap grows, what isinstance and len answer of it. -/
namespace Tl
open PySem L2

theorem same_new {H : Hp} {p : Addr} {o : HO} (h : H p = none) : Same H (upd H p o) := fun b u q => by
  rw [upd_ne (ne_of_none q h)]
  exact q
/-- what F does not know may change -/
theorem same_mut {F H : Hp} {p : Addr} {o : HO} (e : Same F H) (h : F p = none) : Same F (upd H p o) := fun b u q => by
  rw [upd_ne (ne_of_none q h)]
  exact e b u q
theorem same_rd {H H' : Hp} {a : Addr} {u : HO} (e : Same H H') (h : Rd H a u) : Rd H' a u := by
  rcases h with h | ⟨o, h⟩
  · exact .inl (e a _ h)
  · exact .inr ⟨o, e a _ h⟩
theorem same_t {K : PySem.W.Frag} {H H' : Hp} {a : Addr} {xs : List V} (e : Same H H') (h : SqT K H a xs) : SqT K H' a xs := by
  rcases h with h | h
  · exact .inl (same_rd e h)
  · exact .inr h
theorem same_l {K : PySem.W.Frag} {H H' : Hp} {a : Addr} {xs : List V} (e : Same H H') (h : SqL K H a xs) : SqL K H' a xs := by
  rcases h with h | h
  · exact .inl (same_rd e h)
  · exact .inr h
mutual
theorem dp_mono {K : PySem.W.Frag} {H H' : Hp} (e : Same H H') : ∀ (d : PyData) (v : V), Dp K H v d → Dp K H' v d
  | .none, _, h => by cases h; exact .non
  | .bool b, _, h => by cases h; exact .bl b
  | .int i, _, h => by cases h; exact .int i
  | .str x, _, h => by cases h; exact .str x
  | .list ds, _, h => by
    cases h with
    | lst hs ha => exact .lst (same_l e hs) (dpAll_mono e ds _ ha)
  | .tuple ds, _, h => by
    cases h with
    | tup hs ha => exact .tup (same_t e hs) (dpAll_mono e ds _ ha)
  | .dict _, _, h => by cases h
theorem dpAll_mono {K : PySem.W.Frag} {H H' : Hp} (e : Same H H') : ∀ (ds : List PyData) (vs : List V), DpAll K H vs ds → DpAll K H' vs ds
  | [], _, h => by cases h; exact .nil
  | d :: ds, _, h => by
    cases h with
    | cons h1 h2 => exact .cons (dp_mono e d _ h1) (dpAll_mono e ds _ h2)
end
/-- a thing of the law: data, or the empty dict -/
inductive Dt (K : PySem.W.Frag) (H : Hp) : V → PyData → Prop
  | d {v : V} {d : PyData} : Dp K H v d → Dt K H v d
  | e {a : Addr} : H a = some (.dK []) → Dt K H (.ref a) (.dict [])
theorem Dt.mono {K : PySem.W.Frag} {H H' : Hp} {v : V} {d : PyData} (e : Same H H') (h : Dt K H v d) : Dt K H' v d := by
  cases h with
  | d h => exact .d (dp_mono e _ _ h)
  | e h => exact .e (e _ _ h)
theorem DpAll.len {K : PySem.W.Frag} {H : Hp} : ∀ {vs : List V} {ds : List PyData}, DpAll K H vs ds → vs.length = ds.length
  | _, _, .nil => rfl
  | _, _, .cons _ h => by rw [List.length_cons, List.length_cons, DpAll.len h]
theorem DpAll.get {K : PySem.W.Frag} {H : Hp} : ∀ {vs : List V} {ds : List PyData} {i : Nat} {v : V}, DpAll K H vs ds → vs[i]? = some v → ∃ d, ds[i]? = some d ∧ Dp K H v d
  | _, _, _, _, .nil, e => by simp at e
  | _, _, 0, _, .cons h _, e => by simp at e; subst e; exact ⟨_, rfl, h⟩
  | _, _, i + 1, v, .cons _ h, e => by
    obtain ⟨d, h1, h2⟩ := DpAll.get (i := i) (v := v) h (by simpa using e)
    exact ⟨d, by simpa using h1, h2⟩
theorem DpAll.got {K : PySem.W.Frag} {H : Hp} : ∀ {vs : List V} {ds : List PyData} {i : Nat} {d : PyData}, DpAll K H vs ds → ds[i]? = some d → ∃ v, vs[i]? = some v ∧ Dp K H v d
  | _, _, _, _, .nil, e => by simp at e
  | _, _, 0, _, .cons h _, e => by simp at e; subst e; exact ⟨_, rfl, h⟩
  | _, _, i + 1, d, .cons _ h, e => by
    obtain ⟨v, h1, h2⟩ := DpAll.got (i := i) (d := d) h (by simpa using e)
    exact ⟨v, by simpa using h1, h2⟩
theorem DpAll.app {K : PySem.W.Frag} {H : Hp} : ∀ {vs ws : List V} {ds es : List PyData}, DpAll K H vs ds → DpAll K H ws es → DpAll K H (vs ++ ws) (ds ++ es)
  | _, _, _, _, .nil, h => h
  | _, _, _, _, .cons a b, h => .cons a (DpAll.app b h)
theorem DpAll.take {K : PySem.W.Frag} {H : Hp} : ∀ {vs : List V} {ds : List PyData} (n : Nat), DpAll K H vs ds → DpAll K H (vs.take n) (ds.take n)
  | _, _, 0, _ => .nil
  | _, _, _ + 1, .nil => .nil
  | _, _, n + 1, .cons a b => .cons a (DpAll.take n b)
theorem DpAll.drop {K : PySem.W.Frag} {H : Hp} : ∀ {vs : List V} {ds : List PyData} (n : Nat), DpAll K H vs ds → DpAll K H (vs.drop n) (ds.drop n)
  | _, _, 0, h => h
  | _, _, _ + 1, .nil => .nil
  | _, _, n + 1, .cons a b => DpAll.drop n b
theorem DpAll.rev {K : PySem.W.Frag} {H : Hp} : ∀ {vs : List V} {ds : List PyData}, DpAll K H vs ds → DpAll K H vs.reverse ds.reverse
  | _, _, .nil => .nil
  | _, _, .cons a b => by rw [List.reverse_cons, List.reverse_cons]; exact DpAll.app (DpAll.rev b) (.cons a .nil)
theorem DpAll.rep {K : PySem.W.Frag} {H : Hp} {vs : List V} {ds : List PyData} (h : DpAll K H vs ds) : ∀ n : Nat, DpAll K H (List.replicate n vs).flatten (List.replicate n ds).flatten
  | 0 => .nil
  | n + 1 => by
    rw [List.replicate_succ, List.replicate_succ, List.flatten_cons, List.flatten_cons]
    exact DpAll.app h (DpAll.rep h n)

theorem DpAll.two {K : PySem.W.Frag} {H : Hp} : ∀ {vs : List V} {ds : List PyData}, DpAll K H vs ds → vs.length = 2 → ∃ x y a b, vs = [x, y] ∧ ds = [a, b] ∧ Dp K H x a ∧ Dp K H y b
  | _, _, .nil, e => by simp at e
  | _, _, .cons _ .nil, e => by simp at e
  | _, _, .cons h1 (.cons h2 .nil), _ => ⟨_, _, _, _, rfl, rfl, h1, h2⟩
  | _, _, .cons _ (.cons _ (.cons _ _)), e => by simp at e

/-! ### what isinstance answers -/
def tyName : PyData → String
  | .none => "NoneType"
  | .bool _ => "bool"
  | .int _ => "int"
  | .str _ => "str"
  | .list _ => "list"
  | .tuple _ => "tuple"
  | .dict _ => "dict"
def isStr : PyData → Bool
  | .str _ => true
  | _ => false
def isTup : PyData → Bool
  | .tuple _ => true
  | _ => false
def isInt : PyData → Bool
  | .int _ => true
  | .bool _ => true
  | _ => false
def isBl : PyData → Bool
  | .bool _ => true
  | _ => false
theorem kit_str (d : PyData) : kitB (tyName d) "str" = some (isStr d) := by cases d <;> (simp only [tyName, isStr]; decide +kernel)
theorem kit_tup (d : PyData) : kitB (tyName d) "tuple" = some (isTup d) := by cases d <;> (simp only [tyName, isTup]; decide +kernel)
theorem kit_int (d : PyData) : kitB (tyName d) "int" = some (isInt d) := by cases d <;> (simp only [tyName, isInt]; decide +kernel)
theorem kit_bl (d : PyData) : kitB (tyName d) "bool" = some (isBl d) := by cases d <;> (simp only [tyName, isBl]; decide +kernel)
theorem ty_data {K : PySem.W.Frag} {H : Hp} {v : V} {d : PyData} (h : Dt K H v d) : TyX K H v (.type (tyName d)) := by
  cases h with
  | e h => exact .base (.dK h)
  | d h =>
    cases h with
    | non => exact .base .non
    | bl b => exact .base (.bl b)
    | int i => exact .base (.int i)
    | str x => exact .base (.str x)
    | lst hs _ =>
      rcases hs with (h | ⟨o, h⟩) | ⟨o, its, n, h1, h2, _⟩
      · exact .base (.lst h)
      · exact .base (.frz h)
      · exact .kList h1 h2
    | tup hs _ =>
      rcases hs with (h | ⟨o, h⟩) | ⟨o, its, n, h1, h2, _⟩
      · exact .base (.tup h)
      · exact .fTuple h
      · exact .kTuple h1 h2
theorem isi_d {K : PySem.W.Frag} {H : Hp} {v : V} {d : PyData} {T : String} {b : Bool} {Q : VK} (h : Dt K H v d) (e : kitB (tyName d) T = some b) (q : Q (.bl b) H) : rIsi K [v, .ty T] H Q :=
  ⟨v, .ty T, _, _, b, rfl, .ty T, ty_data h, kit_ty e, q⟩

/-! ### texts within are short -/
mutual
def txt : PyData → Bool
  | .str s => decide (s.length ≤ 1000) && PyData.strOk s
  | .list ds => txtAll ds
  | .tuple ds => txtAll ds
  | _ => true
def txtAll : List PyData → Bool
  | [] => true
  | d :: ds => txt d && txtAll ds
end
theorem txtAll_get : ∀ {ds : List PyData} {i : Nat} {d : PyData}, txtAll ds = true → ds[i]? = some d → txt d = true
  | [], _, _, _, e => by simp at e
  | a :: r, 0, d, h, e => by
    rw [txtAll, Bool.and_eq_true] at h
    simp at e
    subst e
    exact h.1
  | a :: r, i + 1, d, h, e => by
    rw [txtAll, Bool.and_eq_true] at h
    exact txtAll_get h.2 (by simpa using e)
theorem txtAll_app : ∀ {ds es : List PyData}, txtAll ds = true → txtAll es = true → txtAll (ds ++ es) = true
  | [], es, _, h => h
  | a :: r, es, h, h2 => by
    rw [txtAll, Bool.and_eq_true] at h
    rw [List.cons_append, txtAll, Bool.and_eq_true]
    exact ⟨h.1, txtAll_app h.2 h2⟩
theorem txtAll_rep {ds : List PyData} (h : txtAll ds = true) : ∀ n, txtAll (List.replicate n ds).flatten = true
  | 0 => rfl
  | n + 1 => by
    rw [List.replicate_succ, List.flatten_cons]
    exact txtAll_app h (txtAll_rep h n)
theorem txt_str {s : Str} (h : txt (.str s) = true) : s.length ≤ 1000 ∧ PyData.strOk s = true := by
  rw [txt, Bool.and_eq_true] at h
  exact ⟨of_decide_eq_true h.1, h.2⟩
/-- a list of plain values can be compared -/
def flatD : PyData → Bool
  | .none => true
  | .bool _ => true
  | .int _ => true
  | .str s => PyData.strOk s
  | _ => false
theorem flat_all : ∀ ds : List PyData, ds.all flatD = true → PyData.canLayAll0 ds = true ∧ PyData.depthAll ds = 0
  | [], _ => ⟨rfl, rfl⟩
  | d :: r, h => by
    rw [List.all_cons, Bool.and_eq_true] at h
    obtain ⟨h1, h2⟩ := flat_all r h.2
    have h0 := h.1
    rw [PyData.canLayAll0, PyData.depthAll, h1, h2]
    cases d with
    | none => exact ⟨rfl, rfl⟩
    | bool b => exact ⟨rfl, rfl⟩
    | int b => exact ⟨rfl, rfl⟩
    | str b =>
      rw [flatD] at h0
      rw [PyData.canLay0, PyData.depth, h0]
      exact ⟨rfl, rfl⟩
    | list b => exact Bool.noConfusion h0
    | tuple b => exact Bool.noConfusion h0
    | dict b => exact Bool.noConfusion h0
theorem flat_shaped {ds : List PyData} (h : ds.all flatD = true) : SeqAt.shaped (.list ds) = true := by
  obtain ⟨h1, h2⟩ := flat_all ds h
  unfold SeqAt.shaped
  rw [PyData.canLay0, PyData.depth, h1, h2]
  rfl
theorem sz1000 {n : Nat} (h : n ≤ 1000) : n ≤ sizeLine := Nat.le_of_lt (small1000 h)
/-- the built-in names that are still the built-in's -/
structure Bl (mg : Str → Option Value) : Prop where
  isi : mg "isinstance" = none
  int : mg "int" = none
  bool : mg "bool" = none
  str : mg "str" = none
  tuple : mg "tuple" = none
  list : mg "list" = none
  len : mg "len" = none
  all : mg "all" = none
  repr : mg "repr" = none
  max : mg "max" = none
  range : mg "range" = none
  enum : mg "enumerate" = none
section
variable {X : Cx}
theorem b_int (T : Bl X.mg) {p : Pos} (hg : Gl X "int" := by rfl) : PE X (.Name "int" p) (tC (.ty "int")) := pe_bltn hg T.int PyProof.Rows.boot_int rfl
theorem b_bool (T : Bl X.mg) {p : Pos} (hg : Gl X "bool" := by rfl) : PE X (.Name "bool" p) (tC (.ty "bool")) := pe_bltn hg T.bool PyProof.Rows.boot_bool rfl
theorem b_str (T : Bl X.mg) {p : Pos} (hg : Gl X "str" := by rfl) : PE X (.Name "str" p) (tC (.ty "str")) := pe_bltn hg T.str PyProof.Rows.boot_str rfl
theorem b_tuple (T : Bl X.mg) {p : Pos} (hg : Gl X "tuple" := by rfl) : PE X (.Name "tuple" p) (tC (.ty "tuple")) := pe_bltn hg T.tuple PyProof.Rows.boot_tuple rfl
end
theorem iteD {p A B : Prop} [Decidable p] (h1 : p → A) (h2 : ¬ p → B) : if decide p = true then A else B := by
  by_cases h : p
  · rw [if_pos (decide_eq_true h)]
    exact h1 h
  · rw [if_neg (by rw [decide_eq_false h]; exact Bool.false_ne_true)]
    exact h2 h
theorem iteN {p A B : Prop} [Decidable p] (h1 : ¬ p → A) (h2 : p → B) : if (!decide p) = true then A else B := by
  by_cases h : p
  · rw [if_neg (by rw [decide_eq_true h]; exact Bool.false_ne_true)]
    exact h2 h
  · rw [if_pos (by rw [decide_eq_false h]; rfl)]
    exact h1 h
theorem iteB {b : Bool} {A B : Prop} (h1 : b = true → A) (h2 : b = false → B) : if b = true then A else B := by
  cases b with
  | true => exact h1 rfl
  | false => rw [if_neg Bool.false_ne_true]; exact h2 rfl
/-! ### comprehensions whose parts leave all as it was -/
section
variable {K : PySem.W.Frag} {a : Addr} {xs : List V}
theorem fn_list : Walk (Itl K a) xs.length (fun H => SqL K H a xs) (YFn fun i => xs.getD i .non) :=
  walk_list.mono (fun _ h => h) fun i H x H' hi _ y => ⟨y.1, by show x = xs.getD i .non; rw [List.getD_eq_getElem?_getD, y.2]; rfl⟩
theorem fn_tup : Walk (Itt K a) xs.length (fun H => SqT K H a xs) (YFn fun i => xs.getD i .non) :=
  walk_tup.mono (fun _ h => h) fun i H x H' hi _ y => ⟨y.1, by show x = xs.getD i .non; rw [List.getD_eq_getElem?_getD, y.2]; rfl⟩
theorem fn_str {z : Str} : Walk (Its z) z.cps.toList.length (fun _ => True) (YFn fun i => .str ⟨#[z.cps.toList.getD i 0]⟩) :=
  walk_str.mono (fun _ h => h) fun i H x H' hi _ y => by
    obtain ⟨e, c, hc, rfl⟩ := y
    refine ⟨e, ?_⟩
    show V.str ⟨#[c]⟩ = V.str ⟨#[z.cps.toList.getD i 0]⟩
    rw [List.getD_eq_getElem?_getD, Array.getElem?_toList, hc]
    rfl
end
def picked {α : Type} (n : Nat) (f : Nat → Bool) (v : Nat → α) : List α := ((List.range n).filter f).map v
theorem picked_yes {α : Type} {n : Nat} {f : Nat → Bool} {v : Nat → α} (h : f n = true) : picked (n + 1) f v = picked n f v ++ [v n] := by
  unfold picked
  rw [List.range_succ, List.filter_append, List.map_append]
  simp [h]
theorem picked_no {α : Type} {n : Nat} {f : Nat → Bool} {v : Nat → α} (h : f n = false) : picked (n + 1) f v = picked n f v := by
  unfold picked
  rw [List.range_succ, List.filter_append, List.map_append]
  simp [h]
theorem picked_len {α : Type} (n : Nat) (f : Nat → Bool) (v : Nat → α) : (picked n f v).length ≤ n := by
  unfold picked
  rw [List.length_map]
  exact Nat.le_trans (List.length_filter_le _ _) (by rw [List.length_range]; exact Nat.le_refl n)
theorem picked_all {α β : Type} (xs : List α) (d : α) (g : α → β) : picked xs.length (fun _ => true) (fun i => g (xs.getD i d)) = xs.map g := by
  unfold picked
  rw [List.filter_eq_self.mpr (fun _ _ => rfl)]
  apply List.ext_getElem
  · simp
  · intro i h1 h2
    simp at h1 h2 ⊢
    rw [List.getElem?_eq_getElem h2]
    rfl
theorem picked_some {α β : Type} (xs : List α) (d : α) (p : α → Bool) (g : α → β) : picked xs.length (fun i => p (xs.getD i d)) (fun i => g (xs.getD i d)) = (xs.filter p).map g := by
  have h := picked_all xs d id
  unfold picked at h ⊢
  rw [List.filter_eq_self.mpr (fun _ _ => rfl), List.map_id] at h
  have e : (List.range xs.length).map (fun i => xs.getD i d) = xs := by simpa using h
  conv => rhs; rw [← e]
  rw [List.filter_map, List.map_map]
  rfl
theorem lc_pure {J : It} {n j : Nat} {G : Hp → Prop} {Xi : Nat → V} {tt : TT} {te : TE} {vs : List Nat} {σ : L2.St} {H1 : Hp} {D : Addr} {Qd : Hp → Prop} (wk : Walk J n G (YFn Xi)) (f : Nat → Bool) (v : Nat → V)
    (hG : ∀ H, Same H1 H → G H) (hn : n ≤ 1000000) (hw : ∀ x, wipe ((wipe σ vs).set j (some x)) vs = wipe σ vs) (hD : H1 D = none)
    (ht : ∀ i H, i < n → Same H1 H → ∀ Qt : Bool → Hp → Prop, (∀ H3, Same H H3 → Qt (f i) H3) → tt ((wipe σ vs).set j (some (Xi i))) H Qt)
    (he : ∀ i H, i < n → f i = true → Same H1 H → ∀ Qe : VK, (∀ H3, Same H H3 → Qe (v i) H3) → te ((wipe σ vs).set j (some (Xi i))) H Qe)
    (q : ∀ H2, Same H1 H2 → H2 D = some (.lst (picked n f v)) → Qd H2) :
    ∃ W : Nat → Nat → Hp → Prop, (∃ m, W 0 m (upd H1 D (.lst []))) ∧ ∀ i m H, W i m H →
      (J.stop i H ∧ Qd H) ∨ (J.go i H ∧ ∃ Nx : Hp → Prop, (∀ H', Nx H' → ∃ m', m' < m ∧ W (i + 1) m' H') ∧ ∀ x H', J.yld i H x H' → gName j x (wipe σ vs) H' fun σ2 H2 => wipe σ2 vs = wipe σ vs ∧ tt σ2 H2 fun b H3 =>
        if b = true then te σ2 H3 fun y H4 => ∃ acc, H4 D = some (.lst acc) ∧ acc.length < sizeLine ∧ Nx (upd H4 D (.lst (acc ++ [y]))) else Nx H3) := by
  refine lc_it wk (fun i H => Same H1 H ∧ H D = some (.lst (picked i f v))) ⟨same_new hD, upd_same⟩ (fun i H _ p => hG H p.1) (fun i x H H' hi p y => ?_) (fun H p => q H p.1 p.2)
  obtain ⟨rfl, rfl⟩ := y
  obtain ⟨p1, p2⟩ := p
  refine ⟨hw _, ht i _ hi p1 _ fun H3 e3 => ?_⟩
  refine ite2 (fun c => ?_) (fun c => ?_)
  · refine he i H3 hi c (p1.trans e3) _ fun H4 e4 => ?_
    refine ⟨_, e4 _ _ (e3 _ _ p2), ?_, ?_⟩
    · exact Nat.lt_of_le_of_lt (picked_len i f v) (Nat.lt_of_lt_of_le (Nat.lt_of_lt_of_le hi hn) (by decide))
    · exact ⟨same_mut ((p1.trans e3).trans e4) hD, by rw [upd_same, picked_yes c]⟩
  · have c' : f i = false := Bool.eq_false_iff.mpr c
    exact ⟨p1.trans e3, by rw [picked_no c']; exact e3 _ _ p2⟩
/-- a def of the program that is called: where it stands, and what it promises -/
structure Use (P : Program) (w : World) (K : PySem.W.Frag) (mg : Str → Option Value) (base : Heap) (x : Str) (ps : List Str) (k : Nat) (sp : Sp) where
  f : Addr
  fd : FuncData
  ok : FnOk P w K mg base CX0 k f fd ps sp
  m : mg x = some (.ref f)
  kp : PySem.W.keepIn K (.ref f) = true
  b : Binds K fd ps []
end Tl

set_option Elab.async false
set_option linter.all false
set_option maxRecDepth 100000
set_option maxHeartbeats 4000000
/-! Rules of our own: tuple * int of any small count, text * int, enumerate of a tuple, repr of data. -/
namespace Tl
open PySem PySem.Spec PyProof.Rows L2
open AutoSeq1 (wpAny_loadPart')
/-- one way through tuple.__mul__ where the tuple itself comes back -/
theorem mulSame (l : Addr) (items : Array Value) (n : Nat) (dd : Option Addr) (sl : Array (Option Value)) (x : Int) (u : Tok)
    (c0 : (decide (x < -(2 ^ 63)) || decide (x ≥ 2 ^ 63)) = false) (c1 : (items.isEmpty || x == 1) = true) :
    Meets (Builtin.«tuple.__mul__» ⟨[.ref l, .int x u], []⟩) (fun _ R s =>
      s.heap.get? l = some { cls := .type "tuple", dict := dd, data := .seq items n, slots := sl } ∧
        R (.ok (.ret (Value.ref l))) s) :=
  .of_wp fun prog w A R s h => by
    obtain ⟨hp, g, d, tk, os⟩ := s
    obtain ⟨hl, h⟩ := h
    have f1 := AutoSeq1.idx_int
    wp_walk using wpAny_loadPart' hl
    refine wpAny_ite_false (decide_eq_false (by rw [c0]; exact Bool.false_ne_true)) ?_
    wp_walk using wpAny_loadPart' hl
    exact ⟨_, rfl, h⟩
theorem mulNone (l : Addr) (items : Array Value) (n : Nat) (dd : Option Addr) (sl : Array (Option Value)) (x : Int) (u : Tok)
    (c0 : (decide (x < -(2 ^ 63)) || decide (x ≥ 2 ^ 63)) = false) (c1 : (items.isEmpty || x == 1) = false) (c2 : (decide (x ≤ 0) || items.isEmpty) = true) :
    Meets (Builtin.«tuple.__mul__» ⟨[.ref l, .int x u], []⟩) (fun _ R s =>
      s.heap.get? l = some { cls := .type "tuple", dict := dd, data := .seq items n, slots := sl } ∧
        R (.ok (.ret (Value.ref s.heap.objs.size))) { s with heap := s.heap.push { cls := Value.type "tuple", data := Data.seq #[] }, toks := s.toks }) :=
  .of_wp fun prog w A R s h => by
    obtain ⟨hp, g, d, tk, os⟩ := s
    obtain ⟨hl, h⟩ := h
    have f1 := AutoSeq1.idx_int
    wp_walk using wpAny_loadPart' hl
    refine wpAny_ite_false (decide_eq_false (by rw [c0]; exact Bool.false_ne_true)) ?_
    wp_walk using wpAny_loadPart' hl
    exact ⟨_, rfl, h⟩
def rRepA (K : PySem.W.Frag) : R2 := fun x y H Q => ∃ l k xs, x = .ref l ∧ y = .int k ∧ SqT K H l xs ∧ 0 ≤ k ∧ k ≤ 1000 ∧ xs.length ≤ 1000 ∧ (xs = [] ∨ k = 1 → Q (.ref l) H) ∧
  (¬ (xs = [] ∨ k = 1) → ∀ p, H p = none → Q (.ref p) (upd H p (.tup (List.replicate k.toNat xs).flatten)))
theorem op_repA {X : Cx} : OpR X (binaryOp .Mult) (rRepA X.K) := by
  intro pins s σ H x y v u Q I rx ry h
  obtain ⟨l, k, xs, rfl, rfl, hT, h1, h2, hz, q0, q1⟩ := h
  by_cases hc : xs = [] ∨ k = 1
  · cases rx
    obtain ⟨t, rfl⟩ := ry
    obtain ⟨its, r, ⟨⟨cls, dd, data, sl⟩, ho, hcl, n, hd⟩, hs⟩ := I.tuple hT
    simp only at hcl hd
    subst hcl hd
    have c0 : (decide (k < -(2 ^ 63)) || decide (k ≥ 2 ^ 63)) = false := by
      rw [decide_eq_false (by omega), decide_eq_false (by omega)]
      rfl
    have c1 : (its.toArray.isEmpty || k == 1) = true := by
      rcases hc with e | e
      · subst e
        cases r
        rfl
      · rw [e, Bool.or_eq_true]
        exact .inr rfl
    refine wpAny_binaryOp_repeat_ref (T := "tuple") (U := "int") (by decide) ⟨_, ho, rfl⟩ (fun s' => typeIs_int s' k t)
      noFill_tuple_mul F.fills_int_mul F.slot_int_rmul repeat_tuple F.slot_int_index.lookup
      (call_meets F.slot_int_rmul (typeIs_int s k t) F.entry_int_rmul (F.args_int_rmul_2 _ _)
        (int_rmul_tuple k t l its.toArray n dd sl) ⟨ho, rfl, ⟨_, ho, rfl⟩, call_meets F.slot_tuple_mul ⟨_, ho, rfl⟩ F.entry_tuple_mul (F.args_tuple_mul_2 _ _) (mulSame l its.toArray n dd sl k t c0 c1) ⟨ho, ?_⟩⟩)
    exact ⟨.ref l, H, I, rfl, q0 hc⟩
  · by_cases hk : 2 ≤ k
    · exact op_repT pins s σ H _ _ v u Q I rx ry ⟨l, k, xs, rfl, rfl, hT, fun e => hc (.inl e), hk, h2, hz, q1 hc⟩
    · have hk0 : k = 0 := by
        have : ¬ k = 1 := fun e => hc (.inr e)
        omega
      subst hk0
      cases rx
      obtain ⟨t, rfl⟩ := ry
      obtain ⟨its, r, ⟨⟨cls, dd, data, sl⟩, ho, hcl, n, hd⟩, hs⟩ := I.tuple hT
      simp only at hcl hd
      subst hcl hd
      have hi : its.toArray.isEmpty = false := by
        cases r with
        | nil => exact absurd (.inl rfl) hc
        | cons a b => rfl
      have c1 : (its.toArray.isEmpty || (0 : Int) == 1) = false := by rw [hi]; rfl
      refine wpAny_binaryOp_repeat_ref (T := "tuple") (U := "int") (by decide) ⟨_, ho, rfl⟩ (fun s' => typeIs_int s' 0 t)
        noFill_tuple_mul F.fills_int_mul F.slot_int_rmul repeat_tuple F.slot_int_index.lookup
        (call_meets F.slot_int_rmul (typeIs_int s 0 t) F.entry_int_rmul (F.args_int_rmul_2 _ _)
          (int_rmul_tuple 0 t l its.toArray n dd sl) ⟨ho, rfl, ⟨_, ho, rfl⟩, call_meets F.slot_tuple_mul ⟨_, ho, rfl⟩ F.entry_tuple_mul (F.args_tuple_mul_2 _ _) (mulNone l its.toArray n dd sl 0 t (by decide) c1 (by rfl)) ⟨ho, ?_⟩⟩)
      refine ⟨.ref s.heap.objs.size, _, I.laid (t' := s.toks) (o := .tup []) (fun b ob q => Heap.get?_push_of_some _ q) (Nat.le_refl _) ?_, rfl, q1 hc _ (I.hok.fresh (Nat.le_refl _))⟩
      exact ⟨Nat.zero_le _, [], .nil, IsTup.new _ _⟩
/-- text * int -/
def repS (x : Str) (n : Nat) : Str := ⟨(List.replicate n x.cps.toList).flatten.toArray⟩
theorem fold_rep (x : Array Nat) : ∀ (n : Nat) (a : Array Nat), (List.replicate n x).foldl (· ++ ·) a = a ++ (List.replicate n x.toList).flatten.toArray
  | 0, a => by simp
  | n + 1, a => by
    rw [List.replicate_succ, List.foldl_cons, fold_rep x n, List.replicate_succ, List.flatten_cons, Array.append_assoc]
    congr 1
    simp
theorem repS_len (a : Str) (n : Nat) : (repS a n).length = n * a.length := by
  show ((List.replicate n a.cps.toList).flatten.toArray).size = n * a.cps.size
  rw [List.size_toArray, PyProof.Rows.lm_len_rep_flat]
  rfl
theorem op_rep_str {X : Cx} : OpR X (binaryOp .Mult) (fun x y H Q => ∃ (a : Str) (n : Int), x = .str a ∧ y = .int n ∧ a.length = 1 ∧ 0 ≤ n ∧ n ≤ 1000 ∧ Q (.str (repS a n.toNat)) H) := by
  intro pins s σ H x y v u Q I rx ry h
  obtain ⟨a, n, rfl, rfl, ha, h0, h1, q⟩ := h
  obtain ⟨t, rfl⟩ := rx
  obtain ⟨t', rfl⟩ := ry
  refine PySem.P.mul_str ?_ (fun _ _ => ?_) (fun _ _ => ?_) ?_
  · rw [decide_eq_false (by omega), decide_eq_false (by omega)]
    rfl
  · rw [ha]
    rename_i hn _
    have h5 : (2 ^ 63 - 1 : Int) / 1000 ≤ (2 ^ 63 - 1) / n := by
      apply (Int.le_ediv_iff_mul_le (by omega)).mpr
      have h6 : (2 ^ 63 - 1 : Int) / 1000 = 9223372036854775 := by decide
      rw [h6]
      omega
    have h7 : (2 ^ 63 - 1 : Int) / 1000 = 9223372036854775 := by decide
    omega
  · rw [ha, Nat.one_mul]
    unfold Builtin.Str.tooLong
    rw [sizeLine_eq]
    exact decide_eq_false (by omega)
  · have done : ∀ (t2 : Tok) (k2 : Nat), EP X pins σ Q (.str (repS a n.toNat) t2) { s with toks := k2 } := fun t2 k2 => ⟨.str _, H, I.tok k2, ⟨t2, rfl⟩, q⟩
    by_cases c1 : n < 1
    · rw [if_pos c1]
      have e : n.toNat = 0 := by omega
      have e2 : repS a n.toNat = Str.empty := by rw [e]; rfl
      rw [e2] at done
      exact ⟨by decide, done _ _⟩
    · rw [if_neg c1]
      by_cases c2 : (n == 1 || a.length == 0) = true
      · rw [if_pos c2]
        have e : n = 1 := by
          rw [Bool.or_eq_true, ha] at c2
          rcases c2 with c2 | c2
          · exact eq_of_beq c2
          · exact absurd c2 (by decide)
        have e2 : repS a n.toNat = a := by
          rw [e]
          unfold repS
          simp
        rw [e2] at done
        exact done t s.toks
      · rw [if_neg c2]
        have e2 : (⟨(List.replicate n.toNat a.cps).foldl (· ++ ·) #[]⟩ : Str) = repS a n.toNat := by
          unfold repS
          rw [fold_rep]
          simp
        rw [e2]
        refine ⟨?_, done _ _⟩
        rw [repS_len, ha, sizeLine_eq]
        omega
/-! ### enumerate(t), t a tuple -/
set_option maxHeartbeats 4000000 in
theorem enumNew {v : Value} {o : Obj} {Hh : Heap → Prop} (B : Begins v o Hh) :
    Meets (Builtin.«enumerate.__new__» ⟨[.type "enumerate", v], []⟩) (fun _ R s => Hh s.heap ∧
      R (.ok (.ret (.ref (s.heap.push o).objs.size)))
        { s with heap := (s.heap.push o).push { cls := .type "enumerate", data := .fields #[.none, .bool false, .ref s.heap.objs.size, rawInt 0, .none, .none] } }) :=
  .of_wp fun prog w A R s h => by
    obtain ⟨hp, g, d, tk, os⟩ := s
    obtain ⟨h1, h⟩ := h
    have hsub := sub_enumerate
    have it : ∀ {A' : Around} {E : Value → Shared → Prop} {Q : Value → Shared → Prop}, Q (.ref hp.objs.size) ⟨hp.push o, g, d, tk, os⟩ →
        wpAny (model prog w) A' (pyIter v) Q E ⟨hp, g, d, tk, os⟩ := fun q => B.iter prog w _ _ ⟨hp, g, d, tk, os⟩ _ h1 q
    wp_walk using it
    refine wpAny_stack_any fun st => wpAny_pure ?_
    split
    · rename_i c _ _ _ _ _
      cases (c == Value.type "enumerate")
      · wp_walk using it
        exact ⟨_, rfl, h⟩
      · wp_walk using it
        exact ⟨_, rfl, h⟩
    · wp_walk using it
      exact ⟨_, rfl, h⟩
theorem enumTup {prog : Program} {w : World} {A : Around} {E : Value → Shared → Prop} {s : Shared} {l : Addr} {items : Array Value} {Q : Value → Shared → Prop} (hL : s.heap.IsTuple l items)
    (h : ∀ h', IsEnum h' (s.heap.objs.size + 1) s.heap.objs.size 0 .none → h'.IsTupleIter s.heap.objs.size l 0 →
      (∀ b o, s.heap.get? b = some o → h'.get? b = some o) → Q (.ref (s.heap.objs.size + 1)) { s with heap := h' }) :
    wpAny (model prog w) A (call (.type "enumerate") [.ref l]) Q E s := by
  refine callType_new F.called_enumerate (by decide) (F.typeCall_enumerate_1 _) (F.newCall_enumerate_1 _)
    (fun obj => F.args_object_init_2 obj _) F.entry_enumerate_new (enumNew (begins_tuple l items)) ⟨hL, ?_⟩
  have hz : (s.heap.push { cls := .type "tuple_iterator", data := .fields #[.ref l, .int 0 0] }).objs.size = s.heap.objs.size + 1 := Heap.size_push ..
  show _ ∧ _
  rw [hz]
  generalize hk : (s.heap.push { cls := .type "tuple_iterator", data := .fields #[.ref l, .int 0 0] }) = h1 at hz ⊢
  have g0 : h1.get? s.heap.objs.size = some { cls := .type "tuple_iterator", data := .fields #[.ref l, .int 0 0] } := by rw [← hk]; exact Heap.get?_push_size _ rfl
  have g1 := Heap.get?_push_size h1 (o := { cls := .type "enumerate", data := .fields #[.none, .bool false, .ref s.heap.objs.size, rawInt 0, .none, .none] }) rfl
  rw [hz] at g1
  refine ⟨⟨_, g1, rfl⟩, h _ g1 ⟨_, Heap.get?_push_of_some _ g0, rfl, rfl⟩ fun b o x => Heap.get?_push_of_some _ ?_⟩
  rw [← hk]
  exact Heap.get?_push_of_some _ x
def Iet (K : PySem.W.Frag) (a : Addr) : It where
  go := fun i H => ∃ (xs : List V) (x : V), SqT K H a xs ∧ xs[i]? = some x
  yld := fun i H v H' => ∃ T x, v = .ref T ∧ H T = none ∧ H' = upd H T (.tup [.int (i : Nat), x]) ∧ ∀ xs, SqT K H a xs → xs[i]? = some x
  stop := fun i H => ∃ xs : List V, SqT K H a xs ∧ xs.length = i
theorem turnET {P : Program} {w : World} {K : PySem.W.Frag} {elts : List Expr} {kk : Nat} {tpos : Pos} (a e it : Addr) :
    Turn P w K (.Tuple elts kk tpos) (Iet K a) [e, it] e
      (fun i h => (∃ old, IsEnum h e it ((i : Nat) : Int) old) ∧ h.IsTupleIter it a i ∧ e ≠ it) where
  mem := by simp
  obj := fun i h st b hb => by
    obtain ⟨⟨old, he⟩, ⟨o, ho, hc, hd⟩, _⟩ := st
    have hb2 : b = e ∨ b = it := by simpa using hb
    rcases hb2 with rfl | rfl
    · exact ⟨_, he, fun v q => nomatch q⟩
    · exact ⟨o, ho, fun v q => by rw [hd] at q; cases q⟩
  keep := fun i h h' st k => by
    obtain ⟨⟨old, he⟩, hi, hne⟩ := st
    exact ⟨⟨old, k e (by simp) _ he⟩, hi.at fun o q => k it (by simp) o q, hne⟩
  item := by
    intro X hP hw hK hc i pins s σ H E I hf st hg
    subst hP hw hK
    obtain ⟨⟨old, he⟩, hit, hne⟩ := st
    obtain ⟨xs, x, hq, hx⟩ := hg
    obtain ⟨its, rv, p, hz⟩ := I.tuple hq
    obtain ⟨u, hu, ru⟩ := rv.get hx
    have hel : e < s.heap.objs.size := Heap.lt_size he
    have hil : it < s.heap.objs.size := by
      obtain ⟨_, q, _⟩ := hit
      exact Heap.lt_size q
    have hae : a ≠ e := fun z => by
      obtain ⟨o, ho, hcl, _⟩ := p
      rw [z, he] at ho
      cases ho
      have h9 : Value.type "enumerate" = Value.type "tuple" := hcl
      exact absurd h9 (by decide)
    have hai : a ≠ it := fun z => by
      obtain ⟨o, ho, hcl, _⟩ := p
      obtain ⟨o', ho', hcl', _⟩ := hit
      rw [z, ho'] at ho
      cases ho
      rw [hcl'] at hcl
      exact absurd hcl (by decide)
    have hlt : i < its.toArray.size := by
      rw [List.size_toArray]
      exact (List.getElem?_eq_some_iff.mp hu).1
    refine wpAny_pyNext_enum_itemD (Draws.tuple (prog := X.prog) (w := X.w) (A := X.A.in1) (I.ok.hd hc) it a hai its.toArray) he ⟨hit, p⟩ hlt hne (by simp [hne, Ne.symm hae]) fun y h' tk hy ho hst hT hsz hk => ?_
    have ey : y = u := by
      have hu' : its.toArray[i]? = some u := by simpa using hu
      rw [hu'] at hy
      exact (Option.some.inj hy).symm
    subst ey
    refine ⟨_, rfl, wpAny_letOwnedTupleGo_enum (s := { s with heap := h', toks := tk + 1 }) ho fun h'' he' sb => ?_⟩
    have hT2 := (sb.2 _ (Nat.ne_of_gt hel)).trans hT
    have new : ObjOk X.prog X.w (upd H s.heap.objs.size (.tup [.int (i : Nat), x])) h'' s.heap.objs.size (.tup [.int (i : Nat), x]) :=
      ⟨by show 2 ≤ sizeLine; decide, [.int i tk, y], .cons ⟨_, rfl⟩ (.cons ru .nil), ⟨_, hT2, rfl, _, rfl⟩⟩
    have I1 : Inv X pins σ (upd H s.heap.objs.size (.tup [.int (i : Nat), x])) { s with heap := h'', toks := tk + 1 } :=
      I.turnedNew (ch := [e, it]) (fun b ob hb q => (sb.2 b fun z => hb (by simp [z])).trans
        (hk b ob (fun z => hb (by simp [z])) (fun z => hb (by simp [z])) q)) hf (Nat.le_refl _) new
    refine ⟨.ref s.heap.objs.size, _, I1, rfl, ⟨_, x, rfl, I.hok.fresh (Nat.le_refl _), rfl, fun ys hy => by rw [I.tuple_inj hy hq]; exact hx⟩, ⟨⟨y, ?_⟩, hst.1.at fun o q => (sb.2 it (Ne.symm hne)).trans q, hne⟩, fun b hb => ?_⟩
    · rw [show ((i + 1 : Nat) : Int) = (i : Int) + 1 by omega]
      exact he'
    · have hb2 : b = e ∨ b = it := by simpa using hb
      have hb3 : b < s.heap.objs.size := by
        rcases hb2 with rfl | rfl
        · exact hel
        · exact hil
      rw [upd_ne (Nat.ne_of_lt hb3)]
      exact (hf b hb).1
  done := by
    intro X hP hw hK hc i pins s σ H E I hf st hg
    subst hP hw hK
    obtain ⟨⟨old, he⟩, hit, hne⟩ := st
    obtain ⟨xs, hq, hx⟩ := hg
    obtain ⟨its, rv, p, hz⟩ := I.tuple hq
    obtain ⟨f0, f1, f2, f3, f4, f5⟩ := hf it (by simp)
    have hai : a ≠ it := fun z => by
      obtain ⟨o, ho, hcl, _⟩ := p
      obtain ⟨o', ho', hcl', _⟩ := hit
      rw [z, ho'] at ho
      cases ho
      rw [hcl'] at hcl
      exact absurd hcl (by decide)
    have hn : its.toArray.size = i := by rw [List.size_toArray, ← rv.length, hx]
    have hst : s.heap.IsTupleIter it a its.toArray.size ∧ s.heap.IsTuple a its.toArray := ⟨by rw [hn]; exact hit, p⟩
    exact wpAny_pyNext_enum_endD (Draws.tuple (prog := X.prog) (w := X.w) (A := X.A.in1) (I.ok.hd hc) it a hai its.toArray) he hst fun h' eb => ⟨rfl, I.turned (t' := s.toks) (fun b o hb q => eb b o hb q) f0 f1 f3 f4 f5⟩
  self := fun A i s Q E st h => by
    obtain ⟨⟨_, he⟩, _⟩ := st
    exact wpAny_pyIter_enum he h
def iEnumT (K : PySem.W.Frag) (ta : TA) : TI := fun σ H R => ta σ H fun vs H1 => ∃ a xs, vs = [.ref a] ∧ SqT K H1 a xs ∧ R (Iet K a) H1
theorem pi_enumT {X : Cx} {e : Expr} {ta : TA} {p pos tpos : Pos} {elts : List Expr} {kk : Nat} (hg : Gl X "enumerate") (hm : X.mg "enumerate" = none)
    (ha : PA X [e] ta) (hs : starEach [e] X.env = [(false, eval e X.env)] := by rfl) : PI X (.Tuple elts kk tpos) (.Call (.Name "enumerate" p) [e] [] pos) (iEnumT X.K ta) := by
  refine ⟨fun pins s σ H R I h => ?_⟩
  refine Call_ (ld_blt I hg hm boot_enumerate (callWith_type1
    (thn (ha.run pos pins s σ H _ I h) fun us s1 ⟨vs, H1, I1, r1, q1⟩ => ?_) hs rfl))
  obtain ⟨a, xs, ex, hq, q⟩ := q1
  subst ex
  cases r1 with
  | cons r rr =>
    cases rr
    cases r
    obtain ⟨its, rv, p', hz⟩ := I1.tuple hq
    refine enumTup p' fun h' he hit hk => wpAny_pyIter_enum he ?_
    have I2 : Inv X pins σ H1 { s1 with heap := h' } := I1.kept (t' := s1.toks) hk
    refine ⟨s1.heap.objs.size + 1, [s1.heap.objs.size + 1, s1.heap.objs.size], _, _, H1, rfl, I2,
      turnET a (s1.heap.objs.size + 1) s1.heap.objs.size, ⟨⟨.none, he⟩, hit, Nat.succ_ne_self _⟩, fun b hb => ?_, q⟩
    have hle : s1.heap.objs.size ≤ b := by
      have hb2 : b = s1.heap.objs.size + 1 ∨ b = s1.heap.objs.size := by simpa using hb
      rcases hb2 with z | z
      · rw [z]
        exact Nat.le_add_right _ _
      · rw [z]
        exact Nat.le_refl _
    exact I1.fpOk hle (I1.hok.fresh hle)
theorem walk_enumT {K : PySem.W.Frag} {a : Addr} {xs : List V} : Walk (Iet K a) xs.length (fun H => SqT K H a xs)
    (fun i H v H' => ∃ T x, v = .ref T ∧ H T = none ∧ H' = upd H T (.tup [.int (i : Nat), x]) ∧ xs[i]? = some x) := by
  refine ⟨fun i _ hi q => ⟨xs, xs[i], q, by simp [hi]⟩, fun _ q => ⟨xs, q, rfl⟩, fun i H v H' _ q y => ?_⟩
  obtain ⟨T, x, h1, h2, h3, h4⟩ := y
  exact ⟨T, x, h1, h2, h3, h4 xs q⟩
/-! ### repr of data -/
def rReprD (K : PySem.W.Frag) : List V → Hp → VK → Prop := fun vs H Q => ∃ (v : V) (d : PyData), vs = [v] ∧ Dt K H v d ∧ d.showable = true ∧ d.depth ≤ 100 ∧ d.shown.length ≤ sizeLine ∧ Q (.str d.shown) H
mutual
theorem noD {K : PySem.W.Frag} {H : Hp} : ∀ (d : PyData) {v : V}, Dp K H v d → d.hasDict = false
  | .none, _, _ => rfl
  | .bool _, _, _ => rfl
  | .int _, _, _ => rfl
  | .str _, _, _ => rfl
  | .list ds, _, h => by
    cases h with
    | lst _ ha => rw [PyData.hasDict]; exact noDAll ds ha
  | .tuple ds, _, h => by
    cases h with
    | tup _ ha => rw [PyData.hasDict]; exact noDAll ds ha
  | .dict _, _, h => by cases h
theorem noDAll {K : PySem.W.Frag} {H : Hp} : ∀ (ds : List PyData) {vs : List V}, DpAll K H vs ds → PyData.hasDictAll ds = false
  | [], _, _ => rfl
  | d :: ds, _, h => by
    cases h with
    | cons h1 h2 => rw [PyData.hasDictAll, noD d h1, noDAll ds h2]; rfl
end
theorem call_reprD {X : Cx} (hg : X.A.guards = some []) (hu : X.A.units + 200 < cLine) : CallR X (.builtin "repr") (rReprD X.K) := by
  intro pins s σ H vs us Q I r h
  obtain ⟨v, d, rfl, hd, hs, hdp, hz, q⟩ := h
  cases r with
  | cons r1 rr =>
    cases rr
    rename_i u
    cases hd with
    | d hd =>
      obtain ⟨as, hR⟩ := Dp.reads I d v u hd r1
      have fin : ∀ (t' : Tok) (k : Nat), EP X pins σ Q (.str d.shown t') { s with toks := k } := fun t' k => ⟨.str _, H, I.tok k, ⟨t', rfl⟩, q⟩
      cases hd with
      | non =>
        cases (show u = Value.none from r1)
        exact PySem.P.repr_of_none (fin _ _)
      | bl b =>
        cases (show u = Value.bool b from r1)
        refine PySem.P.repr_of_bool ?_
        have := fin s.toks (s.toks + 1)
        cases b <;> exact this
      | int i =>
        obtain ⟨t', rfl⟩ := r1
        exact PySem.P.repr_of_int (of_decide_eq_true hs) (fin _ _)
      | str x =>
        obtain ⟨t', rfl⟩ := r1
        exact PySem.P.repr_of_str (fin _ _) hz
      | @lst a xs ds hs2 ha =>
        cases (show u = Value.ref a from r1)
        have hnd : (PyData.list ds).hasDict = true → sysModules ∉ as := PyData.noDict_hsm (noD _ (.lst hs2 ha))
        exact repr_of_reads' hR hs hnd hg (by omega) (fun b o e => e) (fun h' t' tk hk => ⟨.str _, H, I.kept (t' := tk) hk, ⟨t', rfl⟩, q⟩) hz
      | @tup a xs ds hs2 ha =>
        cases (show u = Value.ref a from r1)
        have hnd : (PyData.tuple ds).hasDict = true → sysModules ∉ as := PyData.noDict_hsm (noD _ (.tup hs2 ha))
        exact repr_of_reads' hR hs hnd hg (by omega) (fun b o e => e) (fun h' t' tk hk => ⟨.str _, H, I.kept (t' := tk) hk, ⟨t', rfl⟩, q⟩) hz
    | @e a hd =>
      cases (show u = Value.ref a from r1)
      obtain ⟨hz2, hsm, vs, hkv, o, es, ep, h1, h2, h3⟩ := (show ObjOk X.prog X.w H s.heap a (.dK []) from I.hok a _ hd)
      cases hkv
      have hes : es.toList = [] := by
        have hp := h3.2.2.1
        generalize es.toList = l at hp
        cases hp
        rfl
      have hR : Reads s.heap (.ref a) (.dict []) (a :: [] ++ []) := Reads.dict h1 h2.1 h3.1 (by rw [hes]; exact .nil) (by rw [hes]; exact .nil)
      have hne : ¬ a = sysModules := fun z => by rw [z] at hsm; simp at hsm
      exact repr_of_reads' hR hs (fun _ z => hne (by simpa using Eq.symm (by simpa using z))) hg (by omega) (fun b o e => e) (fun h' t' tk hk => ⟨.str _, H, I.kept (t' := tk) hk, ⟨t', rfl⟩, q⟩) hz
end Tl

set_option Elab.async false
set_option linter.all false
set_option maxRecDepth 100000
set_option maxHeartbeats 4000000
/-! Data that is good to be shown: short texts, small numbers; how long its text can be. -/
namespace Tl
open PySem L2
mutual
def wt : PyData → Nat
  | .none => 4
  | .bool _ => 5
  | .int _ => 1930
  | .str s => 10 * s.length + 4
  | .list ds => 3 + wtAll ds
  | .tuple ds => 3 + wtAll ds
  | .dict _ => 2
def wtAll : List PyData → Nat
  | [] => 0
  | d :: ds => wt d + 2 + wtAll ds
end
mutual
def gd : PyData → Bool
  | .none => true
  | .bool _ => true
  | .int i => decide (i.natAbs < 10 ^ 41)
  | .str s => decide (s.length ≤ 1000) && PyData.strOk s
  | .list ds => gdAll ds
  | .tuple ds => gdAll ds
  | .dict _ => false
def gdAll : List PyData → Bool
  | [] => true
  | d :: ds => gd d && gdAll ds
end
mutual
theorem gd_txt : ∀ d : PyData, gd d = true → txt d = true
  | .none, _ => rfl
  | .bool _, _ => rfl
  | .int _, _ => rfl
  | .str s, h => by rw [gd] at h; rw [txt]; exact h
  | .list ds, h => by rw [gd] at h; rw [txt]; exact gdAll_txt ds h
  | .tuple ds, h => by rw [gd] at h; rw [txt]; exact gdAll_txt ds h
  | .dict _, h => Bool.noConfusion h
theorem gdAll_txt : ∀ ds : List PyData, gdAll ds = true → txtAll ds = true
  | [], _ => rfl
  | d :: ds, h => by
    rw [gdAll, Bool.and_eq_true] at h
    rw [txtAll, gd_txt d h.1, gdAll_txt ds h.2]
    rfl
end
theorem big41 : (10 : Nat) ^ 41 ≤ 2 ^ 1920 := Nat.le_trans (show (10 : Nat) ^ 41 ≤ 2 ^ 200 by decide) (Nat.pow_le_pow_right (by decide) (by decide))
mutual
theorem gd_show : ∀ d : PyData, gd d = true → d.showable = true
  | .none, _ => rfl
  | .bool _, _ => rfl
  | .int i, h => by
    rw [gd] at h
    have h2 : i.natAbs < 10 ^ 41 := of_decide_eq_true h
    rw [PyData.showable]
    apply decide_eq_true
    by_cases h0 : i.natAbs = 0
    · rw [h0]; decide
    · exact (Nat.log2_lt h0).mpr (Nat.lt_of_lt_of_le h2 big41)
  | .str s, h => rfl
  | .list ds, h => by rw [gd] at h; rw [PyData.showable]; exact gdAll_show ds h
  | .tuple ds, h => by rw [gd] at h; rw [PyData.showable]; exact gdAll_show ds h
  | .dict _, h => Bool.noConfusion h
theorem gdAll_show : ∀ ds : List PyData, gdAll ds = true → PyData.showableAll ds = true
  | [], _ => rfl
  | d :: ds, h => by
    rw [gdAll, Bool.and_eq_true] at h
    rw [PyData.showableAll, gd_show d h.1, gdAll_show ds h.2]
    rfl
end
theorem textFrom_le : ∀ (ts : List Str) (k : Nat) (acc : Str), (textFrom k acc ts).length ≤ acc.length + piled ts
  | [], k, acc => by rw [piled_nil]; exact Nat.le_refl _
  | t :: r, k, acc => by
    have ih := textFrom_le r (k + 1) (acc ++ (if k > 0 then ", " else "" : String) ++ t)
    have e : (acc ++ (if k > 0 then ", " else "" : String) ++ t).length ≤ acc.length + 2 + t.length := by
      rw [strLen_append, strLen_append]
      have : ((if k > 0 then ", " else "" : String) : Str).length ≤ 2 := by split <;> decide +kernel
      omega
    show (textFrom (k + 1) _ r).length ≤ _
    rw [piled_cons]
    omega
theorem listText_le (ts : List Str) : (listText ts).length ≤ piled ts + 2 := by
  unfold listText
  rw [strLen_append]
  have h := textFrom_le ts 0 "["
  have e1 : ((("[" : String) : Str)).length = 1 := rfl
  have e2 : ((("]" : String) : Str)).length = 1 := rfl
  rw [e1] at h
  rw [e2]
  omega
mutual
theorem shown_le : ∀ d : PyData, gd d = true → d.shown.length ≤ wt d
  | .none, _ => by decide +kernel
  | .bool true, _ => by decide +kernel
  | .bool false, _ => by decide +kernel
  | .int i, h => by
    rw [gd] at h
    have h2 : i.natAbs < 10 ^ 41 := of_decide_eq_true h
    have h4 : i.natAbs.log2 < 1920 := by
      by_cases h0 : i.natAbs = 0
      · rw [h0]; decide
      · exact (Nat.log2_lt h0).mpr (Nat.lt_of_lt_of_le h2 big41)
    have h3 := PyProof.Rows.int_text_len_1921 h4
    show (Str.ofString (toString i)).length ≤ 1930
    omega
  | .str s, h => by
    rw [gd, Bool.and_eq_true] at h
    have h2 := h.2
    rw [PyData.strOk, ← Array.all_toList, List.all_eq_true] at h2
    have h3 := StrLaws.reprText_len s fun c hc => Nat.lt_of_lt_of_le (of_decide_eq_true (h2 c hc)) (by decide)
    show (reprText s).length ≤ 10 * s.length + 4
    omega
  | .list ds, h => by
    rw [gd] at h
    have h2 := shownAll_le ds h
    have h3 := listText_le (PyData.shownAll ds)
    show (listText (PyData.shownAll ds)).length ≤ 3 + wtAll ds
    omega
  | .tuple ds, h => by
    rw [gd] at h
    have h2 := shownAll_le ds h
    have h3 := fmt_text (PyData.shownAll ds)
    show (tupleText (PyData.shownAll ds)).length ≤ 3 + wtAll ds
    omega
  | .dict _, h => Bool.noConfusion h
theorem shownAll_le : ∀ ds : List PyData, gdAll ds = true → piled (PyData.shownAll ds) ≤ wtAll ds
  | [], _ => Nat.le_refl _
  | d :: ds, h => by
    rw [gdAll, Bool.and_eq_true] at h
    have h1 := shown_le d h.1
    have h2 := shownAll_le ds h.2
    rw [PyData.shownAll, piled_cons, wtAll]
    omega
end
theorem gdAll_get : ∀ {ds : List PyData} {i : Nat} {d : PyData}, gdAll ds = true → ds[i]? = some d → gd d = true ∧ wt d + 2 ≤ wtAll ds ∧ d.depth ≤ PyData.depthAll ds
  | [], _, _, _, e => by simp at e
  | a :: r, 0, d, h, e => by
    rw [gdAll, Bool.and_eq_true] at h
    simp at e
    subst e
    rw [wtAll, PyData.depthAll]
    exact ⟨h.1, by omega, Nat.le_max_left _ _⟩
  | a :: r, i + 1, d, h, e => by
    rw [gdAll, Bool.and_eq_true] at h
    obtain ⟨h1, h2, h3⟩ := gdAll_get (i := i) h.2 (by simpa using e)
    rw [wtAll, PyData.depthAll]
    exact ⟨h1, by omega, Nat.le_trans h3 (Nat.le_max_right _ _)⟩
theorem gdAll_app : ∀ {ds es : List PyData}, gdAll (ds ++ es) = (gdAll ds && gdAll es)
  | [], es => by rw [List.nil_append, gdAll, Bool.true_and]
  | a :: r, es => by rw [List.cons_append, gdAll, gdAll, gdAll_app, Bool.and_assoc]
theorem wtAll_app : ∀ {ds es : List PyData}, wtAll (ds ++ es) = wtAll ds + wtAll es
  | [], es => by rw [List.nil_append, wtAll, Nat.zero_add]
  | a :: r, es => by rw [List.cons_append, wtAll, wtAll, wtAll_app]; omega
theorem depthAll_app : ∀ {ds es : List PyData}, PyData.depthAll (ds ++ es) = max (PyData.depthAll ds) (PyData.depthAll es)
  | [], es => by rw [List.nil_append, PyData.depthAll]; omega
  | a :: r, es => by rw [List.cons_append, PyData.depthAll, PyData.depthAll, depthAll_app]; omega
theorem gdAll_rep {ds : List PyData} (h : gdAll ds = true) : ∀ n, gdAll (List.replicate n ds).flatten = true
  | 0 => rfl
  | n + 1 => by rw [List.replicate_succ, List.flatten_cons, gdAll_app, h, gdAll_rep h n]; rfl
theorem wtAll_rep (ds : List PyData) : ∀ n, wtAll (List.replicate n ds).flatten = n * wtAll ds
  | 0 => by rw [Nat.zero_mul]; rfl
  | n + 1 => by rw [List.replicate_succ, List.flatten_cons, wtAll_app, wtAll_rep ds n, Nat.succ_mul]; omega
theorem depthAll_rep (ds : List PyData) : ∀ n, PyData.depthAll (List.replicate n ds).flatten ≤ PyData.depthAll ds
  | 0 => Nat.zero_le _
  | n + 1 => by
    have := depthAll_rep ds n
    rw [List.replicate_succ, List.flatten_cons, depthAll_app]
    omega
theorem depthAll_le {ds : List PyData} {m : Nat} : (∀ d ∈ ds, d.depth ≤ m) → PyData.depthAll ds ≤ m := by
  induction ds with
  | nil => intro _; exact Nat.zero_le _
  | cons a r ih =>
    intro h
    rw [PyData.depthAll]
    have h1 := h a List.mem_cons_self
    have h2 := ih fun d hd => h d (List.mem_cons_of_mem _ hd)
    omega
theorem gdAll_of {ds : List PyData} : (∀ d ∈ ds, gd d = true) → gdAll ds = true := by
  induction ds with
  | nil => intro _; rfl
  | cons a r ih =>
    intro h
    rw [gdAll, h a List.mem_cons_self, ih fun d hd => h d (List.mem_cons_of_mem _ hd)]
    rfl
theorem len_wt : ∀ ds : List PyData, 2 * ds.length ≤ wtAll ds
  | [] => Nat.zero_le _
  | a :: r => by
    have := len_wt r
    rw [wtAll, List.length_cons]
    omega

/-! ### trees -/
def tags6 : List Str := ["a", "b", "ab", "zz", "abcdefgh", "z"]
def tagOk (s : Str) : Prop := 1 ≤ s.length ∧ s.length ≤ 8 ∧ (PyData.strOk s = true ∧ s ∈ tags6)
def TrD : Nat → PyData → Prop
  | 0, _ => False
  | h + 1, d => ∃ (s : Str) (ks : List PyData), d = .tuple [.str s, .tuple ks] ∧ tagOk s ∧ ∀ k ∈ ks, TrD h k
theorem TrD.mono : ∀ {h h' : Nat} {d : PyData}, h ≤ h' → TrD h d → TrD h' d
  | 0, _, _, _, t => t.elim
  | h + 1, 0, _, e, _ => by omega
  | h + 1, h' + 1, d, e, t => by
    obtain ⟨s, ks, rfl, a, b⟩ := t
    exact ⟨s, ks, rfl, a, fun k hk => TrD.mono (by omega) (b k hk)⟩
theorem gd_tag {s : Str} (h : tagOk s) : gd (.str s) = true := by
  rw [gd, h.2.2.1, decide_eq_true (by have := h.2.1; omega)]
  rfl
theorem TrD.gd : ∀ {h : Nat} {d : PyData}, TrD h d → gd d = true ∧ d.depth ≤ 2 * h
  | 0, _, t => t.elim
  | h + 1, d, t => by
    obtain ⟨s, ks, rfl, a, b⟩ := t
    have g1 : gdAll ks = true := gdAll_of fun k hk => (TrD.gd (b k hk)).1
    have g2 : PyData.depthAll ks ≤ 2 * h := depthAll_le fun k hk => (TrD.gd (b k hk)).2
    refine ⟨?_, ?_⟩
    · rw [Tl.gd, gdAll, gdAll, gdAll, gd_tag a, Tl.gd, g1]
      rfl
    · simp only [PyData.depth, PyData.depthAll]
      omega
theorem wt_node (s : Str) (ks : List PyData) : wt (.tuple [.str s, .tuple ks]) = 10 * s.length + 14 + wtAll ks := by
  simp only [wt, wtAll]
  omega

/-! ### the heap: data in F within H, the source of numbers at st -/
structure Gw (F H F' H' : Hp) : Prop where
  ff : Same F F'
  fh : Same F' H'
  hh : Same H H'
  nw : ∀ b, H b ≠ none → F b = none → F' b = none
theorem Gw.refl {F H : Hp} (e : Same F H) : Gw F H F H := ⟨Same.refl _, e, Same.refl _, fun _ _ h => h⟩
theorem Gw.trans {F H F1 H1 F2 H2 : Hp} (a : Gw F H F1 H1) (b : Gw F1 H1 F2 H2) : Gw F H F2 H2 :=
  ⟨a.ff.trans b.ff, b.fh, a.hh.trans b.hh, fun x h1 h2 => b.nw x (fun z => h1 (a.hh.free z)) (a.nw x h1 h2)⟩
theorem Gw.new {F H : Hp} {p : Addr} {o : HO} (e : Same F H) (h : H p = none) : Gw F H (upd F p o) (upd H p o) := by
  refine ⟨same_new (e.free h), fun b u q => ?_, same_new h, fun b h1 h2 => ?_⟩
  · by_cases z : b = p
    · subst z
      rw [upd_same] at q ⊢
      exact q
    · rw [upd_ne z] at q ⊢
      exact e b u q
  · rw [upd_ne (fun z => h1 (by rw [z]; exact h))]
    exact h2
theorem Gw.temp {F H : Hp} {p : Addr} {o : HO} (e : Same F H) (h : H p = none) : Gw F H F (upd H p o) :=
  ⟨Same.refl _, same_mut e (e.free h), same_new h, fun _ _ h2 => h2⟩
theorem Gw.more {F H F1 H1 H2 : Hp} (a : Gw F H F1 H1) (b : Same H1 H2) : Gw F H F1 H2 := ⟨a.ff, a.fh.trans b, a.hh.trans b, a.nw⟩
end Tl

set_option Elab.async false
set_option linter.all false
set_option maxRecDepth 100000
set_option maxHeartbeats 4000000
namespace Tl
open PySem PySem.Spec PyProof.Rows L2
/-! An exception that a suite has put into another name, and that is looked at behind the try. -/
/-- the caught thing at a, of the class cls, its dict d -/
def CgO (cls : Value) (d : Option Addr) (a : Addr) : HO := .ext fun h => ∃ (oe : Obj) (vs : Array Value), h.get? a = some oe ∧ Zc cls d oe ∧ oe.data = .fields vs
theorem cg_ok {P : Program} {w : World} {H : Hp} {h : Heap} {a : Addr} {cls : Value} {d : Option Addr} {oe : Obj} {vs : Array Value} (e : h.get? a = some oe) (z : Zc cls d oe) (q : oe.data = .fields vs) : ObjOk P w H h a (CgO cls d a) :=
  ⟨⟨oe, vs, e, z, q⟩, ⟨oe, e⟩, fun _ _ ⟨o, v, p, r⟩ k => ⟨o, v, k o p, r⟩⟩
/-- what was there, and not ours to track, is tracked from now on -/
theorem take_up {X : Cx} {pins : List (Addr × Obj)} {σ : L2.St} {H : Hp} {s : Shared} {a : Addr} {o : HO} {oe : Obj} {vs : Array Value} (J : Inv X pins σ H s) (hn : H a = none) (h0 : X.s_0.heap.get? a = none) (nL : a ≠ X.env.locals)
    (np : ∀ p ∈ X.pn ++ pins, p.1 ≠ a) (ho : s.heap.get? a = some oe) (hd : oe.data = .fields vs) (new : ObjOk X.prog X.w (upd H a o) s.heap a o) : Inv X pins σ (upd H a o) s where
  ok := J.ok
  os := J.os
  bare := J.bare
  base := ⟨J.base.keep, J.base.slot, fun b u q n x => by rw [upd_ne (fun z => by rw [z, h0] at q; cases q)]; exact J.base.free b u q n x, J.base.there,
    fun b xs q => by rw [upd_ne (ne_of_none (J.base.tups b xs q) hn)]; exact J.base.tups b xs q,
    fun b u xs q => by rw [upd_ne (ne_of_none (J.base.frzs b u xs q) hn)]; exact J.base.frzs b u xs q,
    fun b ps q => by
      obtain ⟨m, e⟩ := J.base.tbls b ps q
      exact ⟨m, by rw [upd_ne (ne_of_none e hn)]; exact e⟩⟩
  loc := J.loc
  cell := J.cell
  free := by rw [upd_ne (Ne.symm nL)]; exact J.free
  freeC := fun x c q => by
    obtain ⟨v, hv⟩ := J.cell x c q
    rw [upd_ne]
    · exact J.freeC x c q
    · rintro rfl
      obtain ⟨oc, e1, e2⟩ := hv
      rw [ho] at e1
      cases e1
      simp_all
  pin := fun p hp => by
    obtain ⟨q1, q2, q3⟩ := J.pin p hp
    exact ⟨q1, by rw [upd_ne (np p hp)]; exact q2, q3⟩
  hok := J.hok.laidN (fun _ _ q => q) hn new
  len := J.len
/-- what 'except x as n' wishes of the body, the caught thing looked at behind -/
def wKeep (K : PySem.W.Frag) (c : Value) (i : Nat) (ts : Addr → Value → Option Addr → TS) (Wout : WX) (D : Ends) : WX := fun cls d σ H =>
  ∃ yes, PySem.W.exmOne K cls c = some yes ∧
    (yes = true → ∀ a, H a = none →
      ts a cls d ⟨fun σ' H' => D.nx (σ'.set i none) (upd H' a (CgO cls d a)), D.rt, fun σ' H' => D.bk (σ'.set i none) H', fun σ' H' => D.ct (σ'.set i none) H'⟩ (σ.set i (some (.ref a))) H) ∧
    (yes = false → Wout cls d σ H)
section
variable {X : Cx} {x n : Str} {c : Value} {i : Nat} {bd su : List Stmt} {s0 : Stmt} {np ps pt : Pos} {tb : WX → TS} {ts : Addr → Value → Option Addr → TS} {Wout : WX}
/-- the end of the try where its body has raised -/
theorem keep_catch (hs : X.stack = X.env :: X.outer) (hf : X.env.frame = some X.env.locals) (hex : X.ex = []) (hN : X.N.Nodup) (hi : X.N[i]? = some n) (hln : X.env.kindOf n = some .local) (hc : Names X x c) (tk : Takes X Wout)
    (hsu : ∀ (a : Addr) (oe : Obj) (cls : Value) (d : Option Addr) (pn : List (Addr × Obj)), Zc cls d oe → (∃ vs, oe.data = .fields vs) → PSs (X.suite a ((a, oe) :: pn)) (s0 :: su) (ts a cls d))
    {pins pn' : List (Addr × Obj)} {xe' : Value → Shared → Prop} {D : Ends} {u : Value} {t : Shared} (ok : X.Ok) (xx : XE (X.tr (X.pn ++ pins) xe') (wKeep X.K c i ts Wout D) u t) :
    wpAny (model X.prog X.w) X.A (noteFrame u X.env) (fun _ t2 => wpAny (model X.prog X.w) X.A (setFlight u none) (fun _ t3 =>
      wpAny (model X.prog X.w) X.A (handleBy u X.env [.ExceptHandler (some (.Name x np)) (some n) (s0 :: su) ps]) (SP X pins D) X.xe t3) X.xe t2) X.xe t := by
  obtain ⟨a, B, t0, _, τ, G, cls, d, rfl, J0, nb, up, sky, na, os, ag, yes, hy, hyes, hno⟩ := xx
  have J : Inv X pins τ G t0 := by
    have := J0.ofTry ok
    exact this
  have frames : X.A.frames = some (X.env :: X.outer) := by rw [ok.frames, hs]
  have sky1 : Sky B (X.env :: X.outer) a (Zc cls d) X.env.locals t.heap := hs ▸ sky
  have nB : B.get? a = none := by
    rcases sky1 with q | q | q
    · exact q.2.1
    · exact q.2.1
    · exact q.2.1
  refine Sky.land Zc.steady frames hf sky1 fun hA flA upA => ?_
  have JA : Inv X pins τ G { t with heap := hA } := J.landed nb flA.1 (up.trans upA) os ag
  obtain ⟨oA, vA, gA, zA, dA⟩ := flA.there
  -- no frame, so no object of the state ahead
  have far : a ∉ frs (X.env :: X.outer) := fun m => by
    obtain ⟨_, o2, g2, no⟩ := flA.2.2.1.mem m
    have e2 : oA = o2 := Option.some.inj (gA.symm.trans g2)
    exact no _ (e2 ▸ dA)
  have nL : a ≠ X.env.locals := fun z => far (List.mem_filterMap.mpr ⟨_, List.mem_cons_self, by rw [hf, z]⟩)
  have nF : a ∉ X.fs := fun m => by
    obtain ⟨e, me, qe⟩ := List.mem_filterMap.mp m
    exact far (List.mem_filterMap.mpr ⟨e, .tail _ me, qe⟩)
  have n0 : t0.heap.get? a = none := by
    cases e : t0.heap.get? a with
    | none => rfl
    | some o =>
      have := nb a o e (by show a ∉ frs X.stack; rw [hs]; exact far)
      rw [nB] at this
      cases this
  have ns : X.s_0.heap.get? a = none := by
    cases e : X.s_0.heap.get? a with
    | none => rfl
    | some o =>
      obtain ⟨o', e'⟩ := J.base.there a o e (by rw [hex]; exact List.not_mem_nil)
      rw [n0] at e'
      cases e'
  have npin : ∀ p ∈ X.pn ++ pins, p.1 ≠ a := fun p hp z => by
    have := (J.pin p hp).1
    rw [z, n0] at this
    cases this
  have SA := JA.suite gA dA na nL nF
  refine wpAny_handleBy_cons (codeAny_handlers_test ?_) (fun q => nomatch q)
  have fits := PySem.W.exm_one (M := model X.prog X.w) JA.kIn (fun A Q E r k q => wpAny_typeOf_ref (k _ _ gA) (by rw [zA.1]; exact q)) hy
  have name : ∀ {Q : Value → Shared → Prop} {E : Value → Shared → Prop}, Q c { t with heap := hA } → wpAny (model X.prog X.w) (X.A.mark (some (.ref a))) (eval (.Name x np) X.env) Q E { t with heap := hA } := by
    intro Q E q
    rcases hc with ⟨g, db, m | ⟨m, v, nn⟩⟩
    · exact ld_glob (X := X.suite a ((a, oA) :: (X.pn ++ pins))) SA g m q db
    · exact ld_blt (X := X.suite a ((a, oA) :: (X.pn ++ pins))) SA g m v q nn db
  refine name (fits.here ?_)
  cases yes with
  | false =>
    show wpAny _ X.A (handleBy (.ref a) X.env []) _ _ _
    refine wpAny_handleBy_nil ?_
    obtain ⟨_, _, _, o5, v5, tr, _, _, g5, _, d5, h5, _⟩ := id flA
    unfold PySem.passOn
    refine wpAny_bind (wpAny_field g5 d5 h5 ?_)
    rw [if_neg (by simp)]
    have last : wpAny (model X.prog X.w) X.A (setFlight (.ref a) X.env.frame) (fun _ t4 => wpAny (model X.prog X.w) X.A (throw (.ref a) : Sem Flow) (SP X pins D) X.xe t4) X.xe { t with heap := hA } := by
      rw [hf]
      refine HandSPX.setFlight_upZ flA fun h6 hl6 up6 => wpAny_throw (tk _ _ ⟨a, B, t0, pins, τ, G, cls, d, rfl, J, nb, (up.trans upA).trans up6, ?_, na, os, ag, hno rfl⟩)
      rw [hs]
      exact .inr (.inr hl6)
    first
      | exact wpAny_bind (wpAny_pure (wpAny_bind last))
      | exact wpAny_bind last
  | true =>
    refine codeAny_handlers_suite_as (HandSPX.lands_againZ flA fun hC flC upC => ?_)
    have JC : Inv X pins τ G { t with heap := hC } := J.landed nb flC.1 ((up.trans upA).trans upC) os ag
    obtain ⟨oC, vC, gC, zC, dC⟩ := flC.there
    refine store_ok (X := X.suite a ((a, oC) :: (X.pn ++ pins))) (v := .ref a) (JC.suite gC dC na nL nF) hN hi (.inl hln) rfl (fun t5 S5 => ?_) (.inr hln)
    refine wpAny_mono ((hsu a oC cls d (X.pn ++ pins) zC ⟨_, dC⟩).run [] t5 _ G _ S5 (hyes rfl a na)) (fun f t6 got => ?_) (fun _ _ z => z.elim)
    have plain : ∀ {τ6 : L2.St} {G6 : Hp} {Q : Shared → Prop}, Inv (X.suite a ((a, oC) :: (X.pn ++ pins))) [] τ6 G6 t6 → (∀ t7, Inv X pins (τ6.set i none) G6 t7 → Q t7) →
        wpAny (model X.prog X.w) X.A (do bindName X.env n .none; unbindBehindTheSuite X.env n ps) (fun _ t7 => Q t7) X.xe t6 := fun S q => gone_ok (S.unsuite ok) hN hi hln q
    cases f with
    | next =>
      obtain ⟨τ6, G6, S6, q6⟩ := got
      obtain ⟨p1, p2, _⟩ := S6.pin (a, oC) (List.mem_append_left _ List.mem_cons_self)
      have T6 := take_up (o := CgO cls d a) (S6.unsuite ok) p2 ns nL npin p1 dC (cg_ok p1 zC dC)
      exact gone_ok T6 hN hi hln fun t7 J7 => ⟨_, _, J7, q6⟩
    | brk =>
      obtain ⟨_, _, S6, q6⟩ := got
      exact plain S6 fun _ J7 => ⟨_, _, J7, q6⟩
    | cont =>
      obtain ⟨_, _, S6, q6⟩ := got
      exact plain S6 fun _ J7 => ⟨_, _, J7, q6⟩
    | ret v =>
      obtain ⟨_, _, _, S6, r6, q6⟩ := got
      exact plain S6 fun _ J7 => ⟨_, _, _, J7, r6, q6⟩
/-- try: body / except x as n: suite, the caught thing looked at behind -/
theorem ps_try_keep (hs : X.stack = X.env :: X.outer) (hf : X.env.frame = some X.env.locals) (hex : X.ex = []) (hN : X.N.Nodup) (hi : X.N[i]? = some n) (hln : X.env.kindOf n = some .local) (hc : Names X x c) (tk : Takes X Wout)
    (hb : ∀ (W : WX) (pn : List (Addr × Obj)) (xe : Value → Shared → Prop), Takes (X.tr pn xe) W → PassesOwn (model X.prog X.w) X.A X.env xe → PSs (X.tr pn xe) bd (tb W))
    (hsu : ∀ (a : Addr) (oe : Obj) (cls : Value) (d : Option Addr) (pn : List (Addr × Obj)), Zc cls d oe → (∃ vs, oe.data = .fields vs) → PSs (X.suite a ((a, oe) :: pn)) (s0 :: su) (ts a cls d)) :
    PS X (.Try bd [.ExceptHandler (some (.Name x np)) (some n) (s0 :: su) ps] [] [] pt) (fun D σ H => tb (wKeep X.K c i ts Wout D) D σ H) := by
  refine ⟨fun pins s σ H D I h => wpAny_Try_except ?_⟩
  have ok := I.ok
  refine wpAny_mono ((hb _ (X.pn ++ pins) _ (fun u t xx => keep_catch (pn' := []) hs hf hex hN hi hln hc tk hsu ok xx) PassesOwn.looking).run [] s σ H D (I.toTry _) h) (fun f t got => ?_) (fun _ _ z => z)
  cases f with
  | next =>
    obtain ⟨_, _, S, q⟩ := got
    exact wpAny_execs_nil ⟨_, _, S.ofTry ok, q⟩
  | brk =>
    obtain ⟨_, _, S, q⟩ := got
    exact ⟨_, _, S.ofTry ok, q⟩
  | cont =>
    obtain ⟨_, _, S, q⟩ := got
    exact ⟨_, _, S.ofTry ok, q⟩
  | ret v =>
    obtain ⟨_, _, _, S, r, q⟩ := got
    exact ⟨_, _, _, S.ofTry ok, r, q⟩
end
/-- a dict that is tracked, where there is one -/
def DxO (H : Hp) : Option Addr → Prop
  | none => True
  | some dd => ∃ fs, H dd = some (.xd fs)
theorem cg_inst {X : Cx} {pins : List (Addr × Obj)} {σ : L2.St} {H : Hp} {s : Shared} {a D : Addr} {d : Option Addr} (I : Inv X pins σ H s) (ha : H a = some (CgO (.ref D) d a)) (hd : DxO H d) : ∃ ox od, PySem.W.InstAt s.heap a ox D od := by
  obtain ⟨⟨oe, vs, g, z, q⟩, _⟩ := I.hok a _ ha
  have no : PySem.W.notCls oe = true := by unfold PySem.W.notCls; rw [q] <;> rfl
  cases d with
  | none => exact ⟨oe, none, g, z.1, no, by rw [z.2]; trivial⟩
  | some dd =>
    obtain ⟨fs, hf⟩ := hd
    obtain ⟨mA, hns, _⟩ : ∃ mA, s.heap.Ns1 dd mA ∧ ∀ f, RelO (fs.lookup f) (mA f) := I.hok dd _ hf
    obtain ⟨od, ho, _⟩ := lookIn_ns hns
    exact ⟨oe, some od, g, z.1, no, by rw [z.2]; exact ho⟩
/-- isinstance(caught, c) -/
def rIsK (K : PySem.W.Frag) : List V → Hp → VK → Prop := fun xs H Q => ∃ (a D : Addr) (d : Option Addr) (c : V) (cv : Value) (b : Bool),
  xs = [.ref a, c] ∧ H a = some (CgO (.ref D) d a) ∧ DxO H d ∧ ExcC K D ∧ (∀ u, RelV c u → u = cv) ∧ PySem.W.kitOne K (.ref D) cv = some b ∧ Q (.bl b) H
theorem call_isK {X : Cx} : CallR X (.builtin "isinstance") (rIsK X.K) := by
  intro pins s σ H xs us Q I r h
  obtain ⟨a, D, d, c, cv, b, rfl, ha, hd, C, hc, hk, q⟩ := h
  rcases r with _ | ⟨rx, r⟩
  rcases r with _ | ⟨rt, r⟩
  cases r
  cases rx
  obtain rfl := hc _ rt
  obtain ⟨ox, od, J⟩ := cg_inst I ha hd
  obtain ⟨cd, hcd, _⟩ := PySem.W.any_some C.hd
  exact PySem.W.kia_one (PySem.W.kitx_exc (by rw [hcd]; rfl) C.hg C.hk C.hs C.ha C.hn C.ht C.hm) I.kIn J hk (fun z => nomatch z) fun tk => ⟨.bl b, H, I.kept (t' := tk) fun _ _ z => z, rfl, q⟩
section
variable {X : Cx}
/-- caught.n -/
theorem pe_kf {C0 : Addr} {e : Expr} {te : TE} {pos : Pos} {n : Str} (T1 : XfC X.K C0) (hno : PySem.W.findIn X.K (.ref C0) n = some none) (he : PE X e te) (hb : attributeBase e n X.env (eval e X.env) = eval e X.env := by rfl) :
    PE X (.Attribute e n pos) (fun σ H Q => te σ H fun x H1 => ∃ (a dd : Addr) (fs : List (Str × V)) (v : V), x = .ref a ∧ H1 a = some (CgO (.ref C0) (some dd) a) ∧ H1 dd = some (.xd fs) ∧ fs.lookup n = some v ∧ Q v H1) := by
  refine ⟨fun pins s σ H Q I h => attr_of hb (thn (he.run pins s σ H _ I h) fun u s1 hh => ?_)⟩
  obtain ⟨x, H1, I1, rx, a, dd, fs, v, rfl, ha, hd, l, q⟩ := hh
  cases rx
  obtain ⟨⟨oe, vs, g, z, dv⟩, _⟩ := I1.hok a _ ha
  obtain ⟨mA, hns, hr⟩ : ∃ mA, s1.heap.Ns1 dd mA ∧ ∀ f, RelO (fs.lookup f) (mA f) := I1.hok dd _ hd
  obtain ⟨od, ho, hl⟩ := lookIn_ns hns
  obtain ⟨u2, hu, ru⟩ := RelO.some_of (v := v) (o := mA n) (by rw [← l]; exact hr n)
  have J : PySem.W.InstAt s1.heap a oe C0 (some od) := ⟨g, z.1, by unfold PySem.W.notCls; rw [dv] <;> rfl, by rw [z.2]; exact ho⟩
  exact HandSPX.exc_get I1.kIn J T1.ga T1.gg T1.exC (PySem.W.findObj_own T1.hdC hno rfl (by rw [hl, hu])) (handed_of ru) ⟨v, H1, I1.tok _, ru, q⟩
/-- X(), an own error without a word -/
theorem pmk_own0 {C : Addr} {bmB : List Value} {B newId initId : String} {x : Str} {p pos : Pos} (F : ExcBaseFacts B newId initId bmB) (q : PySem.W.excIn X.K C bmB newId = true) (gC : X.mg x = some (.ref C)) (kC : PySem.W.keepIn X.K (.ref C) = true) (r : Raises X (.ref C)) (hg : Gl X x)
    (hdb : (x == ("__debug__" : Str)) = false := by decide) : PMk X (.Call (.Name x p) [] [] pos) (fun _ H Q => Q (.ref C) none H) := by
  intro pins s σ H Q I h
  refine wpAny_Call_Name_kw (ld_glob I hg gC ?_ hdb)
  refine PySem.W.callWith_K0 I.kIn kC ?_
  obtain ⟨bm, N, nm, qn, bs, hdct, sn, sub, ab, col, dd, k0, k1, k2, k3, k5, mN, hC, hN, hni, T⟩ := exc_obj I.kIn q
  exact wpAny_call_exc_subT F T hC hN hni (fun h' e hm => mk_of I hm r h (I.hok.gone hm.new)) (Nat.zero_le _)
end
end Tl

set_option Elab.async false
set_option linter.all false
set_option maxRecDepth 100000
set_option maxHeartbeats 4000000
namespace Tl
open PySem PySem.Spec PyProof.Rows L2
theorem ints_get {xs : List Int} {its : List Value} (r : Vals (xs.map V.int) its) (i : Nat) (v : Value) (h : its.toArray[i]? = some v) : ∃ t, v = .int (xs.getD i 0) t := by
  have h' : its[i]? = some v := by simpa using h
  have hi : i < its.length := (List.getElem?_eq_some_iff.mp h').1
  have hl := r.length
  rw [List.length_map] at hl
  obtain ⟨u, hu, ru⟩ := r.get (i := i) (x := V.int (xs.getD i 0)) (by
    rw [List.getElem?_map, List.getElem?_eq_getElem (by omega), List.getD_eq_getElem?_getD, List.getElem?_eq_getElem (by omega)]
    rfl)
  rw [h'] at hu
  cases hu
  exact ru
/-- max(xs, default=d), numbers -/
def rMaxDf (K : PySem.W.Frag) : List V → List V → Hp → VK → Prop := fun vs zs H Q => ∃ (a : Addr) (ns : List Int) (d : Int), vs = [.ref a] ∧ zs = [.int d] ∧ SqL K H a (ns.map V.int) ∧
  (ns = [] → Q (.int d) H) ∧ ∀ m, m ∈ ns → (∀ y, y ∈ ns → y ≤ m) → Q (.int m) H
theorem ck_max {X : Cx} (hc : X.calm = true) : CallRK X (.builtin "max") [Str.ofString "default"] (rMaxDf X.K) := by
  intro pins s σ H vs zs us ws Q I r rz h
  obtain ⟨a, ns, d, rfl, rfl, hs, q0, q1⟩ := h
  obtain ⟨its, rv, hl, _⟩ := I.list hs
  rw [Vals.ref1 r]
  rcases rz with _ | ⟨rd, rz⟩
  cases rz
  rename_i dv
  have hlen : ns.length = its.length := by
    have := rv.length
    rwa [List.length_map] at this
  show wpAny _ _ (call (.builtin "max") [.ref a] [(Str.ofString "default", dv)]) _ _ _
  refine call_max_walkD (PySem.W.iter_listW (A := X.A.in1) (I.ok.hd hc) hl.isList fun s₂ e W st hfp hw hk => ?_)
  refine ⟨_, _, _, _, _, _, _, s.heap, (fun i j => decide (ns.getD i 0 > ns.getD j 0)), rfl, W, st, hfp, hw, hk, fun hz s' m => ?_, fun hp => ⟨fun i j vi vj t Q' E' _ hi hj q => ?_, fun v s' hP m => ?_⟩⟩
  · obtain ⟨h', tk, rfl, hk'⟩ := PySem.W.moved_old e rfl m
    have : ns = [] := List.eq_nil_of_length_eq_zero (by rw [hlen]; simpa using hz)
    exact ⟨.int d, H, I.kept hk', rd, q0 this⟩
  · exact CmpOf.ints_gt (fun i => ns.getD i 0) (fun k v h => ints_get rv k v h) i j vi vj t Q' E' hi hj q
  · obtain ⟨h', tk, rfl, hk'⟩ := PySem.W.moved_old e rfl m
    obtain ⟨t, rfl⟩ := ints_get rv _ _ hP
    obtain ⟨b1, b2⟩ := argBest_gt (fun i => ns.getD i 0) (its.toArray.size - 1)
    have hp' : 0 < its.length := by simpa using hp
    refine ⟨.int _, H, I.kept hk', ⟨t, rfl⟩, q1 _ ?_ fun y hy => ?_⟩
    · exact PySem.getD_mem (by have sz : its.toArray.size = its.length := by simp
                               omega)
    · obtain ⟨j, hj, rfl⟩ := mem_getD hy
      exact b2 j (by simp; omega)
end Tl

set_option Elab.async false
set_option linter.all false
set_option maxRecDepth 100000
set_option maxHeartbeats 4000000
/-! A second layer over the hand layer: values are data or named objects; a memory M tells the objects that may change, all else is data for good. -/
namespace Tl
open PySem L2
mutual
/-- data at v, as F knows it; the empty dict may stand anywhere -/
inductive Dx (K : PySem.W.Frag) (F : Hp) : V → PyData → Prop
  | non : Dx K F .non .none
  | bl (b : Bool) : Dx K F (.bl b) (.bool b)
  | int (i : Int) : Dx K F (.int i) (.int i)
  | str (x : Str) : Dx K F (.str x) (.str x)
  | lst {a : Addr} {xs : List V} {ds : List PyData} : F a = some (.lst xs) → DxL K F xs ds → Dx K F (.ref a) (.list ds)
  | tup {a : Addr} {xs : List V} {ds : List PyData} : SqT K F a xs → DxL K F xs ds → Dx K F (.ref a) (.tuple ds)
  | dic {a : Addr} : F a = some (.dK []) → Dx K F (.ref a) (.dict [])
inductive DxL (K : PySem.W.Frag) (F : Hp) : List V → List PyData → Prop
  | nil : DxL K F [] []
  | cons {v : V} {vs : List V} {d : PyData} {ds : List PyData} : Dx K F v d → DxL K F vs ds → DxL K F (v :: vs) (d :: ds)
end
/-- a value -/
inductive W where
  | d (x : PyData)
  | r (a : Addr)
  | o (v : V)
  /-- a caught error: where it stands, its class, its dict, its fields -/
  | x (a C : Addr) (dd : Option Addr) (fs : List (Str × PyData))
/-- an object that may change -/
inductive MO where
  | lst (ws : List W)
  | src (b : Bool)
  | dK (kvs : List (Key × W))
  | dT (kvs : List (List Key × W))
  | ins (C dx : Addr) (fs : List (Str × W))
  | exc (C : Addr) (dd : Option Addr)
abbrev Mem := Addr → Option MO
abbrev EnvD := List (Option W)
def mset (M : Mem) (a : Addr) (o : MO) : Mem := fun b => if b = a then some o else M b
def mdel (M : Mem) (a : Addr) : Mem := fun b => if b = a then none else M b
theorem mset_same {M : Mem} {a : Addr} {o : MO} : mset M a o a = some o := if_pos rfl
theorem mset_ne {M : Mem} {a b : Addr} {o : MO} (h : b ≠ a) : mset M a o b = M b := if_neg h
theorem mdel_same {M : Mem} {a : Addr} : mdel M a a = none := if_pos rfl
theorem mdel_ne {M : Mem} {a b : Addr} (h : b ≠ a) : mdel M a b = M b := if_neg h
theorem mset_mset {M : Mem} {a : Addr} {o u : MO} : mset (mset M a o) a u = mset M a u := by
  funext b
  by_cases h : b = a
  · rw [h, mset_same, mset_same]
  · rw [mset_ne h, mset_ne h, mset_ne h]
theorem mdel_mset {M : Mem} {a : Addr} {o : MO} : mdel (mset M a o) a = mdel M a := by
  funext b
  by_cases h : b = a
  · rw [h, mdel_same, mdel_same]
  · rw [mdel_ne h, mdel_ne h, mset_ne h]
theorem mdel_none {M : Mem} {a : Addr} (h : M a = none) : mdel M a = M := by
  funext b; unfold mdel; split
  · rename_i e; rw [e, h]
  · rfl
theorem mset_id {M : Mem} {a : Addr} {o : MO} (h : M a = some o) : mset M a o = M := by
  funext b; unfold mset; split
  · rename_i e; rw [e, h]
  · rfl
mutual
theorem Dx.mono {K : PySem.W.Frag} {H H' : Hp} (e : Same H H') : ∀ (d : PyData) (v : V), Dx K H v d → Dx K H' v d
  | .none, _, h => by cases h; exact .non
  | .bool b, _, h => by cases h; exact .bl b
  | .int i, _, h => by cases h; exact .int i
  | .str x, _, h => by cases h; exact .str x
  | .list ds, _, h => by
    cases h with
    | lst hs ha => exact .lst (e _ _ hs) (DxL.mono e ds _ ha)
  | .tuple ds, _, h => by
    cases h with
    | tup hs ha => exact .tup (same_t e hs) (DxL.mono e ds _ ha)
  | .dict _, _, h => by cases h with | dic h => exact .dic (e _ _ h)
theorem DxL.mono {K : PySem.W.Frag} {H H' : Hp} (e : Same H H') : ∀ (ds : List PyData) (vs : List V), DxL K H vs ds → DxL K H' vs ds
  | [], _, h => by cases h; exact .nil
  | d :: ds, _, h => by
    cases h with
    | cons h1 h2 => exact .cons (Dx.mono e d _ h1) (DxL.mono e ds _ h2)
end
mutual
/-- no list within -/
def noL : PyData → Bool
  | .list _ => false
  | .tuple ds => noLs ds
  | _ => true
def noLs : List PyData → Bool
  | [] => true
  | d :: ds => noL d && noLs ds
end
mutual
theorem Dx.of {K : PySem.W.Frag} {H : Hp} : ∀ (d : PyData) (v : V), Dp K H v d → noL d = true → Dx K H v d
  | .none, _, h, _ => by cases h; exact .non
  | .bool b, _, h, _ => by cases h; exact .bl b
  | .int i, _, h, _ => by cases h; exact .int i
  | .str x, _, h, _ => by cases h; exact .str x
  | .list ds, _, h, n => by rw [noL] at n; cases n
  | .tuple ds, _, h, n => by
    cases h with
    | tup hs ha => exact .tup hs (DxL.of ds _ ha (by rw [noL] at n; exact n))
  | .dict _, _, h, _ => by cases h
theorem DxL.of {K : PySem.W.Frag} {H : Hp} : ∀ (ds : List PyData) (vs : List V), DpAll K H vs ds → noLs ds = true → DxL K H vs ds
  | [], _, h, _ => by cases h; exact .nil
  | d :: ds, _, h, n => by
    rw [noLs, Bool.and_eq_true] at n
    cases h with
    | cons h1 h2 => exact .cons (Dx.of d _ h1 n.1) (DxL.of ds _ h2 n.2)
end
mutual
theorem Dx.dp {K : PySem.W.Frag} {H : Hp} : ∀ (d : PyData) (v : V), Dx K H v d → d.hasDict = false → Dp K H v d
  | .none, _, h, _ => by cases h; exact .non
  | .bool b, _, h, _ => by cases h; exact .bl b
  | .int i, _, h, _ => by cases h; exact .int i
  | .str x, _, h, _ => by cases h; exact .str x
  | .list ds, _, h, n => by
    cases h with
    | lst hs ha => exact .lst (SqL.of hs) (DxL.dp ds _ ha (by rw [PyData.hasDict] at n; exact n))
  | .tuple ds, _, h, n => by
    cases h with
    | tup hs ha => exact .tup hs (DxL.dp ds _ ha (by rw [PyData.hasDict] at n; exact n))
  | .dict _, _, h, n => by rw [PyData.hasDict] at n; cases n
theorem DxL.dp {K : PySem.W.Frag} {H : Hp} : ∀ (ds : List PyData) (vs : List V), DxL K H vs ds → PyData.hasDictAll ds = false → DpAll K H vs ds
  | [], _, h, _ => by cases h; exact .nil
  | d :: ds, _, h, n => by
    rw [PyData.hasDictAll, Bool.or_eq_false_iff] at n
    cases h with
    | cons h1 h2 => exact .cons (Dx.dp d _ h1 n.1) (DxL.dp ds _ h2 n.2)
end
theorem DxL.len {K : PySem.W.Frag} {H : Hp} : ∀ {vs : List V} {ds : List PyData}, DxL K H vs ds → vs.length = ds.length
  | _, _, .nil => rfl
  | _, _, .cons _ h => by rw [List.length_cons, List.length_cons, DxL.len h]
theorem DxL.got {K : PySem.W.Frag} {H : Hp} : ∀ {vs : List V} {ds : List PyData} {i : Nat} {d : PyData}, DxL K H vs ds → ds[i]? = some d → ∃ v, vs[i]? = some v ∧ Dx K H v d
  | _, _, _, _, .nil, e => by simp at e
  | _, _, 0, _, .cons h _, e => by simp at e; subst e; exact ⟨_, rfl, h⟩
  | _, _, i + 1, d, .cons _ h, e => by
    obtain ⟨v, h1, h2⟩ := DxL.got (i := i) (d := d) h (by simpa using e)
    exact ⟨v, by simpa using h1, h2⟩
theorem DxL.get {K : PySem.W.Frag} {H : Hp} : ∀ {vs : List V} {ds : List PyData} {i : Nat} {v : V}, DxL K H vs ds → vs[i]? = some v → ∃ d, ds[i]? = some d ∧ Dx K H v d
  | _, _, _, _, .nil, e => by simp at e
  | _, _, 0, _, .cons h _, e => by simp at e; subst e; exact ⟨_, rfl, h⟩
  | _, _, i + 1, v, .cons _ h, e => by
    obtain ⟨d, h1, h2⟩ := DxL.get (i := i) (v := v) h (by simpa using e)
    exact ⟨d, by simpa using h1, h2⟩
theorem DxL.app {K : PySem.W.Frag} {H : Hp} : ∀ {vs ws : List V} {ds es : List PyData}, DxL K H vs ds → DxL K H ws es → DxL K H (vs ++ ws) (ds ++ es)
  | _, _, _, _, .nil, h => h
  | _, _, _, _, .cons a b, h => .cons a (DxL.app b h)
theorem DxL.take {K : PySem.W.Frag} {H : Hp} : ∀ {vs : List V} {ds : List PyData} (n : Nat), DxL K H vs ds → DxL K H (vs.take n) (ds.take n)
  | _, _, 0, _ => .nil
  | _, _, _ + 1, .nil => .nil
  | _, _, n + 1, .cons a b => .cons a (DxL.take n b)
theorem DxL.drop {K : PySem.W.Frag} {H : Hp} : ∀ {vs : List V} {ds : List PyData} (n : Nat), DxL K H vs ds → DxL K H (vs.drop n) (ds.drop n)
  | _, _, 0, h => h
  | _, _, _ + 1, .nil => .nil
  | _, _, n + 1, .cons a b => DxL.drop n b
theorem DxL.rev {K : PySem.W.Frag} {H : Hp} : ∀ {vs : List V} {ds : List PyData}, DxL K H vs ds → DxL K H vs.reverse ds.reverse
  | _, _, .nil => .nil
  | _, _, .cons a b => by rw [List.reverse_cons, List.reverse_cons]; exact DxL.app (DxL.rev b) (.cons a .nil)
theorem DxL.rep {K : PySem.W.Frag} {H : Hp} {vs : List V} {ds : List PyData} (h : DxL K H vs ds) : ∀ n : Nat, DxL K H (List.replicate n vs).flatten (List.replicate n ds).flatten
  | 0 => .nil
  | n + 1 => by
    rw [List.replicate_succ, List.replicate_succ, List.flatten_cons, List.flatten_cons]
    exact DxL.app h (DxL.rep h n)
/-- an error's fields stand in its dict -/
def FX (K : PySem.W.Frag) (F : Hp) (d : Option Addr) (fs : List (Str × PyData)) : Prop := match d with
  | none => fs = []
  | some dd => ∃ fv, F dd = some (.xd fv) ∧ fv.map (·.1) = fs.map (·.1) ∧ DxL K F (fv.map (·.2)) (fs.map (·.2))
theorem FX.mono {K : PySem.W.Frag} {F F' : Hp} (e : Same F F') {d : Option Addr} {fs : List (Str × PyData)} (h : FX K F d fs) : FX K F' d fs := by
  cases d with
  | none => exact h
  | some dd =>
    obtain ⟨fv, h1, h2, h3⟩ := h
    exact ⟨fv, e _ _ h1, h2, DxL.mono e _ _ h3⟩
/-- v is the value x -/
inductive RW (K : PySem.W.Frag) (F : Hp) : V → W → Prop
  | d {v : V} {x : PyData} : Dx K F v x → RW K F v (.d x)
  | r (a : Addr) : RW K F (.ref a) (.r a)
  | o (v : V) : RW K F v (.o v)
  | x {a C : Addr} {dd : Option Addr} {fs : List (Str × PyData)} : FX K F dd fs → RW K F (.ref a) (.x a C dd fs)
inductive RWs (K : PySem.W.Frag) (F : Hp) : List V → List W → Prop
  | nil : RWs K F [] []
  | cons {v : V} {vs : List V} {x : W} {xs : List W} : RW K F v x → RWs K F vs xs → RWs K F (v :: vs) (x :: xs)
section
variable {K : PySem.W.Frag} {F F' H H' : Hp}
theorem RW.mono (e : Same F F') {v : V} {x : W} (h : RW K F v x) : RW K F' v x := by
  cases h with
  | d h => exact .d (Dx.mono e _ _ h)
  | r a => exact .r a
  | o v => exact .o v
  | x h => exact .x (h.mono e)
theorem RWs.mono (e : Same F F') : ∀ {vs : List V} {xs : List W}, RWs K F vs xs → RWs K F' vs xs
  | _, _, .nil => .nil
  | _, _, .cons h t => .cons (h.mono e) (t.mono e)
theorem RWs.len : ∀ {vs : List V} {xs : List W}, RWs K F vs xs → vs.length = xs.length
  | _, _, .nil => rfl
  | _, _, .cons _ t => by rw [List.length_cons, List.length_cons, t.len]
theorem RWs.got : ∀ {vs : List V} {xs : List W} {i : Nat} {x : W}, RWs K F vs xs → xs[i]? = some x → ∃ v, vs[i]? = some v ∧ RW K F v x
  | _, _, _, _, .nil, e => by simp at e
  | _, _, 0, _, .cons h _, e => by simp at e; subst e; exact ⟨_, rfl, h⟩
  | _, _, i + 1, x, .cons _ h, e => by
    obtain ⟨v, h1, h2⟩ := RWs.got (i := i) (x := x) h (by simpa using e)
    exact ⟨v, by simpa using h1, h2⟩
theorem RWs.get : ∀ {vs : List V} {xs : List W} {i : Nat} {v : V}, RWs K F vs xs → vs[i]? = some v → ∃ x, xs[i]? = some x ∧ RW K F v x
  | _, _, _, _, .nil, e => by simp at e
  | _, _, 0, _, .cons h _, e => by simp at e; subst e; exact ⟨_, rfl, h⟩
  | _, _, i + 1, v, .cons _ h, e => by
    obtain ⟨x, h1, h2⟩ := RWs.get (i := i) (v := v) h (by simpa using e)
    exact ⟨x, by simpa using h1, h2⟩
theorem RWs.app : ∀ {vs ws : List V} {xs ys : List W}, RWs K F vs xs → RWs K F ws ys → RWs K F (vs ++ ws) (xs ++ ys)
  | _, _, _, _, .nil, h => h
  | _, _, _, _, .cons a b, h => .cons a (RWs.app b h)
theorem RWs.take : ∀ {vs : List V} {xs : List W} (n : Nat), RWs K F vs xs → RWs K F (vs.take n) (xs.take n)
  | _, _, 0, _ => .nil
  | _, _, _ + 1, .nil => .nil
  | _, _, n + 1, .cons a b => .cons a (RWs.take n b)
theorem RWs.drop : ∀ {vs : List V} {xs : List W} (n : Nat), RWs K F vs xs → RWs K F (vs.drop n) (xs.drop n)
  | _, _, 0, h => h
  | _, _, _ + 1, .nil => .nil
  | _, _, n + 1, .cons a b => RWs.drop n b
theorem RWs.rev : ∀ {vs : List V} {xs : List W}, RWs K F vs xs → RWs K F vs.reverse xs.reverse
  | _, _, .nil => .nil
  | _, _, .cons a b => by rw [List.reverse_cons, List.reverse_cons]; exact RWs.app (RWs.rev b) (.cons a .nil)
theorem RWs.set {v : V} {x : W} (h : RW K F v x) : ∀ {vs : List V} {xs : List W} (n : Nat), RWs K F vs xs → RWs K F (vs.set n v) (xs.set n x)
  | _, _, _, .nil => .nil
  | _, _, 0, .cons _ t => .cons h t
  | _, _, n + 1, .cons a t => .cons a (RWs.set h n t)
theorem RWs.dat : ∀ {vs : List V} {ds : List PyData}, DxL K F vs ds → RWs K F vs (ds.map W.d)
  | _, _, .nil => .nil
  | _, _, .cons a b => .cons (.d a) (RWs.dat b)
theorem RWs.undat : ∀ {ds : List PyData} {vs : List V}, RWs K F vs (ds.map W.d) → DxL K F vs ds
  | [], _, h => by cases h; exact .nil
  | d :: ds, _, h => by
    cases h with
    | cons a b =>
      cases a with
      | d a => exact .cons a (RWs.undat b)
end
/-- the law's own source of numbers: its cells, three numbers -/
def SrcV (K : PySem.W.Frag) (F : Hp) (b : Bool) (vs : List V) : Prop := ∃ (c : Addr) (cs : List Int) (i p z : Int), vs = [.ref c, .int i, .int p, .int z] ∧ SqL K F c (cs.map V.int) ∧ cs.length ≤ 63 ∧ (b = true → 0 < cs.length) ∧ 0 ≤ i ∧ 0 ≤ p ∧ 0 ≤ z ∧ z < (if b = true then 2147483647 else 2305843009213693951)
theorem SrcV.mono {K : PySem.W.Frag} {F F' : Hp} (e : Same F F') {b : Bool} {vs : List V} (h : SrcV K F b vs) : SrcV K F' b vs := by
  obtain ⟨c, cs, i, p, z, h1, h2, h3⟩ := h
  exact ⟨c, cs, i, p, z, h1, same_l e h2, h3⟩
def PrR {κ : Type} (K : PySem.W.Frag) (F : Hp) (kv : List (κ × V)) (kw : List (κ × W)) : Prop := kv.map (·.1) = kw.map (·.1) ∧ RWs K F (kv.map (·.2)) (kw.map (·.2))
theorem PrR.mono {κ : Type} {K : PySem.W.Frag} {F F' : Hp} (e : Same F F') {kv : List (κ × V)} {kw : List (κ × W)} (h : PrR K F kv kw) : PrR K F' kv kw := ⟨h.1, h.2.mono e⟩
/-- what stands there is the object o -/
def OR (K : PySem.W.Frag) (F : Hp) (a : Addr) (u : HO) : MO → Prop
  | .lst ws => ∃ vs, u = .lst vs ∧ RWs K F vs ws
  | .src b => ∃ vs, u = .lst vs ∧ SrcV K F b vs
  | .dK kw => ∃ kv, u = .dK kv ∧ PrR K F kv kw
  | .dT kw => ∃ kv, u = .dT kv ∧ PrR K F kv kw
  | .ins C dx fw => ∃ fv, u = .ins C dx fv ∧ PrR K F fv fw
  | .exc C dd => u = CgO (.ref C) dd a
theorem OR.mono {K : PySem.W.Frag} {F F' : Hp} (e : Same F F') {a : Addr} {u : HO} {o : MO} (h : OR K F a u o) : OR K F' a u o := by
  cases o with
  | lst ws =>
    obtain ⟨vs, h1, h2⟩ := h
    exact ⟨vs, h1, h2.mono e⟩
  | src b =>
    obtain ⟨vs, h1, h2⟩ := h
    exact ⟨vs, h1, h2.mono e⟩
  | dK kw =>
    obtain ⟨vs, h1, h2⟩ := h
    exact ⟨vs, h1, h2.mono e⟩
  | dT kw =>
    obtain ⟨vs, h1, h2⟩ := h
    exact ⟨vs, h1, h2.mono e⟩
  | ins C dx fw =>
    obtain ⟨vs, h1, h2⟩ := h
    exact ⟨vs, h1, h2.mono e⟩
  | exc C dd => exact h
/-- F: what is data for good; M: what may change; H: what stands there -/
structure Rl (K : PySem.W.Frag) (F H : Hp) (M : Mem) : Prop where
  fh : Same F H
  mf : ∀ a o, M a = some o → F a = none
  at_ : ∀ a o, M a = some o → ∃ u, H a = some u ∧ OR K F a u o
/-- from one state to a later one: what is neither data nor told by M stays as it is -/
structure Gr (F H : Hp) (M : Mem) (F' H' : Hp) (M' : Mem) : Prop where
  ff : Same F F'
  un : ∀ b u, H b = some u → M b = none → H' b = some u ∧ M' b = none
  nf : ∀ b u, H b = some u → M b = none → F b = none → F' b = none
theorem Gr.refl {F H : Hp} {M : Mem} : Gr F H M F H M := ⟨Same.refl _, fun _ _ h n => ⟨h, n⟩, fun _ _ _ _ h => h⟩
theorem Gr.trans {F H F1 H1 F2 H2 : Hp} {M M1 M2 : Mem} (a : Gr F H M F1 H1 M1) (b : Gr F1 H1 M1 F2 H2 M2) : Gr F H M F2 H2 M2 :=
  ⟨a.ff.trans b.ff, fun c u h n => b.un c u (a.un c u h n).1 (a.un c u h n).2, fun c u h n f => b.nf c u (a.un c u h n).1 (a.un c u h n).2 (a.nf c u h n f)⟩
section
variable {K : PySem.W.Frag} {F H : Hp} {M : Mem}
theorem Rl.there (h : Rl K F H M) {a : Addr} {o : MO} (e : M a = some o) : ∃ u, H a = some u := by
  obtain ⟨u, h1, _⟩ := h.at_ a o e
  exact ⟨u, h1⟩
theorem Rl.new (h : Rl K F H M) {p : Addr} (e : H p = none) : M p = none := by
  cases c : M p with
  | none => rfl
  | some o =>
    obtain ⟨u, h1, _⟩ := h.at_ p o c
    rw [e] at h1
    cases h1
theorem Rl.step (h : Rl K F H M) {F' H' : Hp} (ff : Same F F') (fh : Same F' H') (hm : ∀ a o, M a = some o → H' a = H a ∧ F' a = none) : Rl K F' H' M :=
  ⟨fh, fun a o e => (hm a o e).2, fun a o e => by
    obtain ⟨u, h1, h2⟩ := h.at_ a o e
    exact ⟨u, by rw [(hm a o e).1]; exact h1, h2.mono ff⟩⟩
/-- the heap grows by what nobody tells of -/
theorem Rl.same (h : Rl K F H M) {H' : Hp} (e : Same H H') : Rl K F H' M ∧ Gr F H M F H' M := by
  refine ⟨h.step (Same.refl _) (h.fh.trans e) fun a o c => ?_, Same.refl _, fun b u c n => ⟨e b u c, n⟩, fun _ _ _ _ f => f⟩
  obtain ⟨u, hu⟩ := h.there c
  exact ⟨by rw [hu]; exact e a u hu, h.mf a o c⟩
/-- a new thing that stays as it is -/
theorem Rl.fresh (h : Rl K F H M) {p : Addr} {u : HO} (e : H p = none) : Rl K (upd F p u) (upd H p u) M ∧ Gr F H M (upd F p u) (upd H p u) M := by
  have g := Gw.new (o := u) h.fh e
  refine ⟨h.step g.ff g.fh fun a o c => ?_, g.ff, fun b v c n => ⟨g.hh b v c, n⟩, fun b v c n f => ?_⟩
  · obtain ⟨v, hv⟩ := h.there c
    have n : a ≠ p := ne_of_none hv e
    exact ⟨upd_ne n, by rw [upd_ne n]; exact h.mf a o c⟩
  · rw [upd_ne (ne_of_none c e)]
    exact f
/-- a new object that may change -/
theorem Rl.born (h : Rl K F H M) {p : Addr} {u : HO} {o : MO} (e : H p = none) (r : OR K F p u o) : Rl K F (upd H p u) (mset M p o) ∧ Gr F H M F (upd H p u) (mset M p o) := by
  have fp := h.fh.free e
  refine ⟨⟨same_mut h.fh fp, fun a o' c => ?_, fun a o' c => ?_⟩, Same.refl _, fun b v c n => ?_, fun _ _ _ _ f => f⟩
  · by_cases z : a = p
    · rw [z]; exact fp
    · rw [mset_ne z] at c; exact h.mf a o' c
  · by_cases z : a = p
    · subst z
      rw [mset_same] at c
      cases c
      exact ⟨u, upd_same, r⟩
    · rw [mset_ne z] at c
      rw [upd_ne z]
      exact h.at_ a o' c
  · have z : b ≠ p := ne_of_none c e
    rw [upd_ne z, mset_ne z]
    exact ⟨c, n⟩
/-- an object changes -/
theorem Rl.put (h : Rl K F H M) {p : Addr} {u : HO} {o o' : MO} (e : M p = some o') (r : OR K F p u o) : Rl K F (upd H p u) (mset M p o) ∧ Gr F H M F (upd H p u) (mset M p o) := by
  have fp := h.mf p o' e
  refine ⟨⟨same_mut h.fh fp, fun a o' c => ?_, fun a o' c => ?_⟩, Same.refl _, fun b v c n => ?_, fun _ _ _ _ f => f⟩
  · by_cases z : a = p
    · rw [z]; exact fp
    · rw [mset_ne z] at c; exact h.mf a o' c
  · by_cases z : a = p
    · subst z
      rw [mset_same] at c
      cases c
      exact ⟨u, upd_same, r⟩
    · rw [mset_ne z] at c
      rw [upd_ne z]
      exact h.at_ a o' c
  · have z : b ≠ p := fun z => by rw [z, e] at n; cases n
    rw [upd_ne z, mset_ne z]
    exact ⟨c, n⟩
/-- a list of data is data from now on -/
theorem Rl.freeze (h : Rl K F H M) {p : Addr} {ds : List PyData} (e : M p = some (.lst (ds.map W.d))) : ∃ F', Rl K F' H (mdel M p) ∧ Gr F H M F' H (mdel M p) ∧ Dx K F' (.ref p) (.list ds) := by
  obtain ⟨_, h1, vs, rfl, h2⟩ := h.at_ p _ e
  have fp := h.mf p _ e
  have ff : Same F (upd F p (.lst vs)) := same_new fp
  have r : DxL K F vs ds := RWs.undat h2
  refine ⟨upd F p (.lst vs), ⟨fun b u q => ?_, fun a o c => ?_, fun a o c => ?_⟩, ⟨ff, fun b v c n => ⟨c, ?_⟩, fun b v c n f => ?_⟩, .lst upd_same (DxL.mono ff _ _ r)⟩
  · by_cases z : b = p
    · subst z
      rw [upd_same] at q
      rw [h1]
      exact q
    · rw [upd_ne z] at q
      exact h.fh b u q
  · have z : a ≠ p := fun z => by rw [z, mdel_same] at c; cases c
    rw [mdel_ne z] at c
    rw [upd_ne z]
    exact h.mf a o c
  · have z : a ≠ p := fun z => by rw [z, mdel_same] at c; cases c
    rw [mdel_ne z] at c
    obtain ⟨u, g1, g2⟩ := h.at_ a o c
    exact ⟨u, g1, g2.mono ff⟩
  · by_cases z : b = p
    · rw [z]; exact mdel_same
    · rw [mdel_ne z]; exact n
  · have z : b ≠ p := fun z => by rw [z, e] at n; cases n
    rw [upd_ne z]
    exact f
/-- an object that is not looked at any more -/
theorem Rl.drop (h : Rl K F H M) (p : Addr) : Rl K F H (mdel M p) ∧ Gr F H M F H (mdel M p) := by
  refine ⟨⟨h.fh, fun a o c => ?_, fun a o c => ?_⟩, Same.refl _, fun b v c n => ⟨c, ?_⟩, fun b v c n f => f⟩
  · have z : a ≠ p := fun z => by rw [z, mdel_same] at c; cases c
    rw [mdel_ne z] at c
    exact h.mf a o c
  · have z : a ≠ p := fun z => by rw [z, mdel_same] at c; cases c
    rw [mdel_ne z] at c
    exact h.at_ a o c
  · by_cases z : b = p
    · rw [z]; exact mdel_same
    · rw [mdel_ne z]; exact n
/-- the heap of a thing nobody tells of changes (an object made in between, not told by M, not data) -/
theorem Rl.hid (h : Rl K F H M) {p : Addr} {u : HO} (hf : F p = none) (hm : M p = none) : Rl K F (upd H p u) M :=
  h.step (Same.refl _) (same_mut h.fh hf) fun a o c => ⟨upd_ne (fun z => by rw [z, hm] at c; cases c), h.mf a o c⟩
end
/-! ### slots -/
@[reducible] def slot : EnvD → Nat → Option W
  | [], _ => none
  | x :: _, 0 => x
  | _ :: r, n + 1 => slot r n
@[reducible] def put : EnvD → Nat → Option W → EnvD
  | [], _, _ => []
  | _ :: r, 0, w => w :: r
  | x :: r, n + 1, w => x :: put r n w
theorem put_len : ∀ (ρ : EnvD) (i : Nat) (w : Option W), (put ρ i w).length = ρ.length
  | [], _, _ => rfl
  | _ :: r, 0, _ => rfl
  | _ :: r, n + 1, w => congrArg (· + 1) (put_len r n w)
theorem slot_put : ∀ {ρ : EnvD} {i : Nat} {w : Option W} {x : W}, slot (put ρ i w) i = some x → w = some x ∧ i < ρ.length
  | [], _, _, _, h => by cases h
  | _ :: r, 0, _, _, h => ⟨h, Nat.succ_pos _⟩
  | _ :: r, n + 1, w, x, h => by
    obtain ⟨h1, h2⟩ := slot_put (ρ := r) (i := n) h
    exact ⟨h1, Nat.succ_lt_succ h2⟩
theorem slot_put_ne : ∀ {ρ : EnvD} {i j : Nat} {w : Option W}, j ≠ i → slot (put ρ i w) j = slot ρ j
  | [], _, _, _, _ => rfl
  | _ :: r, 0, 0, _, h => absurd rfl h
  | _ :: r, 0, j + 1, _, _ => rfl
  | _ :: r, n + 1, 0, w, h => rfl
  | _ :: r, n + 1, j + 1, w, h => slot_put_ne (ρ := r) fun z => h (by rw [z])
theorem slot_lt : ∀ {ρ : EnvD} {i : Nat} {x : W}, slot ρ i = some x → i < ρ.length
  | [], _, _, h => by cases h
  | _ :: r, 0, _, h => Nat.succ_pos _
  | _ :: r, n + 1, x, h => Nat.succ_lt_succ (slot_lt (ρ := r) h)
structure RelS (K : PySem.W.Frag) (F : Hp) (σ : L2.St) (ρ : EnvD) : Prop where
  len : σ.length = ρ.length
  at_ : ∀ i x, slot ρ i = some x → ∃ v, σ[i]? = some (some v) ∧ RW K F v x
section
variable {K : PySem.W.Frag} {F F' : Hp} {σ : L2.St} {ρ : EnvD}
theorem RelS.mono (e : Same F F') (h : RelS K F σ ρ) : RelS K F' σ ρ := ⟨h.len, fun i x c => by
  obtain ⟨v, h1, h2⟩ := h.at_ i x c
  exact ⟨v, h1, h2.mono e⟩⟩
theorem RelS.set (h : RelS K F σ ρ) {v : V} {x : W} (r : RW K F v x) (i : Nat) : RelS K F (σ.set i (some v)) (put ρ i (some x)) := by
  refine ⟨by rw [List.length_set, put_len]; exact h.len, fun j y c => ?_⟩
  by_cases z : j = i
  · subst z
    obtain ⟨h1, h2⟩ := slot_put c
    cases h1
    exact ⟨v, by rw [List.getElem?_set_self (by rw [h.len]; exact h2)], r⟩
  · rw [slot_put_ne z] at c
    rw [List.getElem?_set_ne (fun q => z q.symm)]
    exact h.at_ j y c
theorem RelS.del (h : RelS K F σ ρ) (i : Nat) (w : Option V) : RelS K F (σ.set i w) (put ρ i none) := by
  refine ⟨by rw [List.length_set, put_len]; exact h.len, fun j y c => ?_⟩
  by_cases z : j = i
  · subst z
    obtain ⟨h1, h2⟩ := slot_put c
    cases h1
  · rw [slot_put_ne z] at c
    rw [List.getElem?_set_ne (fun q => z q.symm)]
    exact h.at_ j y c
end
end Tl

set_option Elab.async false
set_option linter.all false
set_option maxRecDepth 100000
set_option maxHeartbeats 4000000
/-! Readings at the second layer, and that they hold. -/
namespace Tl
open PySem L2
abbrev TDE := EnvD → Mem → (W → Mem → Prop) → Prop
abbrev TDA := EnvD → Mem → (List W → Mem → Prop) → Prop
abbrev TDT := EnvD → Mem → (Bool → Mem → Prop) → Prop
/-- a thing that is raised: its class, its fields -/
structure Ex where
  cls : Value
  fs : List (Str × PyData)
abbrev REx := Ex → EnvD → Mem → Prop
def XRel (K : PySem.W.Frag) (F : Hp) (cls : Value) (d : Option Addr) (x : Ex) : Prop := cls = x.cls ∧ FX K F d x.fs
def XOk (K : PySem.W.Frag) (F H : Hp) (M : Mem) (Wx : WX) (RE : REx) : Prop :=
  ∀ F' H' M' σ ρ cls d x, Gr F H M F' H' M' → Rl K F' H' M' → RelS K F' σ ρ → XRel K F' cls d x → RE x ρ M' → Wx cls d σ H'
theorem XOk.mono {K : PySem.W.Frag} {F H F' H' : Hp} {M M' : Mem} {Wx : WX} {RE : REx} (x : XOk K F H M Wx RE) (g : Gr F H M F' H' M') : XOk K F' H' M' Wx RE :=
  fun F2 H2 M2 σ ρ cls d e g2 => x F2 H2 M2 σ ρ cls d e (g.trans g2)
/-- what is wanted of a value, there as here -/
abbrev Kt (K : PySem.W.Frag) (F H : Hp) (M : Mem) (R : W → Mem → Prop) (Q : VK) : Prop := ∀ v H' F' M' x, Rl K F' H' M' → Gr F H M F' H' M' → RW K F' v x → R x M' → Q v H'
def SE (K : PySem.W.Frag) (Wx : WX) (RE : REx) (t : TE) (T : TDE) : Prop :=
  ∀ F H M σ ρ R Q, Rl K F H M → XOk K F H M Wx RE → RelS K F σ ρ → T ρ M R → Kt K F H M R Q → t σ H Q
def ST (K : PySem.W.Frag) (Wx : WX) (RE : REx) (t : TT) (T : TDT) : Prop :=
  ∀ F H M σ ρ (R : Bool → Mem → Prop) (Q : Bool → Hp → Prop), Rl K F H M → XOk K F H M Wx RE → RelS K F σ ρ → T ρ M R → (∀ b H' F' M', Rl K F' H' M' → Gr F H M F' H' M' → R b M' → Q b H') → t σ H Q
def SA (K : PySem.W.Frag) (Wx : WX) (RE : REx) (t : TA) (T : TDA) : Prop :=
  ∀ F H M σ ρ (R : List W → Mem → Prop) (Q : List V → Hp → Prop), Rl K F H M → XOk K F H M Wx RE → RelS K F σ ρ → T ρ M R → (∀ vs H' F' M' xs, Rl K F' H' M' → Gr F H M F' H' M' → RWs K F' vs xs → R xs M' → Q vs H') → t σ H Q
abbrev F2 := W → W → Mem → (W → Mem → Prop) → Prop
abbrev FL := List W → Mem → (W → Mem → Prop) → Prop
def SO (K : PySem.W.Frag) (r : R2) (f : F2) : Prop := ∀ F H M v u x y R Q, Rl K F H M → RW K F v x → RW K F u y → f x y M R → Kt K F H M R Q → r v u H Q
def SU (K : PySem.W.Frag) (r : V → Hp → VK → Prop) (f : W → Mem → (W → Mem → Prop) → Prop) : Prop := ∀ F H M v x R Q, Rl K F H M → RW K F v x → f x M R → Kt K F H M R Q → r v H Q
def SC (K : PySem.W.Frag) (r : List V → Hp → VK → Prop) (f : FL) : Prop := ∀ F H M vs xs R Q, Rl K F H M → RWs K F vs xs → f xs M R → Kt K F H M R Q → r vs H Q
/-! ### what a value is -/
@[reducible] def gI (x : W) (k : Int → Prop) : Prop := match x with | .d (.int a) => k a | _ => False
@[reducible] def gS (x : W) (k : Str → Prop) : Prop := match x with | .d (.str a) => k a | _ => False
@[reducible] def gB (x : W) (k : Bool → Prop) : Prop := match x with | .d (.bool a) => k a | _ => False
@[reducible] def gT (x : W) (k : List PyData → Prop) : Prop := match x with | .d (.tuple a) => k a | _ => False
@[reducible] def gL (x : W) (k : List PyData → Prop) : Prop := match x with | .d (.list a) => k a | _ => False
@[reducible] def gD (x : W) (k : PyData → Prop) : Prop := match x with | .d a => k a | _ => False
@[reducible] def gR (x : W) (k : Addr → Prop) : Prop := match x with | .r a => k a | _ => False
theorem gI_of {x : W} {k : Int → Prop} (h : gI x k) : ∃ a, x = .d (.int a) ∧ k a := by
  unfold gI at h
  split at h
  · exact ⟨_, rfl, h⟩
  · exact h.elim
theorem gS_of {x : W} {k : Str → Prop} (h : gS x k) : ∃ a, x = .d (.str a) ∧ k a := by
  unfold gS at h
  split at h
  · exact ⟨_, rfl, h⟩
  · exact h.elim
theorem gB_of {x : W} {k : Bool → Prop} (h : gB x k) : ∃ a, x = .d (.bool a) ∧ k a := by
  unfold gB at h
  split at h
  · exact ⟨_, rfl, h⟩
  · exact h.elim
theorem gT_of {x : W} {k : List PyData → Prop} (h : gT x k) : ∃ a, x = .d (.tuple a) ∧ k a := by
  unfold gT at h
  split at h
  · exact ⟨_, rfl, h⟩
  · exact h.elim
theorem gL_of {x : W} {k : List PyData → Prop} (h : gL x k) : ∃ a, x = .d (.list a) ∧ k a := by
  unfold gL at h
  split at h
  · exact ⟨_, rfl, h⟩
  · exact h.elim
theorem gD_of {x : W} {k : PyData → Prop} (h : gD x k) : ∃ a, x = .d a ∧ k a := by
  unfold gD at h
  split at h
  · exact ⟨_, rfl, h⟩
  · exact h.elim
theorem gR_of {x : W} {k : Addr → Prop} (h : gR x k) : ∃ a, x = .r a ∧ k a := by
  unfold gR at h
  split at h
  · exact ⟨_, rfl, h⟩
  · exact h.elim
section
variable {K : PySem.W.Frag} {F H : Hp} {M : Mem} {v : V}
theorem RW.int {a : Int} (h : RW K F v (.d (.int a))) : v = .int a := by cases h with | d h => cases h; rfl
theorem RW.str {a : Str} (h : RW K F v (.d (.str a))) : v = .str a := by cases h with | d h => cases h; rfl
theorem RW.bl {a : Bool} (h : RW K F v (.d (.bool a))) : v = .bl a := by cases h with | d h => cases h; rfl
theorem RW.non (h : RW K F v (.d .none)) : v = .non := by cases h with | d h => cases h; rfl
theorem RW.dx {x : PyData} (h : RW K F v (.d x)) : Dx K F v x := by cases h with | d h => exact h
theorem RW.ref {a : Addr} (h : RW K F v (.r a)) : v = .ref a := by cases h; rfl
theorem RW.tup {ds : List PyData} (h : RW K F v (.d (.tuple ds))) : ∃ a xs, v = .ref a ∧ SqT K F a xs ∧ DxL K F xs ds := by
  cases h with
  | d h => cases h with | tup h1 h2 => exact ⟨_, _, rfl, h1, h2⟩
theorem RW.lst {ds : List PyData} (h : RW K F v (.d (.list ds))) : ∃ a xs, v = .ref a ∧ F a = some (.lst xs) ∧ DxL K F xs ds := by
  cases h with
  | d h => cases h with | lst h1 h2 => exact ⟨_, _, rfl, h1, h2⟩
theorem Rl.lst (h : Rl K F H M) {a : Addr} {ws : List W} (e : M a = some (.lst ws)) : ∃ vs, H a = some (.lst vs) ∧ RWs K F vs ws := by
  obtain ⟨_, h1, vs, rfl, h2⟩ := h.at_ a _ e
  exact ⟨vs, h1, h2⟩
/-- a new tuple of data -/
theorem Rl.tup (h : Rl K F H M) {p : Addr} {xs : List V} {ds : List PyData} (e : H p = none) (r : DxL K F xs ds) : Rl K (upd F p (.tup xs)) (upd H p (.tup xs)) M ∧ Gr F H M (upd F p (.tup xs)) (upd H p (.tup xs)) M ∧ RW K (upd F p (.tup xs)) (.ref p) (.d (.tuple ds)) := by
  obtain ⟨h1, h2⟩ := h.fresh (u := .tup xs) e
  exact ⟨h1, h2, .d (.tup (.inl (.inl upd_same)) (DxL.mono h2.ff _ _ r))⟩
theorem Rl.list (h : Rl K F H M) {p : Addr} {xs : List V} {ds : List PyData} (e : H p = none) (r : DxL K F xs ds) : Rl K (upd F p (.lst xs)) (upd H p (.lst xs)) M ∧ Gr F H M (upd F p (.lst xs)) (upd H p (.lst xs)) M ∧ RW K (upd F p (.lst xs)) (.ref p) (.d (.list ds)) := by
  obtain ⟨h1, h2⟩ := h.fresh (u := .lst xs) e
  exact ⟨h1, h2, .d (.lst upd_same (DxL.mono h2.ff _ _ r))⟩
end
section
variable {K : PySem.W.Frag} {Wx : WX} {RE : REx}
/-! ### names, constants -/
@[reducible] def nmT (i : Nat) : TDE := fun ρ M R => match slot ρ i with | some x => R x M | none => False
@[reducible] def cT (x : W) : TDE := fun _ M R => R x M
theorem se_nm {i : Nat} : SE K Wx RE (tVar i) (nmT i) := fun F H M σ ρ R Q hr hx hs ht k => by
  unfold nmT at ht
  cases c : slot ρ i with
  | none => rw [c] at ht; exact ht.elim
  | some x =>
    rw [c] at ht
    obtain ⟨v, h1, h2⟩ := hs.at_ i x c
    exact ⟨v, h1, k v H F M x hr .refl h2 ht⟩
theorem se_int {i : Int} : SE K Wx RE (tC (.int i)) (cT (.d (.int i))) := fun F H M σ ρ R Q hr hx hs ht k => k _ H F M _ hr .refl (.d (.int i)) ht
theorem se_str {i : Str} : SE K Wx RE (tC (.str i)) (cT (.d (.str i))) := fun F H M σ ρ R Q hr hx hs ht k => k _ H F M _ hr .refl (.d (.str i)) ht
theorem se_bl {i : Bool} : SE K Wx RE (tC (.bl i)) (cT (.d (.bool i))) := fun F H M σ ρ R Q hr hx hs ht k => k _ H F M _ hr .refl (.d (.bl i)) ht
theorem se_non : SE K Wx RE (tC .non) (cT (.d .none)) := fun F H M σ ρ R Q hr hx hs ht k => k _ H F M _ hr .refl (.d .non) ht
theorem se_o {v : V} : SE K Wx RE (tC v) (cT (.o v)) := fun F H M σ ρ R Q hr hx hs ht k => k _ H F M _ hr .refl (.o v) ht
/-- a thing of the module's own that is data -/
theorem se_k {v : V} {x : PyData} (h : ∀ F, Dx K F v x) : SE K Wx RE (tC v) (cT (.d x)) := fun F H M σ ρ R Q hr hx hs ht k => k _ H F M _ hr .refl (.d (h F)) ht
/-! ### operators -/
@[reducible] def opT (f : F2) (Ta Tb : TDE) : TDE := fun ρ M R => Ta ρ M fun x M1 => Tb ρ M1 fun y M2 => f x y M2 R
@[reducible] def unT (f : W → Mem → (W → Mem → Prop) → Prop) (Ta : TDE) : TDE := fun ρ M R => Ta ρ M fun x M1 => f x M1 R
theorem se_op {r : R2} {f : F2} {ta tb : TE} {Ta Tb : TDE} (ho : SO K r f) (ha : SE K Wx RE ta Ta) (hb : SE K Wx RE tb Tb) : SE K Wx RE (tOp r ta tb) (opT f Ta Tb) := fun F H M σ ρ R Q hr hx hs ht k =>
  ha F H M σ ρ _ _ hr hx hs ht fun v H1 F1 M1 x r1 g1 rx ht1 => hb F1 H1 M1 σ ρ _ _ r1 (hx.mono g1) (hs.mono g1.ff) ht1 fun u H2 F2 M2 y r2 g2 ry ht2 =>
    ho F2 H2 M2 v u x y R Q r2 (rx.mono g2.ff) ry ht2 fun w H3 F3 M3 z r3 g3 rz hz => k w H3 F3 M3 z r3 ((g1.trans g2).trans g3) rz hz
theorem se_un {r : V → Hp → VK → Prop} {f : W → Mem → (W → Mem → Prop) → Prop} {ta : TE} {Ta : TDE} (ho : SU K r f) (ha : SE K Wx RE ta Ta) : SE K Wx RE (tUn r ta) (unT f Ta) := fun F H M σ ρ R Q hr hx hs ht k =>
  ha F H M σ ρ _ _ hr hx hs ht fun v H1 F1 M1 x r1 g1 rx ht1 => ho F1 H1 M1 v x R Q r1 rx ht1 fun w H3 F3 M3 z r3 g3 rz hz => k w H3 F3 M3 z r3 (g1.trans g3) rz hz
@[reducible] def fI (g : Int → Int → PyData) : F2 := fun x y M R => gI x fun a => gI y fun b => R (.d (g a b)) M
@[reducible] def fIc (C : Int → Int → Prop) (g : Int → Int → PyData) : F2 := fun x y M R => gI x fun a => gI y fun b => C a b ∧ R (.d (g a b)) M
theorem so_I {gv : Int → Int → V} {g : Int → Int → PyData} (h : ∀ F i j, Dx K F (gv i j) (g i j)) : SO K (rI0 gv) (fI g) := fun F H M v u x y R Q hr rx ry hf k => by
  obtain ⟨a, rfl, hf1⟩ := gI_of hf
  obtain ⟨b, rfl, hf2⟩ := gI_of hf1
  exact ⟨a, b, rx.int, ry.int, k _ H F M _ hr .refl (.d (h F a b)) hf2⟩
theorem so_Ic {C : Int → Int → Prop} {gv : Int → Int → V} {g : Int → Int → PyData} (h : ∀ F i j, Dx K F (gv i j) (g i j)) : SO K (rI C gv) (fIc C g) := fun F H M v u x y R Q hr rx ry hf k => by
  obtain ⟨a, rfl, hf1⟩ := gI_of hf
  obtain ⟨b, rfl, hc, hf2⟩ := gI_of hf1
  exact ⟨a, b, rx.int, ry.int, hc, k _ H F M _ hr .refl (.d (h F a b)) hf2⟩
@[reducible] def fAdd : F2 := fI fun a b => .int (a + b)
@[reducible] def fSub : F2 := fI fun a b => .int (a - b)
@[reducible] def fMul : F2 := fIc CMul fun a b => .int (a * b)
@[reducible] def fMod : F2 := fIc (fun _ j => j ≠ 0) fun a b => .int (a.fmod b)
@[reducible] def fDiv : F2 := fIc CDivN fun a b => .int (a.fdiv b)
@[reducible] def fPow : F2 := fIc CPow fun a b => .int (a ^ b.toNat)
@[reducible] def fLt : F2 := fI fun a b => .bool (decide (a < b))
@[reducible] def fLe : F2 := fI fun a b => .bool (decide (a ≤ b))
@[reducible] def fGt : F2 := fI fun a b => .bool (decide (b < a))
@[reducible] def fGe : F2 := fI fun a b => .bool (decide (b ≤ a))
theorem so_add : SO K (rI0 fun i j => .int (i + j)) fAdd := so_I fun _ _ _ => .int _
theorem so_sub : SO K (rI0 fun i j => .int (i - j)) fSub := so_I fun _ _ _ => .int _
theorem so_mul : SO K (rI CMul fun i j => .int (i * j)) fMul := so_Ic fun _ _ _ => .int _
theorem so_mod : SO K (rI (fun _ j => j ≠ 0) fun i j => .int (i.fmod j)) fMod := so_Ic fun _ _ _ => .int _
theorem so_div : SO K (rI CDivN fun i j => .int (i.fdiv j)) fDiv := so_Ic fun _ _ _ => .int _
theorem so_pow : SO K (rI CPow fun i j => .int (i ^ j.toNat)) fPow := so_Ic fun _ _ _ => .int _
theorem so_lt : SO K (rI0 fun i j => .bl (decide (i < j))) fLt := so_I fun _ _ _ => .bl _
theorem so_le : SO K (rI0 fun i j => .bl (decide (i ≤ j))) fLe := so_I fun _ _ _ => .bl _
theorem so_gt : SO K (rI0 fun i j => .bl (decide (j < i))) fGt := so_I fun _ _ _ => .bl _
theorem so_ge : SO K (rI0 fun i j => .bl (decide (j ≤ i))) fGe := so_I fun _ _ _ => .bl _
@[reducible] def fNeg : W → Mem → (W → Mem → Prop) → Prop := fun x M R => gI x fun a => R (.d (.int (-a))) M
theorem su_neg : SU K (rU fun i => .int (-i)) fNeg := fun F H M v x R Q hr rx hf k => by
  obtain ⟨a, rfl, hf⟩ := gI_of hf
  exact ⟨a, rx.int, k _ H F M _ hr .refl (.d (.int _)) hf⟩
/-- texts -/
@[reducible] def fS (g : Str → Str → PyData) : F2 := fun x y M R => gS x fun a => gS y fun b => R (.d (g a b)) M
@[reducible] def fAddS : F2 := fun x y M R => gS x fun a => gS y fun b => a.length + b.length ≤ sizeLine ∧ R (.d (.str (a ++ b))) M
theorem so_addS : SO K (fun x y H Q => ∃ i j, x = V.str i ∧ y = V.str j ∧ i.length + j.length ≤ sizeLine ∧ Q (.str (i ++ j)) H) fAddS := fun F H M v u x y R Q hr rx ry hf k => by
  obtain ⟨a, rfl, hf1⟩ := gS_of hf
  obtain ⟨b, rfl, hc, hf2⟩ := gS_of hf1
  exact ⟨a, b, rx.str, ry.str, hc, k _ H F M _ hr .refl (.d (.str _)) hf2⟩
@[reducible] def fLeS : F2 := fS fun i j => .bool (!decide (j.cps.toList < i.cps.toList))
theorem so_leS : SO K (fun x y H Q => ∃ i j, x = V.str i ∧ y = V.str j ∧ Q (.bl (!decide (j.cps.toList < i.cps.toList))) H) fLeS := fun F H M v u x y R Q hr rx ry hf k => by
  obtain ⟨a, rfl, hf1⟩ := gS_of hf
  obtain ⟨b, rfl, hf2⟩ := gS_of hf1
  exact ⟨a, b, rx.str, ry.str, k _ H F M _ hr .refl (.d (.bl _)) hf2⟩
@[reducible] def fRepS : F2 := fun x y M R => gS x fun a => gI y fun n => (a.length = 1 ∧ 0 ≤ n ∧ n ≤ 1000) ∧ R (.d (.str (repS a n.toNat))) M
theorem so_repS : SO K (fun x y H Q => ∃ (a : Str) (n : Int), x = .str a ∧ y = .int n ∧ a.length = 1 ∧ 0 ≤ n ∧ n ≤ 1000 ∧ Q (.str (repS a n.toNat)) H) fRepS := fun F H M v u x y R Q hr rx ry hf k => by
  obtain ⟨a, rfl, hf1⟩ := gS_of hf
  obtain ⟨b, rfl, ⟨h1, h2, h3⟩, hf2⟩ := gI_of hf1
  exact ⟨a, b, rx.str, ry.int, h1, h2, h3, k _ H F M _ hr .refl (.d (.str _)) hf2⟩
/-- one sign in a text -/
@[reducible] def gC (x : W) (k : Nat → Prop) : Prop := gS x fun a => ∃ c, a = ⟨#[c]⟩ ∧ k c
@[reducible] def fInS (neg : Bool) : F2 := fun x y M R => gS x fun a => gS y fun z => ∃ c, a = ⟨#[c]⟩ ∧ R (.d (.bool (if neg then !decide (c ∈ z.cps.toList) else decide (c ∈ z.cps.toList)))) M
theorem so_inS : SO K (fun x y H Q => ∃ (c : Nat) (z : Str), x = .str ⟨#[c]⟩ ∧ y = .str z ∧ Q (.bl (decide (c ∈ z.cps.toList))) H) (fInS false) := fun F H M v u x y R Q hr rx ry hf k => by
  obtain ⟨a, rfl, hf1⟩ := gS_of hf
  obtain ⟨b, rfl, c, rfl, hf2⟩ := gS_of hf1
  exact ⟨c, b, rx.str, ry.str, k _ H F M _ hr .refl (.d (.bl _)) hf2⟩
theorem so_ninS : SO K (fun x y H Q => ∃ (c : Nat) (z : Str), x = .str ⟨#[c]⟩ ∧ y = .str z ∧ Q (.bl (!decide (c ∈ z.cps.toList))) H) (fInS true) := fun F H M v u x y R Q hr rx ry hf k => by
  obtain ⟨a, rfl, hf1⟩ := gS_of hf
  obtain ⟨b, rfl, c, rfl, hf2⟩ := gS_of hf1
  exact ⟨c, b, rx.str, ry.str, k _ H F M _ hr .refl (.d (.bl _)) hf2⟩
/-! ### is None -/
@[reducible] def isN : W → Option Bool
  | .d .none => some true
  | .d _ => some false
  | .r _ => some false
  | .o _ => none
  | .x _ _ _ _ => some false
@[reducible] def fIsN (neg : Bool) : F2 := fun x y M R => y = .d .none ∧ match isN x with | some b => R (.d (.bool (if neg then !b else b))) M | none => False
theorem isN_of {F : Hp} {v : V} {x : W} {b : Bool} (r : RW K F v x) (h : isN x = some b) : decide (v = .non) = b := by
  cases r with
  | d r => cases r <;> (cases h; simp)
  | r a => cases h; simp
  | o v => cases h
  | x _ => cases h; simp
theorem so_isN : SO K (fun x y H Q => y = V.non ∧ Q (.bl (decide (x = .non))) H) (fIsN false) := fun F H M v u x y R Q hr rx ry hf k => by
  obtain ⟨rfl, hf⟩ := hf
  cases c : isN x with
  | none => rw [c] at hf; exact hf.elim
  | some b =>
    rw [c] at hf
    refine ⟨ry.non, ?_⟩
    rw [isN_of rx c]
    exact k _ H F M _ hr .refl (.d (.bl _)) hf
theorem so_notN : SO K (fun x y H Q => y = V.non ∧ Q (.bl (!decide (x = .non))) H) (fIsN true) := fun F H M v u x y R Q hr rx ry hf k => by
  obtain ⟨rfl, hf⟩ := hf
  cases c : isN x with
  | none => rw [c] at hf; exact hf.elim
  | some b =>
    rw [c] at hf
    refine ⟨ry.non, ?_⟩
    rw [isN_of rx c]
    exact k _ H F M _ hr .refl (.d (.bl _)) hf
/-! ### == -/
/-- a list of data that may change, or data, as data -/
@[reducible] def asD (M : Mem) (x : W) (k : PyData → Prop) : Prop := match x with
  | .d a => k a
  | .r a => ∃ ds, M a = some (.lst (ds.map W.d)) ∧ k (.list ds)
  | _ => False
theorem asD_of {F H : Hp} {M : Mem} {v : V} {x : W} {k : PyData → Prop} (hr : Rl K F H M) (r : RW K F v x) (h : asD M x k) : ∃ a F', Same F F' ∧ Same F' H ∧ Dx K F' v a ∧ k a := by
  cases x with
  | d a => exact ⟨a, F, Same.refl _, hr.fh, r.dx, h⟩
  | r a =>
    obtain ⟨ds, h1, h2⟩ := h
    obtain ⟨F', r', g', d'⟩ := hr.freeze h1
    rw [r.ref]
    exact ⟨_, F', g'.ff, r'.fh, d', h2⟩
  | o v => exact h.elim
  | x a C dd fs => exact h.elim
def eqOk (d : PyData) : Bool := !d.hasDict && SeqAt.shaped d
theorem eqOk_of {d : PyData} (h : eqOk d = true) : d.hasDict = false ∧ SeqAt.shaped d = true := by
  unfold eqOk at h
  rw [Bool.and_eq_true] at h
  exact ⟨by simpa using h.1, h.2⟩
@[reducible] def fEqD (neg : Bool) : F2 := fun x y M R => asD M x fun a => asD M y fun b => (eqOk a = true ∧ eqOk b = true) ∧ R (.d (.bool (if neg then !PyData.eqv a b else PyData.eqv a b))) M
theorem so_eqD : SO K (rEqD K) (fEqD false) := fun F H M v u x y R Q hr rx ry hf k => by
  obtain ⟨a, F1, e1, f1, da, hf⟩ := asD_of hr rx hf
  obtain ⟨b, F2, e2, f2, db, ⟨ha, hb⟩, hf⟩ := asD_of hr ry hf
  exact ⟨a, b, Dx.dp _ _ (Dx.mono f1 _ _ da) (eqOk_of ha).1, Dx.dp _ _ (Dx.mono f2 _ _ db) (eqOk_of hb).1, (eqOk_of ha).2, (eqOk_of hb).2, k _ H F M _ hr .refl (.d (.bl _)) hf⟩
theorem so_neD : SO K (rNeD K) (fEqD true) := fun F H M v u x y R Q hr rx ry hf k => by
  obtain ⟨a, F1, e1, f1, da, hf⟩ := asD_of hr rx hf
  obtain ⟨b, F2, e2, f2, db, ⟨ha, hb⟩, hf⟩ := asD_of hr ry hf
  exact ⟨a, b, Dx.dp _ _ (Dx.mono f1 _ _ da) (eqOk_of ha).1, Dx.dp _ _ (Dx.mono f2 _ _ db) (eqOk_of hb).1, (eqOk_of ha).2, (eqOk_of hb).2, k _ H F M _ hr .refl (.d (.bl _)) hf⟩
/-- plain values: numbers, texts, truths, None -/
@[reducible] def eqS : PyData → PyData → Option Bool
  | .int a, .int b => some (decide (a = b))
  | .str a, .str b => some (decide (a = b))
  | .bool a, .bool b => some (decide (a = b))
  | .none, .none => some true
  | .none, .int _ => some false
  | .none, .str _ => some false
  | .none, .bool _ => some false
  | .int _, .none => some false
  | .str _, .none => some false
  | .bool _, .none => some false
  | .int _, .str _ => some false
  | .str _, .int _ => some false
  | .bool _, .str _ => some false
  | .str _, .bool _ => some false
  | _, _ => none
@[reducible] def fEqS (neg : Bool) : F2 := fun x y M R => gD x fun a => gD y fun b => match eqS a b with | some c => R (.d (.bool (if neg then !c else c))) M | none => False
theorem eqS_of {F : Hp} {v u : V} {a b : PyData} {c : Bool} (ra : Dx K F v a) (rb : Dx K F u b) (h : eqS a b = some c) : scal v u = true ∧ decide (v = u) = c := by
  cases ra <;> cases rb <;> first | (cases h; done) | (simp only [eqS, Option.some.injEq] at h; subst h; refine ⟨rfl, ?_⟩; simp)
theorem so_eqS : SO K rEq (fEqS false) := fun F H M v u x y R Q hr rx ry hf k => by
  obtain ⟨a, rfl, hf1⟩ := gD_of hf
  obtain ⟨b, rfl, hf2⟩ := gD_of hf1
  cases c : eqS a b with
  | none => rw [c] at hf2; exact hf2.elim
  | some e =>
    rw [c] at hf2
    obtain ⟨h1, h2⟩ := eqS_of rx.dx ry.dx c
    refine ⟨h1, ?_⟩
    rw [h2]
    exact k _ H F M _ hr .refl (.d (.bl _)) hf2
theorem so_neS : SO K rNe (fEqS true) := fun F H M v u x y R Q hr rx ry hf k => by
  obtain ⟨a, rfl, hf1⟩ := gD_of hf
  obtain ⟨b, rfl, hf2⟩ := gD_of hf1
  cases c : eqS a b with
  | none => rw [c] at hf2; exact hf2.elim
  | some e =>
    rw [c] at hf2
    obtain ⟨h1, h2⟩ := eqS_of rx.dx ry.dx c
    refine ⟨h1, ?_⟩
    rw [h2]
    exact k _ H F M _ hr .refl (.d (.bl _)) hf2
end
end Tl

set_option Elab.async false
set_option linter.all false
set_option maxRecDepth 100000
set_option maxHeartbeats 4000000
namespace Tl
open PySem L2
section
variable {K : PySem.W.Frag} {Wx : WX} {RE : REx}
/-! ### tests -/
@[reducible] def tbT (T : TDE) : TDT := fun ρ M R => T ρ M fun x M1 => gB x fun c => R c M1
@[reducible] def andT (T U : TDT) : TDT := fun ρ M R => T ρ M fun c M1 => if c = true then U ρ M1 R else R false M1
@[reducible] def orT (T U : TDT) : TDT := fun ρ M R => T ρ M fun c M1 => if c = true then R true M1 else U ρ M1 R
@[reducible] def notT (T : TDT) : TDT := fun ρ M R => T ρ M fun c M1 => R (!c) M1
@[reducible] def andV (T U : TDE) : TDE := fun ρ M R => T ρ M fun x M1 => gB x fun c => if c = true then U ρ M1 R else R (.d (.bool false)) M1
@[reducible] def orV (T U : TDE) : TDE := fun ρ M R => T ρ M fun x M1 => gB x fun c => if c = true then R (.d (.bool true)) M1 else U ρ M1 R
@[reducible] def notV (T : TDE) : TDE := fun ρ M R => T ρ M fun x M1 => gB x fun c => R (.d (.bool (!c))) M1
@[reducible] def ifT (T : TDT) (A B : TDE) : TDE := fun ρ M R => T ρ M fun c M1 => if c = true then A ρ M1 R else B ρ M1 R
theorem st_val {t : TE} {T : TDE} (h : SE K Wx RE t T) : ST K Wx RE (tB t) (tbT T) := fun F H M σ ρ R Q hr hx hs ht k =>
  h F H M σ ρ _ _ hr hx hs ht fun v H1 F1 M1 x r1 g1 rx h1 => by
    obtain ⟨c, rfl, h2⟩ := gB_of h1
    exact ⟨c, rx.bl, k c H1 F1 M1 r1 g1 h2⟩
theorem st_test {t : TE} {T : TDE} (h : SE K Wx RE t T) : ST K Wx RE (tTest t) (tbT T) := fun F H M σ ρ R Q hr hx hs ht k =>
  h F H M σ ρ _ _ hr hx hs ht fun v H1 F1 M1 x r1 g1 rx h1 => by
    obtain ⟨c, rfl, h2⟩ := gB_of h1
    exact ⟨c, rx.bl, k c H1 F1 M1 r1 g1 h2⟩
theorem st_and {t u : TT} {T U : TDT} (ha : ST K Wx RE t T) (hb : ST K Wx RE u U) : ST K Wx RE (tAnd t u) (andT T U) := fun F H M σ ρ R Q hr hx hs ht k =>
  ha F H M σ ρ _ _ hr hx hs ht fun c H1 F1 M1 r1 g1 h1 => by
    by_cases hc : c = true
    · rw [if_pos hc] at h1 ⊢
      exact hb F1 H1 M1 σ ρ R Q r1 (hx.mono g1) (hs.mono g1.ff) h1 fun b H2 F2 M2 r2 g2 h2 => k b H2 F2 M2 r2 (g1.trans g2) h2
    · rw [if_neg hc] at h1 ⊢
      exact k _ H1 F1 M1 r1 g1 h1
theorem st_or {t u : TT} {T U : TDT} (ha : ST K Wx RE t T) (hb : ST K Wx RE u U) : ST K Wx RE (tOr t u) (orT T U) := fun F H M σ ρ R Q hr hx hs ht k =>
  ha F H M σ ρ _ _ hr hx hs ht fun c H1 F1 M1 r1 g1 h1 => by
    by_cases hc : c = true
    · rw [if_pos hc] at h1 ⊢
      exact k _ H1 F1 M1 r1 g1 h1
    · rw [if_neg hc] at h1 ⊢
      exact hb F1 H1 M1 σ ρ R Q r1 (hx.mono g1) (hs.mono g1.ff) h1 fun b H2 F2 M2 r2 g2 h2 => k b H2 F2 M2 r2 (g1.trans g2) h2
theorem st_not {t : TT} {T : TDT} (ha : ST K Wx RE t T) : ST K Wx RE (tNot t) (notT T) := fun F H M σ ρ R Q hr hx hs ht k =>
  ha F H M σ ρ _ _ hr hx hs ht fun c H1 F1 M1 r1 g1 h1 => k _ H1 F1 M1 r1 g1 h1
theorem se_and {t u : TE} {T U : TDE} (ha : SE K Wx RE t T) (hb : SE K Wx RE u U) : SE K Wx RE (tAndV t u) (andV T U) := fun F H M σ ρ R Q hr hx hs ht k =>
  ha F H M σ ρ _ _ hr hx hs ht fun v H1 F1 M1 x r1 g1 rx h1 => by
    obtain ⟨c, rfl, h2⟩ := gB_of h1
    refine ⟨c, rx.bl, ?_⟩
    by_cases hc : c = true
    · rw [if_pos hc] at h2 ⊢
      exact hb F1 H1 M1 σ ρ R Q r1 (hx.mono g1) (hs.mono g1.ff) h2 fun b H2 F2 M2 x r2 g2 h3 h4 => k b H2 F2 M2 x r2 (g1.trans g2) h3 h4
    · rw [if_neg hc] at h2 ⊢
      exact k _ H1 F1 M1 _ r1 g1 (.d (.bl _)) h2
theorem se_or {t u : TE} {T U : TDE} (ha : SE K Wx RE t T) (hb : SE K Wx RE u U) : SE K Wx RE (tOrV t u) (orV T U) := fun F H M σ ρ R Q hr hx hs ht k =>
  ha F H M σ ρ _ _ hr hx hs ht fun v H1 F1 M1 x r1 g1 rx h1 => by
    obtain ⟨c, rfl, h2⟩ := gB_of h1
    refine ⟨c, rx.bl, ?_⟩
    by_cases hc : c = true
    · rw [if_pos hc] at h2 ⊢
      exact k _ H1 F1 M1 _ r1 g1 (.d (.bl _)) h2
    · rw [if_neg hc] at h2 ⊢
      exact hb F1 H1 M1 σ ρ R Q r1 (hx.mono g1) (hs.mono g1.ff) h2 fun b H2 F2 M2 x r2 g2 h3 h4 => k b H2 F2 M2 x r2 (g1.trans g2) h3 h4
theorem se_not {t : TE} {T : TDE} (ha : SE K Wx RE t T) : SE K Wx RE (tNotV t) (notV T) := fun F H M σ ρ R Q hr hx hs ht k =>
  ha F H M σ ρ _ _ hr hx hs ht fun v H1 F1 M1 x r1 g1 rx h1 => by
    obtain ⟨c, rfl, h2⟩ := gB_of h1
    exact ⟨c, rx.bl, k _ H1 F1 M1 _ r1 g1 (.d (.bl _)) h2⟩
theorem se_if {t : TT} {T : TDT} {ta tb : TE} {A B : TDE} (hc : ST K Wx RE t T) (ha : SE K Wx RE ta A) (hb : SE K Wx RE tb B) : SE K Wx RE (tIf t ta tb) (ifT T A B) := fun F H M σ ρ R Q hr hx hs ht k =>
  hc F H M σ ρ _ _ hr hx hs ht fun c H1 F1 M1 r1 g1 h1 => by
    by_cases hc : c = true
    · rw [if_pos hc] at h1 ⊢
      exact ha F1 H1 M1 σ ρ R Q r1 (hx.mono g1) (hs.mono g1.ff) h1 fun b H2 F2 M2 x r2 g2 h3 h4 => k b H2 F2 M2 x r2 (g1.trans g2) h3 h4
    · rw [if_neg hc] at h1 ⊢
      exact hb F1 H1 M1 σ ρ R Q r1 (hx.mono g1) (hs.mono g1.ff) h1 fun b H2 F2 M2 x r2 g2 h3 h4 => k b H2 F2 M2 x r2 (g1.trans g2) h3 h4
@[reducible] def chT (f f' : F2) (Ta Tb Tc : TDE) : TDE := fun ρ M R => Ta ρ M fun x M1 => Tb ρ M1 fun y M2 => f x y M2 fun z M3 => gB z fun c => if c = true then Tc ρ M3 fun w M4 => f' y w M4 R else R (.d (.bool false)) M3
theorem se_chain {r r' : R2} {f f' : F2} {ta tb tc : TE} {Ta Tb Tc : TDE} (ho : SO K r f) (ho' : SO K r' f') (ha : SE K Wx RE ta Ta) (hb : SE K Wx RE tb Tb) (hc : SE K Wx RE tc Tc) : SE K Wx RE (tChain r r' ta tb tc) (chT f f' Ta Tb Tc) := fun F H M σ ρ R Q hr hx hs ht k =>
  ha F H M σ ρ _ _ hr hx hs ht fun v H1 F1 M1 x r1 g1 rx ht1 => hb F1 H1 M1 σ ρ _ _ r1 (hx.mono g1) (hs.mono g1.ff) ht1 fun u H2 F2 M2 y r2 g2 ry ht2 =>
    ho F2 H2 M2 v u x y _ _ r2 (rx.mono g2.ff) ry ht2 fun w H3 F3 M3 z r3 g3 rz hz => by
      obtain ⟨c, rfl, h2⟩ := gB_of hz
      refine ⟨c, rz.bl, ?_⟩
      have g := (g1.trans g2).trans g3
      by_cases hc' : c = true
      · rw [if_pos hc'] at h2 ⊢
        exact hc F3 H3 M3 σ ρ _ _ r3 (hx.mono g) (hs.mono g.ff) h2 fun w4 H4 F4 M4 z4 r4 g4 rz4 h4 =>
          ho' F4 H4 M4 u w4 y z4 R Q r4 (ry.mono (g3.trans g4).ff) rz4 h4 fun w5 H5 F5 M5 z5 r5 g5 rz5 h5 => k w5 H5 F5 M5 z5 r5 ((g.trans g4).trans g5) rz5 h5
      · rw [if_neg hc'] at h2 ⊢
        exact k _ H3 F3 M3 _ r3 g (.d (.bl _)) h2
/-! ### arguments, displays -/
def SAn (K : PySem.W.Frag) (Wx : WX) (RE : REx) (n : Nat) (t : TA) (T : TDA) : Prop :=
  ∀ F H M σ ρ (R : List W → Mem → Prop) (Q : List V → Hp → Prop), Rl K F H M → XOk K F H M Wx RE → RelS K F σ ρ → T ρ M R → (∀ vs H' F' M' xs, Rl K F' H' M' → Gr F H M F' H' M' → RWs K F' vs xs → xs.length = n → R xs M' → Q vs H') → t σ H Q
@[reducible] def nilA : TDA := fun _ M R => R [] M
@[reducible] def consA (T : TDE) (U : TDA) : TDA := fun ρ M R => T ρ M fun x M1 => U ρ M1 fun xs M2 => R (x :: xs) M2
theorem sa_nil : SAn K Wx RE 0 tNil nilA := fun F H M σ ρ R Q hr hx hs ht k => k [] H F M [] hr .refl .nil rfl ht
theorem sa_cons {n : Nat} {t : TE} {u : TA} {T : TDE} {U : TDA} (ha : SE K Wx RE t T) (hb : SAn K Wx RE n u U) : SAn K Wx RE (n + 1) (tCons t u) (consA T U) := fun F H M σ ρ R Q hr hx hs ht k =>
  ha F H M σ ρ _ _ hr hx hs ht fun v H1 F1 M1 x r1 g1 rx h1 => hb F1 H1 M1 σ ρ _ _ r1 (hx.mono g1) (hs.mono g1.ff) h1 fun vs H2 F2 M2 xs r2 g2 rxs hl h2 =>
    k (v :: vs) H2 F2 M2 (x :: xs) r2 (g1.trans g2) (.cons (rx.mono g2.ff) rxs) (by rw [List.length_cons, hl]) h2
/-- all of them data -/
@[reducible] def gDs : List W → (List PyData → Prop) → Prop
  | [], k => k []
  | .d a :: r, k => gDs r fun ds => k (a :: ds)
  | _ :: _, _ => False
theorem gDs_of : ∀ {xs : List W} {k : List PyData → Prop}, gDs xs k → ∃ ds, xs = ds.map W.d ∧ k ds
  | [], k, h => ⟨[], rfl, h⟩
  | .d a :: r, k, h => by
    obtain ⟨ds, rfl, h2⟩ := gDs_of (xs := r) h
    exact ⟨a :: ds, rfl, h2⟩
  | .r _ :: _, _, h => h.elim
  | .o _ :: _, _, h => h.elim
  | .x _ _ _ _ :: _, _, h => h.elim
theorem gDs_map : ∀ {ds : List PyData} {k : List PyData → Prop}, gDs (ds.map W.d) k = k ds
  | [], _ => rfl
  | d :: ds, k => by
    rw [List.map_cons, gDs, gDs_map]
@[reducible] def tupT (T : TDA) : TDE := fun ρ M R => T ρ M fun xs M1 => gDs xs fun ds => R (.d (.tuple ds)) M1
@[reducible] def lsfT (T : TDA) : TDE := fun ρ M R => T ρ M fun xs M1 => gDs xs fun ds => R (.d (.list ds)) M1
@[reducible] def lstT (T : TDA) : TDE := fun ρ M R => T ρ M fun xs M1 => ∀ p, M1 p = none → R (.r p) (mset M1 p (.lst xs))
theorem se_tup {n : Nat} {t : TA} {T : TDA} (h : SAn K Wx RE n t T) (hn : n ≤ 1000 := by decide) : SE K Wx RE (tTup t) (tupT T) := fun F H M σ ρ R Q hr hx hs ht k =>
  h F H M σ ρ _ _ hr hx hs ht fun vs H1 F1 M1 xs r1 g1 rxs hl h1 => by
    obtain ⟨ds, rfl, h2⟩ := gDs_of h1
    refine ⟨by rw [rxs.len, hl]; exact sz1000 hn, fun p hp => ?_⟩
    obtain ⟨r2, g2, rz⟩ := r1.tup hp rxs.undat
    exact k _ _ _ _ _ r2 (g1.trans g2) rz h2
theorem se_lsf {n : Nat} {t : TA} {T : TDA} (h : SAn K Wx RE n t T) (hn : n ≤ 1000 := by decide) : SE K Wx RE (tLst t) (lsfT T) := fun F H M σ ρ R Q hr hx hs ht k =>
  h F H M σ ρ _ _ hr hx hs ht fun vs H1 F1 M1 xs r1 g1 rxs hl h1 => by
    obtain ⟨ds, rfl, h2⟩ := gDs_of h1
    refine ⟨by rw [rxs.len, hl]; exact sz1000 hn, fun p hp => ?_⟩
    obtain ⟨r2, g2, rz⟩ := r1.list hp rxs.undat
    exact k _ _ _ _ _ r2 (g1.trans g2) rz h2
theorem se_lst {n : Nat} {t : TA} {T : TDA} (h : SAn K Wx RE n t T) (hn : n ≤ 1000 := by decide) : SE K Wx RE (tLst t) (lstT T) := fun F H M σ ρ R Q hr hx hs ht k =>
  h F H M σ ρ _ _ hr hx hs ht fun vs H1 F1 M1 xs r1 g1 rxs hl h1 => by
    refine ⟨by rw [rxs.len, hl]; exact sz1000 hn, fun p hp => ?_⟩
    obtain ⟨r2, g2⟩ := r1.born (u := .lst vs) (o := .lst xs) hp ⟨vs, rfl, rxs⟩
    exact k _ _ _ _ _ r2 (g1.trans g2) (.r p) (h1 p (r1.new hp))
/-- whatever it is, a list that may change becomes data -/
@[reducible] def frT (T : TDE) : TDE := fun ρ M R => T ρ M fun x M1 => match x with
  | .r a => ∃ ds, M1 a = some (.lst (ds.map W.d)) ∧ R (.d (.list ds)) (mdel M1 a)
  | x => R x M1
theorem se_fr {t : TE} {T : TDE} (h : SE K Wx RE t T) : SE K Wx RE t (frT T) := fun F H M σ ρ R Q hr hx hs ht k =>
  h F H M σ ρ _ _ hr hx hs ht fun v H1 F1 M1 x r1 g1 rx h1 => by
    cases x with
    | d a => exact k v H1 F1 M1 _ r1 g1 rx h1
    | o a => exact k v H1 F1 M1 _ r1 g1 rx h1
    | x a C dd fs => exact k v H1 F1 M1 _ r1 g1 rx h1
    | r a =>
      obtain ⟨ds, h2, h3⟩ := h1
      obtain ⟨F2, r2, g2, d2⟩ := r1.freeze h2
      rw [rx.ref] at *
      exact k _ H1 F2 _ _ r2 (g1.trans g2) (.d d2) h3
/-! ### items -/
/-- the items of a list, data or not -/
@[reducible] def gW (M : Mem) (x : W) (k : List W → Prop) : Prop := match x with
  | .d (.list ds) => k (ds.map W.d)
  | .r a => ∃ ws, M a = some (.lst ws) ∧ k ws
  | _ => False
theorem gW_of {F H : Hp} {M : Mem} {v : V} {x : W} {k : List W → Prop} (hr : Rl K F H M) (r : RW K F v x) (h : gW M x k) : ∃ a vs ws, v = .ref a ∧ H a = some (.lst vs) ∧ RWs K F vs ws ∧ k ws := by
  unfold gW at h
  split at h
  · obtain ⟨a, xs, rfl, h1, h2⟩ := r.lst
    exact ⟨a, xs, _, rfl, hr.fh _ _ h1, .dat h2, h⟩
  · obtain ⟨ws, h1, h2⟩ := h
    obtain ⟨vs, h3, h4⟩ := hr.lst h1
    exact ⟨_, vs, ws, r.ref, h3, h4, h2⟩
  · exact h.elim
theorem atI_map {α β : Type} (f : α → β) (xs : List α) (i : Int) : atI (xs.map f) i = (atI xs i).map f := by
  unfold atI
  rw [List.length_map]
  cases ixN xs.length i with
  | none => rfl
  | some j => simp
theorem atI_rw {F : Hp} {vs : List V} {xs : List W} {i : Int} {x : W} (r : RWs K F vs xs) (h : atI xs i = some x) : ∃ v, atI vs i = some v ∧ RW K F v x := by
  unfold atI at h ⊢
  rw [r.len]
  cases c : ixN xs.length i with
  | none => rw [c] at h; cases h
  | some j => rw [c] at h; exact r.got h
theorem atI_dx {F : Hp} {vs : List V} {ds : List PyData} {i : Int} {d : PyData} (r : DxL K F vs ds) (h : atI ds i = some d) : ∃ v, atI vs i = some v ∧ Dx K F v d := by
  unfold atI at h ⊢
  rw [r.len]
  cases c : ixN ds.length i with
  | none => rw [c] at h; cases h
  | some j => rw [c] at h; exact r.got h
def gO {α : Type} (o : Option α) (k : α → Prop) : Prop := match o with | some a => k a | none => False
theorem gO_of {α : Type} {o : Option α} {k : α → Prop} (h : gO o k) : ∃ a, o = some a ∧ k a := by
  cases o with
  | none => exact h.elim
  | some a => exact ⟨a, rfl, h⟩
@[reducible] def fIxT : F2 := fun x y M R => gT x fun ds => gI y fun i => gO (atI ds i) fun d => R (.d d) M
@[reducible] def fIxL : F2 := fun x y M R => gW M x fun ws => gI y fun i => gO (atI ws i) fun w => R w M
@[reducible] def fIxS : F2 := fun x y M R => gS x fun z => gI y fun i => z.length ≤ sizeLine ∧ gO (atI z.cps.toList i) fun c => R (.d (.str ⟨#[c]⟩)) M
theorem so_ixT : SO K (rIxT K) fIxT := fun F H M v u x y R Q hr rx ry hf k => by
  obtain ⟨ds, rfl, h1⟩ := gT_of hf
  obtain ⟨i, rfl, h2⟩ := gI_of h1
  obtain ⟨d, h3, h4⟩ := gO_of h2
  obtain ⟨a, xs, rfl, h5, h6⟩ := rx.tup
  obtain ⟨w, h7, h8⟩ := atI_dx h6 h3
  exact ⟨a, xs, i, w, rfl, ry.int, same_t hr.fh h5, h7, k _ H F M _ hr .refl (.d h8) h4⟩
theorem so_ixL : SO K (rIxL K) fIxL := fun F H M v u x y R Q hr rx ry hf k => by
  obtain ⟨a, vs, ws, rfl, h1, h2, h3⟩ := gW_of hr rx hf
  obtain ⟨i, rfl, h4⟩ := gI_of h3
  obtain ⟨w, h5, h6⟩ := gO_of h4
  obtain ⟨u2, h7, h8⟩ := atI_rw h2 h5
  exact ⟨a, vs, i, u2, rfl, ry.int, SqL.of h1, h7, k _ H F M _ hr .refl h8 h6⟩
theorem so_ixS : SO K rIxS fIxS := fun F H M v u x y R Q hr rx ry hf k => by
  obtain ⟨z, rfl, h1⟩ := gS_of hf
  obtain ⟨i, rfl, hz, h2⟩ := gI_of h1
  obtain ⟨c, h3, h4⟩ := gO_of h2
  exact ⟨z, i, c, rx.str, ry.int, hz, h3, k _ H F M _ hr .refl (.d (.str _)) h4⟩
/-! ### slices -/
abbrev TDO := EnvD → Mem → (Option Int → Mem → Prop) → Prop
def SPt (K : PySem.W.Frag) (Wx : WX) (RE : REx) (t : TO) (T : TDO) : Prop :=
  ∀ F H M σ ρ (R : Option Int → Mem → Prop) (Q : Option Int → Hp → Prop), Rl K F H M → XOk K F H M Wx RE → RelS K F σ ρ → T ρ M R → (∀ o H' F' M', Rl K F' H' M' → Gr F H M F' H' M' → R o M' → Q o H') → t σ H Q
@[reducible] def noP : TDO := fun _ M R => R none M
@[reducible] def someP (T : TDE) : TDO := fun ρ M R => T ρ M fun x M1 => gI x fun i => R (some i) M1
theorem sp_no : SPt K Wx RE tNoPart noP := fun F H M σ ρ R Q hr hx hs ht k => k none H F M hr .refl ht
theorem sp_some {t : TE} {T : TDE} (h : SE K Wx RE t T) : SPt K Wx RE (tPart t) (someP T) := fun F H M σ ρ R Q hr hx hs ht k =>
  h F H M σ ρ _ _ hr hx hs ht fun v H1 F1 M1 x r1 g1 rx h1 => by
    obtain ⟨i, rfl, h2⟩ := gI_of h1
    exact ⟨i, rx.int, k _ H1 F1 M1 r1 g1 h2⟩
abbrev FSl := W → Option Int → Option Int → Mem → (W → Mem → Prop) → Prop
def SSl (K : PySem.W.Frag) (r : V → Option Int → Option Int → Hp → VK → Prop) (f : FSl) : Prop := ∀ F H M v x lo hi R Q, Rl K F H M → RW K F v x → f x lo hi M R → Kt K F H M R Q → r v lo hi H Q
@[reducible] def slT (f : FSl) (T : TDE) (Tl Th : TDO) : TDE := fun ρ M R => T ρ M fun x M1 => Tl ρ M1 fun lo M2 => Th ρ M2 fun hi M3 => f x lo hi M3 R
theorem se_sl {r : V → Option Int → Option Int → Hp → VK → Prop} {f : FSl} {te : TE} {tl th : TO} {T : TDE} {Tl Th : TDO} (ho : SSl K r f) (he : SE K Wx RE te T) (hl : SPt K Wx RE tl Tl) (hh : SPt K Wx RE th Th) : SE K Wx RE (tSl r te tl th) (slT f T Tl Th) := fun F H M σ ρ R Q hr hx hs ht k =>
  he F H M σ ρ _ _ hr hx hs ht fun v H1 F1 M1 x r1 g1 rx h1 => hl F1 H1 M1 σ ρ _ _ r1 (hx.mono g1) (hs.mono g1.ff) h1 fun lo H2 F2 M2 r2 g2 h2 =>
    hh F2 H2 M2 σ ρ _ _ r2 (hx.mono (g1.trans g2)) (hs.mono (g1.trans g2).ff) h2 fun hi H3 F3 M3 r3 g3 h3 =>
      ho F3 H3 M3 v x lo hi R Q r3 (rx.mono (g2.trans g3).ff) h3 fun w H4 F4 M4 z r4 g4 rz hz => k w H4 F4 M4 z r4 (((g1.trans g2).trans g3).trans g4) rz hz
def cut {α : Type} (xs : List α) (lo hi : Option Int) : List α := (xs.drop (HT.sIx xs.length 0 lo)).take (HT.sIx xs.length xs.length hi - HT.sIx xs.length 0 lo)
theorem cut_dx {F : Hp} {vs : List V} {ds : List PyData} {lo hi : Option Int} (r : DxL K F vs ds) : DxL K F (cutV vs lo hi) (cut ds lo hi) := by
  unfold cutV cut
  rw [r.len]
  exact (r.drop _).take _
theorem cut_rw {F : Hp} {vs : List V} {ds : List W} {lo hi : Option Int} (r : RWs K F vs ds) : RWs K F (cutV vs lo hi) (cut ds lo hi) := by
  unfold cutV cut
  rw [r.len]
  exact (r.drop _).take _
theorem cut_whole {α : Type} {xs : List α} {lo hi : Option Int} (h : HT.sIx xs.length 0 lo = 0 ∧ HT.sIx xs.length xs.length hi = xs.length) : cut xs lo hi = xs := by
  unfold cut
  rw [h.1, h.2, List.drop_zero, Nat.sub_zero, List.take_length]
theorem cut_map {α β : Type} (f : α → β) (xs : List α) (lo hi : Option Int) : cut (xs.map f) lo hi = (cut xs lo hi).map f := by
  unfold cut
  rw [List.length_map, List.map_take, List.map_drop]
@[reducible] def fSlT : FSl := fun x lo hi M R => gT x fun ds => R (.d (.tuple (cut ds lo hi))) M
theorem sl_T : SSl K (rSlA K) fSlT := fun F H M v x lo hi R Q hr rx hf k => by
  obtain ⟨ds, rfl, h1⟩ := gT_of hf
  obtain ⟨a, xs, rfl, h2, h3⟩ := rx.tup
  refine ⟨a, xs, rfl, same_t hr.fh h2, fun hw => ?_, fun _ p hp => ?_⟩
  · rw [h3.len] at hw
    rw [cut_whole hw] at h1
    exact k _ H F M _ hr .refl rx h1
  · obtain ⟨r2, g2, rz⟩ := hr.tup hp (cut_dx (lo := lo) (hi := hi) h3)
    exact k _ _ _ _ _ r2 g2 rz h1
/-- a slice of a list: data -/
@[reducible] def fSlF : FSl := fun x lo hi M R => gW M x fun ws => gDs ws fun ds => R (.d (.list (cut ds lo hi))) M
theorem sl_F : SSl K (rSlL K) fSlF := fun F H M v x lo hi R Q hr rx hf k => by
  obtain ⟨a, vs, ws, rfl, h1, h2, h3⟩ := gW_of hr rx hf
  obtain ⟨ds, rfl, h4⟩ := gDs_of h3
  refine ⟨a, vs, rfl, SqL.of h1, fun p hp => ?_⟩
  obtain ⟨r2, g2, rz⟩ := hr.list hp (cut_dx (lo := lo) (hi := hi) h2.undat)
  exact k _ _ _ _ _ r2 g2 rz h4
/-- a slice of a list: a list that may change -/
@[reducible] def fSlL : FSl := fun x lo hi M R => gW M x fun ws => ∀ p, M p = none → R (.r p) (mset M p (.lst (cut ws lo hi)))
theorem sl_L : SSl K (rSlL K) fSlL := fun F H M v x lo hi R Q hr rx hf k => by
  obtain ⟨a, vs, ws, rfl, h1, h2, h3⟩ := gW_of hr rx hf
  refine ⟨a, vs, rfl, SqL.of h1, fun p hp => ?_⟩
  obtain ⟨r2, g2⟩ := hr.born (u := .lst (cutV vs lo hi)) (o := .lst (cut ws lo hi)) hp ⟨_, rfl, cut_rw h2⟩
  exact k _ _ _ _ _ r2 g2 (.r p) (h3 p (hr.new hp))
@[reducible] def fSlS : FSl := fun x lo hi M R => gS x fun z => z.length ≤ sizeLine ∧ R (.d (.str (cutS z lo hi))) M
theorem sl_S : SSl K rSlS fSlS := fun F H M v x lo hi R Q hr rx hf k => by
  obtain ⟨z, rfl, hz, h1⟩ := gS_of hf
  exact ⟨z, rx.str, hz, k _ H F M _ hr .refl (.d (.str _)) h1⟩
@[reducible] def rvF (T : TDE) : TDE := fun ρ M R => T ρ M fun x M1 => gW M1 x fun ws => gDs ws fun ds => R (.d (.list ds.reverse)) M1
theorem se_rvF {t : TE} {T : TDE} (h : SE K Wx RE t T) : SE K Wx RE (tRevL K t) (rvF T) := fun F H M σ ρ R Q hr hx hs ht k =>
  h F H M σ ρ _ _ hr hx hs ht fun v H1 F1 M1 x r1 g1 rx h1 => by
    obtain ⟨a, vs, ws, rfl, h2, h3, h4⟩ := gW_of r1 rx h1
    obtain ⟨ds, rfl, h5⟩ := gDs_of h4
    refine ⟨a, vs, rfl, SqL.of h2, fun p hp => ?_⟩
    obtain ⟨r2, g2, rz⟩ := r1.list hp h3.undat.rev
    exact k _ _ _ _ _ r2 (g1.trans g2) rz h5
/-! ### + and * of rows -/
@[reducible] def fCatT : F2 := fun x y M R => gT x fun a => gT y fun b => a.length + b.length ≤ sizeLine ∧ R (.d (.tuple (a ++ b))) M
theorem so_catT : SO K (rCatA K) fCatT := fun F H M v u x y R Q hr rx ry hf k => by
  obtain ⟨a, rfl, h1⟩ := gT_of hf
  obtain ⟨b, rfl, hz, h2⟩ := gT_of h1
  obtain ⟨p, xs, rfl, h3, h4⟩ := rx.tup
  obtain ⟨q, ys, rfl, h5, h6⟩ := ry.tup
  refine ⟨p, q, xs, ys, rfl, rfl, same_t hr.fh h3, same_t hr.fh h5, by rw [h4.len, h6.len]; exact hz, fun e => ?_, fun _ e => ?_, fun _ _ t ht => ?_⟩
  · have ea : a = [] := by
      apply List.eq_nil_of_length_eq_zero
      rw [← h4.len, e]
      rfl
    subst ea
    exact k _ H F M _ hr .refl ry h2
  · have eb : b = [] := by
      apply List.eq_nil_of_length_eq_zero
      rw [← h6.len, e]
      rfl
    subst eb
    rw [List.append_nil] at h2
    exact k _ H F M _ hr .refl rx h2
  · obtain ⟨r2, g2, rz⟩ := hr.tup ht (h4.app h6)
    exact k _ _ _ _ _ r2 g2 rz h2
/-- list + list: data -/
@[reducible] def fCatF : F2 := fun x y M R => gW M x fun a => gW M y fun b => gDs a fun a => gDs b fun b => a.length + b.length ≤ sizeLine ∧ R (.d (.list (a ++ b))) M
theorem so_catF : SO K rCat fCatF := fun F H M v u x y R Q hr rx ry hf k => by
  obtain ⟨p, vs, ws, rfl, h1, h2, h3⟩ := gW_of hr rx hf
  obtain ⟨q, us, zs, rfl, h4, h5, h6⟩ := gW_of hr ry h3
  obtain ⟨a, rfl, h7⟩ := gDs_of h6
  obtain ⟨b, rfl, hz, h8⟩ := gDs_of h7
  refine ⟨p, q, vs, us, rfl, rfl, h1, h4, by rw [h2.len, h5.len, List.length_map, List.length_map]; exact hz, fun t ht => ?_⟩
  obtain ⟨r2, g2, rz⟩ := hr.list ht (h2.undat.app h5.undat)
  exact k _ _ _ _ _ r2 g2 rz h8
@[reducible] def fCatL : F2 := fun x y M R => gW M x fun a => gW M y fun b => a.length + b.length ≤ sizeLine ∧ ∀ p, M p = none → R (.r p) (mset M p (.lst (a ++ b)))
theorem so_catL : SO K rCat fCatL := fun F H M v u x y R Q hr rx ry hf k => by
  obtain ⟨p, vs, ws, rfl, h1, h2, h3⟩ := gW_of hr rx hf
  obtain ⟨q, us, zs, rfl, h4, h5, hz, h6⟩ := gW_of hr ry h3
  refine ⟨p, q, vs, us, rfl, rfl, h1, h4, by rw [h2.len, h5.len]; exact hz, fun t ht => ?_⟩
  obtain ⟨r2, g2⟩ := hr.born (u := .lst (vs ++ us)) (o := .lst (ws ++ zs)) ht ⟨_, rfl, h2.app h5⟩
  exact k _ _ _ _ _ r2 g2 (.r t) (h6 t (hr.new ht))
@[reducible] def fRepT : F2 := fun x y M R => gT x fun a => gI y fun n => (0 ≤ n ∧ n ≤ 1000 ∧ a.length ≤ 1000) ∧ R (.d (.tuple (List.replicate n.toNat a).flatten)) M
theorem so_repT : SO K (rRepA K) fRepT := fun F H M v u x y R Q hr rx ry hf k => by
  obtain ⟨a, rfl, h1⟩ := gT_of hf
  obtain ⟨n, rfl, ⟨c1, c2, c3⟩, h2⟩ := gI_of h1
  obtain ⟨p, xs, rfl, h3, h4⟩ := rx.tup
  refine ⟨p, n, xs, rfl, ry.int, same_t hr.fh h3, c1, c2, by rw [h4.len]; exact c3, fun e => ?_, fun _ t ht => ?_⟩
  · have ea : (List.replicate n.toNat a).flatten = a := by
      rcases e with e | e
      · have : a = [] := by
          apply List.eq_nil_of_length_eq_zero
          rw [← h4.len, e]
          rfl
        subst this
        simp
      · subst e
        simp
    rw [ea] at h2
    exact k _ H F M _ hr .refl rx h2
  · obtain ⟨r2, g2, rz⟩ := hr.tup ht (h4.rep n.toNat)
    exact k _ _ _ _ _ r2 g2 rz h2
end
end Tl

set_option Elab.async false
set_option linter.all false
set_option maxRecDepth 100000
set_option maxHeartbeats 4000000
namespace Tl
open PySem L2
section
variable {K : PySem.W.Frag} {Wx : WX} {RE : REx}
/-! ### built-in calls -/
@[reducible] def cbT (f : FL) (T : TDA) : TDE := fun ρ M R => T ρ M fun xs M1 => f xs M1 R
theorem se_cb {n : Nat} {r : List V → Hp → VK → Prop} {f : FL} {t : TA} {T : TDA} (ho : SC K r f) (h : SAn K Wx RE n t T) : SE K Wx RE (tCB r t) (cbT f T) := fun F H M σ ρ R Q hr hx hs ht k =>
  h F H M σ ρ _ _ hr hx hs ht fun vs H1 F1 M1 xs r1 g1 rxs hl h1 => ho F1 H1 M1 vs xs R Q r1 rxs h1 fun w H2 F2 M2 z r2 g2 rz hz => k w H2 F2 M2 z r2 (g1.trans g2) rz hz
@[reducible] def g1 (xs : List W) (k : W → Prop) : Prop := match xs with | [x] => k x | _ => False
@[reducible] def g2 (xs : List W) (k : W → W → Prop) : Prop := match xs with | [x, y] => k x y | _ => False
theorem g1_of {xs : List W} {k : W → Prop} (h : g1 xs k) : ∃ x, xs = [x] ∧ k x := by
  unfold g1 at h
  split at h
  · exact ⟨_, rfl, h⟩
  · exact h.elim
theorem g2_of {xs : List W} {k : W → W → Prop} (h : g2 xs k) : ∃ x y, xs = [x, y] ∧ k x y := by
  unfold g2 at h
  split at h
  · exact ⟨_, _, rfl, h⟩
  · exact h.elim
theorem RWs.one {F : Hp} {vs : List V} {x : W} (r : RWs K F vs [x]) : ∃ v, vs = [v] ∧ RW K F v x := by
  cases r with
  | cons a b => cases b; exact ⟨_, rfl, a⟩
theorem RWs.two {F : Hp} {vs : List V} {x y : W} (r : RWs K F vs [x, y]) : ∃ v u, vs = [v, u] ∧ RW K F v x ∧ RW K F u y := by
  cases r with
  | cons a b => cases b with | cons b c => cases c; exact ⟨_, _, rfl, a, b⟩
/-- the length of a row -/
@[reducible] def fLen : FL := fun xs M R => g1 xs fun x => match x with
  | .d (.tuple ds) => R (.d (.int ds.length)) M
  | x => gW M x fun ws => R (.d (.int ws.length)) M
theorem sc_len : SC K (fun xs H Q => ∃ p ys, xs = [V.ref p] ∧ (SqL K H p ys ∨ SqT K H p ys) ∧ Q (.int ys.length) H) fLen := fun F H M vs xs R Q hr rx hf k => by
  obtain ⟨x, rfl, h1⟩ := g1_of hf
  obtain ⟨v, rfl, r⟩ := rx.one
  have hw : (∀ ds, x ≠ .d (.tuple ds)) → gW M x (fun ws => R (.d (.int ws.length)) M) := fun hn => by
    cases x with
    | d a =>
      cases a with
      | tuple ds => exact absurd rfl (hn ds)
      | _ => exact h1
    | r a => exact h1
    | o a => exact h1
    | x a C dd fs => exact h1
  by_cases c : ∃ ds, x = .d (.tuple ds)
  · obtain ⟨ds, rfl⟩ := c
    obtain ⟨a, xs, rfl, h2, h3⟩ := r.tup
    refine ⟨a, xs, rfl, .inr (same_t hr.fh h2), ?_⟩
    rw [h3.len]
    exact k _ H F M _ hr .refl (.d (.int _)) h1
  · obtain ⟨a, us, ws, rfl, h2, h3, h4⟩ := gW_of hr r (hw fun ds e => c ⟨ds, e⟩)
    refine ⟨a, us, rfl, .inl (SqL.of h2), ?_⟩
    rw [h3.len]
    exact k _ H F M _ hr .refl (.d (.int _)) h4
@[reducible] def fLenS : FL := fun xs M R => g1 xs fun x => gS x fun z => z.length ≤ sizeLine ∧ R (.d (.int z.length)) M
theorem sc_lenS : SC K (fun xs H Q => ∃ z, xs = [V.str z] ∧ z.length ≤ sizeLine ∧ Q (.int z.length) H) fLenS := fun F H M vs xs R Q hr rx hf k => by
  obtain ⟨x, rfl, h1⟩ := g1_of hf
  obtain ⟨v, rfl, r⟩ := rx.one
  obtain ⟨z, rfl, hz, h2⟩ := gS_of h1
  exact ⟨z, by rw [r.str], hz, k _ H F M _ hr .refl (.d (.int _)) h2⟩
/-- all truths -/
@[reducible] def gBs : List W → (List Bool → Prop) → Prop
  | [], k => k []
  | x :: r, k => gB x fun b => gBs r fun bs => k (b :: bs)
@[reducible] def gIs : List W → (List Int → Prop) → Prop
  | [], k => k []
  | x :: r, k => gI x fun b => gIs r fun bs => k (b :: bs)
@[reducible] def gSs : List W → (List Str → Prop) → Prop
  | [], k => k []
  | x :: r, k => gS x fun b => gSs r fun bs => k (b :: bs)
theorem gBs_of : ∀ {xs : List W} {k : List Bool → Prop}, gBs xs k → ∃ bs : List Bool, xs = bs.map (fun b => W.d (.bool b)) ∧ k bs
  | [], k, h => ⟨[], rfl, h⟩
  | x :: r, k, h => by
    obtain ⟨b, rfl, h1⟩ := gB_of h
    obtain ⟨bs, rfl, h2⟩ := gBs_of h1
    exact ⟨b :: bs, rfl, h2⟩
theorem gIs_of : ∀ {xs : List W} {k : List Int → Prop}, gIs xs k → ∃ bs : List Int, xs = bs.map (fun b => W.d (.int b)) ∧ k bs
  | [], k, h => ⟨[], rfl, h⟩
  | x :: r, k, h => by
    obtain ⟨b, rfl, h1⟩ := gI_of h
    obtain ⟨bs, rfl, h2⟩ := gIs_of h1
    exact ⟨b :: bs, rfl, h2⟩
theorem gSs_of : ∀ {xs : List W} {k : List Str → Prop}, gSs xs k → ∃ bs : List Str, xs = bs.map (fun b => W.d (.str b)) ∧ k bs
  | [], k, h => ⟨[], rfl, h⟩
  | x :: r, k, h => by
    obtain ⟨b, rfl, h1⟩ := gS_of h
    obtain ⟨bs, rfl, h2⟩ := gSs_of h1
    exact ⟨b :: bs, rfl, h2⟩
theorem gBs_map {α : Type} (g : α → Bool) : ∀ {xs : List α} {k : List Bool → Prop}, gBs (xs.map fun a => W.d (.bool (g a))) k = k (xs.map g)
  | [], k => rfl
  | x :: r, k => by
    show gBs (r.map fun a => W.d (.bool (g a))) (fun bs => k (g x :: bs)) = k (g x :: r.map g)
    rw [gBs_map]
theorem gIs_map {α : Type} (g : α → Int) : ∀ {xs : List α} {k : List Int → Prop}, gIs (xs.map fun a => W.d (.int (g a))) k = k (xs.map g)
  | [], k => rfl
  | x :: r, k => by
    show gIs (r.map fun a => W.d (.int (g a))) (fun bs => k (g x :: bs)) = k (g x :: r.map g)
    rw [gIs_map]
theorem gSs_map {α : Type} (g : α → Str) : ∀ {xs : List α} {k : List Str → Prop}, gSs (xs.map fun a => W.d (.str (g a))) k = k (xs.map g)
  | [], k => rfl
  | x :: r, k => by
    show gSs (r.map fun a => W.d (.str (g a))) (fun bs => k (g x :: bs)) = k (g x :: r.map g)
    rw [gSs_map]
theorem rws_bl {F : Hp} : ∀ {bs : List Bool} {vs : List V}, RWs K F vs (bs.map fun b => W.d (.bool b)) → vs = bs.map V.bl
  | [], _, h => by cases h; rfl
  | b :: bs, _, h => by
    cases h with
    | cons a c => rw [rws_bl c, a.bl]; rfl
theorem rws_int {F : Hp} : ∀ {bs : List Int} {vs : List V}, RWs K F vs (bs.map fun b => W.d (.int b)) → vs = bs.map V.int
  | [], _, h => by cases h; rfl
  | b :: bs, _, h => by
    cases h with
    | cons a c => rw [rws_int c, a.int]; rfl
theorem rws_str {F : Hp} : ∀ {bs : List Str} {vs : List V}, RWs K F vs (bs.map fun b => W.d (.str b)) → vs = bs.map V.str
  | [], _, h => by cases h; rfl
  | b :: bs, _, h => by
    cases h with
    | cons a c => rw [rws_str c, a.str]; rfl
@[reducible] def fAll : FL := fun xs M R => g1 xs fun x => gW M x fun ws => gBs ws fun bs => R (.d (.bool (bs.all id))) M
theorem sc_all : SC K (rAll K) fAll := fun F H M vs xs R Q hr rx hf k => by
  obtain ⟨x, rfl, h1⟩ := g1_of hf
  obtain ⟨v, rfl, r⟩ := rx.one
  obtain ⟨a, us, ws, rfl, h2, h3, h4⟩ := gW_of hr r h1
  obtain ⟨bs, rfl, h5⟩ := gBs_of h4
  refine ⟨a, bs, rfl, ?_, k _ H F M _ hr .refl (.d (.bl _)) h5⟩
  rw [← rws_bl h3]
  exact SqL.of h2
@[reducible] def fSum : FL := fun xs M R => g1 xs fun x => gW M x fun ws => gIs ws fun bs => R (.d (.int bs.sum)) M
theorem sc_sum : SC K (rSum K) fSum := fun F H M vs xs R Q hr rx hf k => by
  obtain ⟨x, rfl, h1⟩ := g1_of hf
  obtain ⟨v, rfl, r⟩ := rx.one
  obtain ⟨a, us, ws, rfl, h2, h3, h4⟩ := gW_of hr r h1
  obtain ⟨bs, rfl, h5⟩ := gIs_of h4
  refine ⟨a, bs, rfl, ?_, k _ H F M _ hr .refl (.d (.int _)) h5⟩
  rw [← rws_int h3]
  exact SqL.of h2
/-- the greatest of some numbers -/
def mxI : List Int → Int
  | [] => 0
  | [x] => x
  | x :: r => max x (mxI r)
theorem mxI_mem : ∀ {l : List Int}, l ≠ [] → mxI l ∈ l ∧ ∀ y ∈ l, y ≤ mxI l
  | [], h => absurd rfl h
  | [x], _ => ⟨List.mem_singleton.mpr rfl, fun y hy => by rw [List.mem_singleton.mp hy]; exact Int.le_refl _⟩
  | x :: z :: r, _ => by
    obtain ⟨h1, h2⟩ := mxI_mem (l := z :: r) (by simp)
    have e : mxI (x :: z :: r) = max x (mxI (z :: r)) := rfl
    rw [e]
    constructor
    · rcases Int.le_total x (mxI (z :: r)) with c | c
      · rw [Int.max_eq_right c]; exact List.mem_cons_of_mem _ h1
      · rw [Int.max_eq_left c]; exact List.mem_cons_self
    · intro y hy
      rcases List.mem_cons.mp hy with rfl | hy
      · exact Int.le_max_left _ _
      · exact Int.le_trans (h2 y hy) (Int.le_max_right _ _)
theorem mxI_eq {l : List Int} {m : Int} (h1 : m ∈ l) (h2 : ∀ y ∈ l, y ≤ m) : mxI l = m := by
  obtain ⟨a, b⟩ := mxI_mem (l := l) (List.ne_nil_of_mem h1)
  exact Int.le_antisymm (h2 _ a) (b _ h1)
@[reducible] def fMax : FL := fun xs M R => g1 xs fun x => gW M x fun ws => gIs ws fun bs => 0 < bs.length ∧ R (.d (.int (mxI bs))) M
theorem sc_max : SC K (rMax K) fMax := fun F H M vs xs R Q hr rx hf k => by
  obtain ⟨x, rfl, h1⟩ := g1_of hf
  obtain ⟨v, rfl, r⟩ := rx.one
  obtain ⟨a, us, ws, rfl, h2, h3, h4⟩ := gW_of hr r h1
  obtain ⟨bs, rfl, h0, h5⟩ := gIs_of h4
  refine ⟨a, bs, rfl, ?_, h0, fun m m1 m2 => ?_⟩
  · rw [← rws_int h3]
    exact SqL.of h2
  · rw [mxI_eq m1 m2] at h5
    exact k _ H F M _ hr .refl (.d (.int _)) h5
@[reducible] def fMax2 : FL := fun xs M R => g2 xs fun x y => gI x fun i => gI y fun j => R (.d (.int (if j > i then j else i))) M
theorem sc_max2 : SC K (fun xs H Q => ∃ i j, xs = [V.int i, .int j] ∧ Q (.int (if j > i then j else i)) H) fMax2 := fun F H M vs xs R Q hr rx hf k => by
  obtain ⟨x, y, rfl, h1⟩ := g2_of hf
  obtain ⟨v, u, rfl, r, r'⟩ := rx.two
  obtain ⟨i, rfl, h2⟩ := gI_of h1
  obtain ⟨j, rfl, h3⟩ := gI_of h2
  exact ⟨i, j, by rw [r.int, r'.int], k _ H F M _ hr .refl (.d (.int _)) h3⟩
/-- max(.., default=..) -/
@[reducible] def ckT (f : List W → List W → Mem → (W → Mem → Prop) → Prop) (T U : TDA) : TDE := fun ρ M R => T ρ M fun xs M1 => U ρ M1 fun ys M2 => f xs ys M2 R
@[reducible] def fMaxD : List W → List W → Mem → (W → Mem → Prop) → Prop := fun xs ys M R => g1 xs fun x => g1 ys fun y => gI y fun d => gW M x fun ws => gIs ws fun bs => R (.d (.int (if bs.length = 0 then d else mxI bs))) M
/-- tuple(..) -/
@[reducible] def fTuple : FL := fun xs M R => g1 xs fun x => match x with
  | .d (.tuple ds) => R (.d (.tuple ds)) M
  | x => gW M x fun ws => gDs ws fun ds => R (.d (.tuple ds)) M
theorem sc_tuple : SC K (fun xs H Q => ∃ p ys, xs = [V.ref p] ∧ ((SqL K H p ys ∧ ∀ l, H l = none → Q (.ref l) (upd H l (.tup ys))) ∨ (SqT K H p ys ∧ Q (.ref p) H))) fTuple := fun F H M vs xs R Q hr rx hf k => by
  obtain ⟨x, rfl, h1⟩ := g1_of hf
  obtain ⟨v, rfl, r⟩ := rx.one
  have hw : (∀ ds, x ≠ .d (.tuple ds)) → gW M x (fun ws => gDs ws fun ds => R (.d (.tuple ds)) M) := fun hn => by
    cases x with
    | d a =>
      cases a with
      | tuple ds => exact absurd rfl (hn ds)
      | _ => exact h1
    | r a => exact h1
    | o a => exact h1
    | x a C dd fs => exact h1
  by_cases c : ∃ ds, x = .d (.tuple ds)
  · obtain ⟨ds, rfl⟩ := c
    obtain ⟨a, xs, rfl, h2, h3⟩ := r.tup
    exact ⟨a, xs, rfl, .inr ⟨same_t hr.fh h2, k _ H F M _ hr .refl r h1⟩⟩
  · obtain ⟨a, us, ws, rfl, h2, h3, h4⟩ := gW_of hr r (hw fun ds e => c ⟨ds, e⟩)
    obtain ⟨ds, rfl, h5⟩ := gDs_of h4
    refine ⟨a, us, rfl, .inl ⟨SqL.of h2, fun l hl => ?_⟩⟩
    obtain ⟨r2, g2, rz⟩ := hr.tup hl h3.undat
    exact k _ _ _ _ _ r2 g2 rz h5
/-- the items of a row as data -/
@[reducible] def gRow (M : Mem) (x : W) (k : List W → Prop) : Prop := match x with
  | .d (.tuple ds) => k (ds.map W.d)
  | x => gW M x k
theorem gRow_of {F H : Hp} {M : Mem} {v : V} {x : W} {k : List W → Prop} (hr : Rl K F H M) (r : RW K F v x) (h : gRow M x k) : ∃ a vs ws, v = .ref a ∧ (SqL K H a vs ∨ SqT K H a vs) ∧ RWs K F vs ws ∧ k ws := by
  unfold gRow at h
  split at h
  · obtain ⟨a, xs, rfl, h1, h2⟩ := r.tup
    exact ⟨a, xs, _, rfl, .inr (same_t hr.fh h1), .dat h2, h⟩
  · obtain ⟨a, vs, ws, h1, h2, h3, h4⟩ := gW_of hr r h
    exact ⟨a, vs, ws, h1, .inl (SqL.of h2), h3, h4⟩
/-- list(..): data; or a list that may change -/
@[reducible] def fListF : FL := fun xs M R => g1 xs fun x => gRow M x fun ws => gDs ws fun ds => R (.d (.list ds)) M
@[reducible] def fListL : FL := fun xs M R => g1 xs fun x => gRow M x fun ws => ∀ p, M p = none → R (.r p) (mset M p (.lst ws))
theorem sc_listF : SC K (fun xs H Q => ∃ p ys, xs = [V.ref p] ∧ (SqL K H p ys ∨ SqT K H p ys) ∧ ∀ l, H l = none → Q (.ref l) (upd H l (.lst ys))) fListF := fun F H M vs xs R Q hr rx hf k => by
  obtain ⟨x, rfl, h1⟩ := g1_of hf
  obtain ⟨v, rfl, r⟩ := rx.one
  obtain ⟨a, us, ws, rfl, h2, h3, h4⟩ := gRow_of hr r h1
  obtain ⟨ds, rfl, h5⟩ := gDs_of h4
  refine ⟨a, us, rfl, h2, fun l hl => ?_⟩
  obtain ⟨r2, g2, rz⟩ := hr.list hl h3.undat
  exact k _ _ _ _ _ r2 g2 rz h5
theorem sc_listL : SC K (fun xs H Q => ∃ p ys, xs = [V.ref p] ∧ (SqL K H p ys ∨ SqT K H p ys) ∧ ∀ l, H l = none → Q (.ref l) (upd H l (.lst ys))) fListL := fun F H M vs xs R Q hr rx hf k => by
  obtain ⟨x, rfl, h1⟩ := g1_of hf
  obtain ⟨v, rfl, r⟩ := rx.one
  obtain ⟨a, us, ws, rfl, h2, h3, h4⟩ := gRow_of hr r h1
  refine ⟨a, us, rfl, h2, fun l hl => ?_⟩
  obtain ⟨r2, g2⟩ := hr.born (u := .lst us) (o := .lst ws) hl ⟨_, rfl, h3⟩
  exact k _ _ _ _ _ r2 g2 (.r l) (h4 l (hr.new hl))
@[reducible] def fInt : FL := fun xs M R => g1 xs fun x => match x with
  | .d (.bool b) => R (.d (.int (if b then 1 else 0))) M
  | x => gI x fun i => R (.d (.int i)) M
theorem sc_int : SC K (fun xs H Q => (∃ i, xs = [V.int i] ∧ Q (.int i) H) ∨ ∃ k, xs = [.bl k] ∧ Q (.int (if k then 1 else 0)) H) fInt := fun F H M vs xs R Q hr rx hf k => by
  obtain ⟨x, rfl, h1⟩ := g1_of hf
  obtain ⟨v, rfl, r⟩ := rx.one
  have hw : (∀ b, x ≠ .d (.bool b)) → gI x (fun i => R (.d (.int i)) M) := fun hn => by
    cases x with
    | d a =>
      cases a with
      | bool b => exact absurd rfl (hn b)
      | _ => exact h1
    | r a => exact h1
    | o a => exact h1
    | x a C dd fs => exact h1
  by_cases c : ∃ b, x = .d (.bool b)
  · obtain ⟨b, rfl⟩ := c
    exact .inr ⟨b, by rw [r.bl], k _ H F M _ hr .refl (.d (.int _)) h1⟩
  · obtain ⟨i, rfl, h2⟩ := gI_of (hw fun b e => c ⟨b, e⟩)
    exact .inl ⟨i, by rw [r.int], k _ H F M _ hr .refl (.d (.int _)) h2⟩
/-- repr: the text of data -/
def shOk (d : PyData) : Prop := d.showable = true ∧ d.depth ≤ 100 ∧ d.shown.length ≤ sizeLine
def isList : PyData → Bool
  | .list _ => true
  | _ => false
/-! ### isinstance -/
def tyIs (d : PyData) (n : String) : Option Bool :=
  if n = "int" then some (isInt d) else if n = "bool" then some (isBl d) else if n = "str" then some (isStr d) else if n = "tuple" then some (isTup d) else if n = "list" then some (isList d) else none
theorem kit_lst (d : PyData) : kitB (tyName d) "list" = some (isList d) := by cases d <;> (simp only [tyName, isList]; decide +kernel)
theorem tyIs_kit {d : PyData} {n : String} {b : Bool} (h : tyIs d n = some b) : kitB (tyName d) n = some b := by
  unfold tyIs at h
  split at h
  · rename_i e; subst e; rw [← h]; exact kit_int d
  · split at h
    · rename_i e; subst e; rw [← h]; exact kit_bl d
    · split at h
      · rename_i e; subst e; rw [← h]; exact kit_str d
      · split at h
        · rename_i e; subst e; rw [← h]; exact kit_tup d
        · split at h
          · rename_i e; subst e; rw [← h]; exact kit_lst d
          · cases h
theorem ty_dx {H : Hp} {v : V} {d : PyData} (h : Dx K H v d) : TyX K H v (.type (tyName d)) := by
  cases h with
  | non => exact .base .non
  | bl b => exact .base (.bl b)
  | int i => exact .base (.int i)
  | str x => exact .base (.str x)
  | lst hs _ => exact .base (.lst hs)
  | tup hs _ =>
    rcases hs with (h | ⟨o, h⟩) | ⟨o, its, n, h1, h2, _⟩
    · exact .base (.tup h)
    · exact .fTuple h
    · exact .kTuple h1 h2
  | dic h => exact .base (.dK h)
@[reducible] def fIsi : FL := fun xs M R => g2 xs fun x y => match y with
  | .o (.ty n) => (match x with
    | .d a => gO (tyIs a n) fun b => R (.d (.bool b)) M
    | .r a => ∃ ws, M a = some (.lst ws) ∧ gO (tyIs (.list []) n) fun b => R (.d (.bool b)) M
    | _ => False)
  | _ => False
theorem sc_isi : SC K (rIsi K) fIsi := fun F H M vs xs R Q hr rx hf k => by
  obtain ⟨x, y, rfl, h1⟩ := g2_of hf
  obtain ⟨v, u, rfl, r, r'⟩ := rx.two
  cases y with
  | d a => exact h1.elim
  | r a => exact h1.elim
  | x a C dd fs => exact h1.elim
  | o z =>
    cases r'
    cases u with
    | ty n =>
      cases x with
      | o a => exact h1.elim
      | x a C dd fs => exact h1.elim
      | d a =>
        obtain ⟨b, h2, h3⟩ := gO_of h1
        exact ⟨v, .ty n, _, _, b, rfl, .ty n, ty_dx (Dx.mono hr.fh _ _ r.dx), kit_ty (tyIs_kit h2), k _ H F M _ hr .refl (.d (.bl _)) h3⟩
      | r a =>
        obtain ⟨ws, h0, h2⟩ := h1
        obtain ⟨b, h3, h4⟩ := gO_of h2
        obtain ⟨us, h5, h6⟩ := hr.lst h0
        rw [r.ref]
        have hk : kitB "list" n = some b := tyIs_kit (d := .list []) h3
        exact ⟨.ref a, .ty n, .type "list", _, b, rfl, .ty n, .base (.lst h5), kit_ty hk, k _ H F M _ hr .refl (.d (.bl _)) h4⟩
    | _ => exact h1.elim
/-! ### methods of a list that may change -/
@[reducible] def bmT (f : W → List W → Mem → (W → Mem → Prop) → Prop) (T : TDE) (U : TDA) : TDE := fun ρ M R => T ρ M fun x M1 => U ρ M1 fun xs M2 => f x xs M2 R
/-- a method of a list -/
def SM (K : PySem.W.Frag) (r : V → List V → Hp → VK → Prop) (f : W → List W → Mem → (W → Mem → Prop) → Prop) : Prop := ∀ F H M v vs x xs R Q, Rl K F H M → RW K F v x → RWs K F vs xs → f x xs M R → Kt K F H M R Q → r v vs H Q
@[reducible] def bmL (f : W → List W → Mem → (W → Mem → Prop) → Prop) (T : TDE) (U : TDA) : TDE := fun ρ M R => T ρ M fun x M1 => gR x fun a => (∃ ws, M1 a = some (.lst ws)) ∧ U ρ M1 fun xs M2 => f (.r a) xs M2 R
theorem se_bmL {n : Nat} {r : V → List V → Hp → VK → Prop} {f : W → List W → Mem → (W → Mem → Prop) → Prop} {to : TE} {t : TA} {T : TDE} {U : TDA} (ho : SM K r f) (h1 : SE K Wx RE to T) (h2 : SAn K Wx RE n t U) :
    SE K Wx RE (tBM K "list" r to t) (bmL f T U) := fun F H M σ ρ R Q hr hx hs ht k =>
  h1 F H M σ ρ _ _ hr hx hs ht fun v H1 F1 M1 x r1 g1 rx q1 => by
    obtain ⟨a, rfl, ⟨ws, hw⟩, q2⟩ := gR_of q1
    rw [rx.ref]
    obtain ⟨vs, h3, h4⟩ := r1.lst hw
    refine ⟨.inl ⟨rfl, _, SqL.of h3⟩, h2 F1 H1 M1 σ ρ _ _ r1 (hx.mono g1) (hs.mono g1.ff) q2 fun us H2 F2 M2 xs r2 g2 rxs hl q3 => ?_⟩
    exact ho F2 H2 M2 _ us _ xs R Q r2 (.r a) rxs q3 fun w H3 F3 M3 z r3 g3 rz hz => k w H3 F3 M3 z r3 ((g1.trans g2).trans g3) rz hz
@[reducible] def fAppend : W → List W → Mem → (W → Mem → Prop) → Prop := fun x xs M R => gR x fun a => g1 xs fun y => ∃ ws, M a = some (.lst ws) ∧ ws.length < sizeLine ∧ R (.d .none) (mset M a (.lst (ws ++ [y])))
theorem sm_append : SM K rAppend fAppend := fun F H M v vs x xs R Q hr rx rxs hf k => by
  obtain ⟨a, rfl, h1⟩ := gR_of hf
  obtain ⟨y, rfl, ws, h2, hz, h3⟩ := g1_of h1
  obtain ⟨u, rfl, ry⟩ := rxs.one
  obtain ⟨us, h4, h5⟩ := hr.lst h2
  rw [rx.ref]
  refine ⟨a, us, u, rfl, rfl, h4, by rw [h5.len]; exact hz, ?_⟩
  obtain ⟨r2, g2⟩ := hr.put (u := .lst (us ++ [u])) (o := .lst (ws ++ [y])) h2 ⟨_, rfl, h5.app (.cons ry .nil)⟩
  exact k _ _ _ _ _ r2 g2 (.d .non) h3
@[reducible] def fExtend : W → List W → Mem → (W → Mem → Prop) → Prop := fun x xs M R => gR x fun a => g1 xs fun y => ∃ ws, M a = some (.lst ws) ∧ gW M y fun zs => ws.length + zs.length ≤ sizeLine ∧ R (.d .none) (mset M a (.lst (ws ++ zs)))
theorem sm_extend : SM K rExtend fExtend := fun F H M v vs x xs R Q hr rx rxs hf k => by
  obtain ⟨a, rfl, h1⟩ := gR_of hf
  obtain ⟨y, rfl, ws, h2, h3⟩ := g1_of h1
  obtain ⟨u, rfl, ry⟩ := rxs.one
  obtain ⟨us, h4, h5⟩ := hr.lst h2
  obtain ⟨b, zv, zs, rfl, h6, h7, hz, h8⟩ := gW_of hr ry h3
  rw [rx.ref]
  refine ⟨a, b, us, zv, rfl, rfl, h4, h6, by rw [h5.len, h7.len]; exact hz, ?_⟩
  obtain ⟨r2, g2⟩ := hr.put (u := .lst (us ++ zv)) (o := .lst (ws ++ zs)) h2 ⟨_, rfl, h5.app h7⟩
  exact k _ _ _ _ _ r2 g2 (.d .non) h8
/-! ### calls of defs -/
abbrev TF := List W → Mem → (W → Mem → Prop) → (Ex → Mem → Prop) → Prop
/-- the promise of a def by the second layer -/
def spD (K : PySem.W.Frag) (n : Nat) (f : TF) : Sp := fun vs H Q E => ∃ F M ws R RX, Rl K F H M ∧ RWs K F vs ws ∧ ws.length = n ∧ f ws M R RX ∧ Kt K F H M R Q ∧
  ∀ cls d H' F' M' x, Rl K F' H' M' → Gr F H M F' H' M' → XRel K F' cls d x → RX x M' → E cls d H'
@[reducible] def callT (f : TF) (T : TDA) : TDE := fun ρ M R => T ρ M fun xs M1 => f xs M1 R fun _ _ => False
@[reducible] def callX (RE : REx) (f : TF) (T : TDA) : TDE := fun ρ M R => T ρ M fun xs M1 => f xs M1 R fun x M' => RE x ρ M'
theorem se_call {n : Nat} {f : TF} {E : XK} {t : TA} {T : TDA} (h : SAn K Wx RE n t T) : SE K Wx RE (tCall (spD K n f) [] E t) (callT f T) := fun F H M σ ρ R Q hr hx hs ht k =>
  h F H M σ ρ _ _ hr hx hs ht fun vs H1 F1 M1 xs r1 g1 rxs hl h1 => by
    show spD K n f (vs ++ []) H1 Q E
    rw [List.append_nil]
    exact ⟨F1, M1, xs, R, _, r1, rxs, hl, h1, fun w H2 F2 M2 z r2 g2 rz hz => k w H2 F2 M2 z r2 (g1.trans g2) rz hz, fun cls d H' F' M' x _ _ _ z => z.elim⟩
theorem se_callX {n : Nat} {f : TF} {t : TA} {T : TDA} (h : SAn K Wx RE n t T) : SE K Wx RE (tCallS (spD K n f) (WE Wx) t) (callX RE f T) := fun F H M σ ρ R Q hr hx hs ht k =>
  h F H M σ ρ _ _ hr hx hs ht fun vs H1 F1 M1 xs r1 g1 rxs hl h1 =>
    ⟨F1, M1, xs, R, _, r1, rxs, hl, h1, fun w H2 F2 M2 z r2 g2 rz hz => k w H2 F2 M2 z r2 (g1.trans g2) rz hz, fun cls d H' F' M' x r2 g2 xr z => hx F' H' M' σ ρ cls d x (g1.trans g2) r2 (hs.mono (g1.trans g2).ff) xr z⟩
end
end Tl

set_option Elab.async false
set_option linter.all false
set_option maxRecDepth 100000
set_option maxHeartbeats 4000000
namespace Tl
open PySem L2
/-! ### what is walked -/
/-- one turn's item: one thing as it stands, or a pair that is made for it -/
def Yd (K : PySem.W.Frag) (F H : Hp) (x : V) (H' : Hp) (row : List W) (pair : Bool) : Prop :=
  if pair = true then ∃ T v1 v2 w1 w2, row = [w1, w2] ∧ x = .ref T ∧ H T = none ∧ H' = upd H T (.tup [v1, v2]) ∧ RW K F v1 w1 ∧ RW K F v2 w2
  else ∃ w, row = [w] ∧ H' = H ∧ RW K F x w
def ItOk (K : PySem.W.Frag) (F H : Hp) (M : Mem) (J : It) (rows : List (List W)) (keep : Mem → Prop) (pair : Bool) : Prop :=
  ∃ (G : Hp → Prop) (Y : Nat → Hp → V → Hp → Prop), Walk J rows.length G Y ∧ (∀ F2 H2 M2, Rl K F2 H2 M2 → Gr F H M F2 H2 M2 → keep M2 → G H2) ∧
    ∀ i x H2 H3 F2 M2 row, rows[i]? = some row → Rl K F2 H2 M2 → Gr F H M F2 H2 M2 → keep M2 → Y i H2 x H3 → Yd K F2 H2 x H3 row pair
theorem ItOk.of {K : PySem.W.Frag} {F H : Hp} {M : Mem} {J : It} {rows : List (List W)} {keep : Mem → Prop} {pair : Bool} {n : Nat} {G : Hp → Prop} {Y : Nat → Hp → V → Hp → Prop} (wk : Walk J n G Y) (hn : rows.length = n)
    (hG : ∀ F2 H2 M2, Rl K F2 H2 M2 → Gr F H M F2 H2 M2 → keep M2 → G H2) (hY : ∀ i x H2 H3 F2 M2 row, rows[i]? = some row → Rl K F2 H2 M2 → Gr F H M F2 H2 M2 → keep M2 → Y i H2 x H3 → Yd K F2 H2 x H3 row pair) : ItOk K F H M J rows keep pair :=
  ⟨G, Y, by rw [hn]; exact wk, hG, hY⟩
abbrev TDI := EnvD → Mem → (List (List W) → (Mem → Prop) → Mem → Prop) → Prop
def SI (K : PySem.W.Frag) (Wx : WX) (RE : REx) (wi : TI) (pair : Bool) (T : TDI) : Prop :=
  ∀ F H M σ ρ (R : List (List W) → (Mem → Prop) → Mem → Prop) (Q : It → Hp → Prop), Rl K F H M → XOk K F H M Wx RE → RelS K F σ ρ → T ρ M R →
    (∀ J H' F' M' rows keep, Rl K F' H' M' → Gr F H M F' H' M' → ItOk K F' H' M' J rows keep pair → R rows keep M' → Q J H') → wi σ H Q
abbrev TDG := List W → EnvD → Mem → (EnvD → Mem → Prop) → Prop
/-- binding a turn's item: the slots vs alone are changed -/
def SG (K : PySem.W.Frag) (g : TG) (pair : Bool) (vs : List Nat) (b : TDG) : Prop :=
  ∀ F H M x H' row σ ρ (R : EnvD → Mem → Prop) (Q : L2.St → Hp → Prop), Rl K F H M → Yd K F H x H' row pair → RelS K F σ ρ → b row ρ M R →
    (∀ σ' H2 F2 M2 ρ', Rl K F2 H2 M2 → Gr F H M F2 H2 M2 → RelS K F2 σ' ρ' → (wipe σ' vs = wipe σ vs) → R ρ' M2 → Q σ' H2) → g x σ H' Q
section
variable {K : PySem.W.Frag} {Wx : WX} {RE : REx}
@[reducible] def any1 : Mem → Prop := fun _ => True
@[reducible] def rows1 (ws : List W) : List (List W) := ws.map fun w => [w]
/-- over a tuple -/
@[reducible] def itTup (T : TDE) : TDI := fun ρ M R => T ρ M fun x M1 => gT x fun ds => R (rows1 (ds.map W.d)) any1 M1
/-- over a list of data -/
@[reducible] def itLst (T : TDE) : TDI := fun ρ M R => T ρ M fun x M1 => match x with
  | .d (.list ds) => R (rows1 (ds.map W.d)) any1 M1
  | .r a => ∃ ws, M1 a = some (.lst ws) ∧ R (rows1 ws) (fun M => M a = some (.lst ws)) M1
  | _ => False
theorem rows1_get {ws : List W} {i : Nat} {row : List W} (h : (rows1 ws)[i]? = some row) : ∃ w, ws[i]? = some w ∧ row = [w] := by
  unfold rows1 at h
  rw [List.getElem?_map] at h
  obtain ⟨w, h1, h2⟩ := Option.map_eq_some_iff.mp h
  exact ⟨w, h1, h2.symm⟩
theorem si_tup {t : TE} {T : TDE} (h : SE K Wx RE t T) : SI K Wx RE (iTup K t) false (itTup T) := fun F H M σ ρ R Q hr hx hs ht k =>
  h F H M σ ρ _ _ hr hx hs ht fun v H1 F1 M1 x r1 g1 rx h1 => by
    obtain ⟨ds, rfl, h2⟩ := gT_of h1
    obtain ⟨a, xs, rfl, h3, h4⟩ := rx.tup
    refine ⟨a, rfl, ⟨xs, same_t r1.fh h3⟩, k _ H1 F1 M1 _ _ r1 g1 ?_ h2⟩
    refine ItOk.of (walk_tup (K := K) (a := a) (xs := xs)) (by unfold rows1; rw [List.length_map, List.length_map, h4.len]) (fun F2 H2 M2 r2 g2 _ => same_t (g2.ff.trans r2.fh) h3) (fun i x H2 H3 F2 M2 row hrow r2 g2 _ y => ?_)
    · obtain ⟨w, hw, rfl⟩ := rows1_get hrow
      rw [List.getElem?_map] at hw
      obtain ⟨d, hd, rfl⟩ := Option.map_eq_some_iff.mp hw
      obtain ⟨v, hv, dv⟩ := h4.got hd
      obtain ⟨rfl, hy⟩ := y
      rw [hv] at hy
      cases hy
      exact ⟨_, rfl, rfl, .d (Dx.mono g2.ff _ _ dv)⟩
theorem si_lst {t : TE} {T : TDE} (h : SE K Wx RE t T) : SI K Wx RE (iList K t) false (itLst T) := fun F H M σ ρ R Q hr hx hs ht k =>
  h F H M σ ρ _ _ hr hx hs ht fun v H1 F1 M1 x r1 g1 rx h1 => by
    cases x with
    | o a => exact h1.elim
    | x a C dd fs => exact h1.elim
    | d a =>
      cases a with
      | list ds =>
        obtain ⟨a, xs, rfl, h3, h4⟩ := rx.lst
        refine ⟨a, rfl, ⟨xs, SqL.of (r1.fh _ _ h3)⟩, k _ H1 F1 M1 _ _ r1 g1 ?_ h1⟩
        refine ItOk.of (walk_list (K := K) (a := a) (xs := xs)) (by unfold rows1; rw [List.length_map, List.length_map, h4.len]) (fun F2 H2 M2 r2 g2 _ => SqL.of ((g2.ff.trans r2.fh) _ _ h3)) (fun i x H2 H3 F2 M2 row hrow r2 g2 _ y => ?_)
        · obtain ⟨w, hw, rfl⟩ := rows1_get hrow
          rw [List.getElem?_map] at hw
          obtain ⟨d, hd, rfl⟩ := Option.map_eq_some_iff.mp hw
          obtain ⟨v, hv, dv⟩ := h4.got hd
          obtain ⟨rfl, hy⟩ := y
          rw [hv] at hy
          cases hy
          exact ⟨_, rfl, rfl, .d (Dx.mono g2.ff _ _ dv)⟩
      | _ => exact h1.elim
    | r a =>
      obtain ⟨ws, hw, h2⟩ := h1
      rw [rx.ref]
      obtain ⟨xs, h3, h4⟩ := r1.lst hw
      refine ⟨a, rfl, ⟨xs, SqL.of h3⟩, k _ H1 F1 M1 _ _ r1 g1 ?_ h2⟩
      refine ⟨fun H => ∃ vs, H a = some (.lst vs) ∧ vs.length = ws.length, fun i H x H' => H' = H ∧ ∀ vs, H a = some (.lst vs) → vs[i]? = some x, ?_, fun F2 H2 M2 r2 g2 hk => ?_, fun i x H2 H3 F2 M2 row hrow r2 g2 hk y => ?_⟩
      · have el : (rows1 ws).length = ws.length := by unfold rows1; rw [List.length_map]
        rw [el]
        refine ⟨fun i H hi ⟨vs, q1, q2⟩ => ⟨vs, vs[i]'(by omega), SqL.of q1, List.getElem?_eq_getElem _⟩, fun H ⟨vs, q1, q2⟩ => ⟨vs, SqL.of q1, by omega⟩, fun i H x H' hi ⟨vs, q1, q2⟩ y => ⟨y.1, fun us hu => y.2 us (SqL.of hu)⟩⟩
      · obtain ⟨vs, q1, q2⟩ := r2.lst hk
        exact ⟨vs, q1, q2.len⟩
      · obtain ⟨w, hw, rfl⟩ := rows1_get hrow
        obtain ⟨vs, q1, q2⟩ := r2.lst hk
        obtain ⟨v, hv, rv⟩ := q2.got hw
        obtain ⟨rfl, hy⟩ := y
        have := hy vs q1
        rw [hv] at this
        cases this
        exact ⟨_, rfl, rfl, rv⟩
/-- over a text -/
def signs (z : Str) : List W := z.cps.toList.map fun c => W.d (.str ⟨#[c]⟩)
@[reducible] def itStr (T : TDE) : TDI := fun ρ M R => T ρ M fun x M1 => gS x fun z => R (rows1 (signs z)) any1 M1
theorem si_str {t : TE} {T : TDE} (h : SE K Wx RE t T) : SI K Wx RE (iStr t) false (itStr T) := fun F H M σ ρ R Q hr hx hs ht k =>
  h F H M σ ρ _ _ hr hx hs ht fun v H1 F1 M1 x r1 g1 rx h1 => by
    obtain ⟨z, rfl, h2⟩ := gS_of h1
    refine ⟨z, rx.str, k _ H1 F1 M1 _ _ r1 g1 ?_ h2⟩
    refine ItOk.of (walk_str (z := z)) (by unfold rows1 signs; rw [List.length_map, List.length_map]; rfl) (fun F2 H2 M2 r2 g2 _ => True.intro) (fun i x H2 H3 F2 M2 row hrow r2 g2 _ y => ?_)
    · obtain ⟨w, hw, rfl⟩ := rows1_get hrow
      unfold signs at hw
      rw [List.getElem?_map] at hw
      obtain ⟨c, hc, rfl⟩ := Option.map_eq_some_iff.mp hw
      obtain ⟨rfl, c', hc', rfl⟩ := y
      rw [Array.getElem?_toList, hc'] at hc
      cases hc
      exact ⟨_, rfl, rfl, .d (.str _)⟩
/-- over a range -/
def rng (lo : Int) (n : Nat) : List W := (List.range n).map fun i => W.d (.int (lo + (i : Nat)))
def rngC (lo c : Int) (n : Nat) : List W := (List.range n).map fun i => W.d (.int (lo + (i : Nat) * c))
/-- small enough for a range -/
def Sm (i : Int) : Prop := -(2 ^ 62) ≤ i ∧ i < 2 ^ 62
theorem sm_of {i : Int} (h1 : -1000000000 ≤ i) (h2 : i ≤ 1000000000) : Sm i := ⟨by omega, by omega⟩
@[reducible] def itR1 (T : TDA) : TDI := fun ρ M R => T ρ M fun xs M1 => g1 xs fun x => gI x fun j => Sm j ∧ R (rows1 (rng 0 j.toNat)) any1 M1
@[reducible] def itR2 (T : TDA) : TDI := fun ρ M R => T ρ M fun xs M1 => g2 xs fun x y => gI x fun i => gI y fun j => (Sm i ∧ Sm j) ∧ R (rows1 (rng i (j - i).toNat)) any1 M1
theorem rng_ok {F H : Hp} {M : Mem} {lo : Int} {n : Nat} : ItOk K F H M (Itr lo n) (rows1 (rng lo n)) any1 false := by
  refine ItOk.of (walk_range (lo := lo) (n := n)) (by unfold rows1 rng; rw [List.length_map, List.length_map, List.length_range]) (fun F2 H2 M2 r2 g2 _ => True.intro) (fun i x H2 H3 F2 M2 row hrow r2 g2 _ y => ?_)
  · obtain ⟨w, hw, rfl⟩ := rows1_get hrow
    unfold rng at hw
    rw [List.getElem?_map] at hw
    obtain ⟨c, hc, rfl⟩ := Option.map_eq_some_iff.mp hw
    have e : c = i := by
      obtain ⟨h1, h2⟩ := List.getElem?_eq_some_iff.mp hc
      rw [← h2]
      simp
    subst e
    obtain ⟨rfl, rfl⟩ := y
    exact ⟨_, rfl, rfl, .d (.int _)⟩
theorem si_r1 {t : TA} {T : TDA} {n : Nat} (h : SAn K Wx RE n t T) : SI K Wx RE (iRng1 t) false (itR1 T) := fun F H M σ ρ R Q hr hx hs ht k =>
  h F H M σ ρ _ _ hr hx hs ht fun vs H1 F1 M1 xs r1 g1 rxs hl h1 => by
    obtain ⟨x, rfl, h2⟩ := g1_of h1
    obtain ⟨j, rfl, ⟨c1, c2⟩, h3⟩ := gI_of h2
    obtain ⟨v, rfl, rv⟩ := rxs.one
    exact ⟨j, by rw [rv.int], c1, c2, k _ H1 F1 M1 _ _ r1 g1 rng_ok h3⟩
theorem si_r2 {t : TA} {T : TDA} {n : Nat} (h : SAn K Wx RE n t T) : SI K Wx RE (iRng2 t) false (itR2 T) := fun F H M σ ρ R Q hr hx hs ht k =>
  h F H M σ ρ _ _ hr hx hs ht fun vs H1 F1 M1 xs r1 g1 rxs hl h1 => by
    obtain ⟨x, y, rfl, h2⟩ := g2_of h1
    obtain ⟨i, rfl, h3⟩ := gI_of h2
    obtain ⟨j, rfl, c, h4⟩ := gI_of h3
    obtain ⟨v, u, rfl, rv, ru⟩ := rxs.two
    exact ⟨i, j, by rw [rv.int, ru.int], ⟨c.1.1, c.1.2, c.2.1, c.2.2⟩, k _ H1 F1 M1 _ _ r1 g1 rng_ok h4⟩
/-- enumerate(..) -/
def enumR (n : Nat) : List W → List (List W)
  | [] => []
  | w :: r => [.d (.int (n : Nat)), w] :: enumR (n + 1) r
theorem enumR_len : ∀ (n : Nat) (ws : List W), (enumR n ws).length = ws.length
  | _, [] => rfl
  | n, w :: r => by rw [enumR, List.length_cons, enumR_len (n + 1) r, List.length_cons]
theorem enumR_get : ∀ {n : Nat} {ws : List W} {i : Nat} {row : List W}, (enumR n ws)[i]? = some row → ∃ w, ws[i]? = some w ∧ row = [.d (.int ((n + i : Nat) : Int)), w]
  | _, [], _, _, h => by simp [enumR] at h
  | n, w :: r, 0, row, h => ⟨w, rfl, by simp [enumR] at h; exact h.symm⟩
  | n, w :: r, i + 1, row, h => by
    obtain ⟨w', h1, h2⟩ := enumR_get (n := n + 1) (ws := r) (i := i) (row := row) (by simpa [enumR] using h)
    exact ⟨w', by simpa using h1, by rw [h2, show n + 1 + i = n + (i + 1) by omega]⟩
@[reducible] def itEnT (T : TDA) : TDI := fun ρ M R => T ρ M fun xs M1 => g1 xs fun x => gT x fun ds => R (enumR 0 (ds.map W.d)) any1 M1
@[reducible] def itEnL (T : TDA) : TDI := fun ρ M R => T ρ M fun xs M1 => g1 xs fun x => match x with
  | .d (.list ds) => R (enumR 0 (ds.map W.d)) any1 M1
  | .r a => ∃ ws, M1 a = some (.lst ws) ∧ R (enumR 0 ws) (fun M => M a = some (.lst ws)) M1
  | _ => False
theorem si_enT {n : Nat} {t : TA} {T : TDA} (h : SAn K Wx RE n t T) : SI K Wx RE (iEnumT K t) true (itEnT T) := fun F H M σ ρ R Q hr hx hs ht k =>
  h F H M σ ρ _ _ hr hx hs ht fun vs H1 F1 M1 xs r1 g1 rxs hl h1 => by
    obtain ⟨x, rfl, h2⟩ := g1_of h1
    obtain ⟨v, rfl, rx⟩ := rxs.one
    obtain ⟨ds, rfl, h5⟩ := gT_of h2
    obtain ⟨a, xs, rfl, h3, h4⟩ := rx.tup
    refine ⟨a, xs, rfl, same_t r1.fh h3, k _ H1 F1 M1 _ _ r1 g1 ?_ h5⟩
    refine ItOk.of (walk_enumT (K := K) (a := a) (xs := xs)) (by rw [enumR_len, List.length_map, ← h4.len]) (fun F2 H2 M2 r2 g2 _ => same_t (g2.ff.trans r2.fh) h3) (fun i x H2 H3 F2 M2 row hrow r2 g2 _ y => ?_)
    · obtain ⟨w, hw, rfl⟩ := enumR_get hrow
      rw [List.getElem?_map] at hw
      obtain ⟨d, hd, rfl⟩ := Option.map_eq_some_iff.mp hw
      obtain ⟨v, hv, dv⟩ := h4.got hd
      obtain ⟨T', x', rfl, hT, rfl, hy⟩ := y
      rw [hv] at hy
      cases hy
      refine ⟨T', _, _, _, _, rfl, rfl, hT, rfl, ?_, .d (Dx.mono g2.ff _ _ dv)⟩
      rw [Nat.zero_add]
      exact .d (.int _)
theorem si_enL {n : Nat} {t : TA} {T : TDA} (h : SAn K Wx RE n t T) : SI K Wx RE (iEnum K t) true (itEnL T) := fun F H M σ ρ R Q hr hx hs ht k =>
  h F H M σ ρ _ _ hr hx hs ht fun vs H1 F1 M1 xs r1 g1 rxs hl h1 => by
    obtain ⟨x, rfl, h2⟩ := g1_of h1
    obtain ⟨v, rfl, rx⟩ := rxs.one
    have wk : ∀ (a : Addr) (n : Nat), Walk (Ite K a) n (fun H => ∃ vs, H a = some (.lst vs) ∧ vs.length = n) (fun i H v H' => ∃ T x, v = .ref T ∧ H T = none ∧ H' = upd H T (.tup [.int (i : Nat), x]) ∧ ∀ vs, H a = some (.lst vs) → vs[i]? = some x) := fun a n =>
      ⟨fun i H hi ⟨vs, q1, q2⟩ => ⟨vs, vs[i]'(by omega), SqL.of q1, List.getElem?_eq_getElem _⟩, fun H ⟨vs, q1, q2⟩ => ⟨vs, SqL.of q1, by omega⟩, fun i H x H' hi ⟨vs, q1, q2⟩ y => by
        obtain ⟨T, x', e1, e2, e3, e4⟩ := y
        exact ⟨T, x', e1, e2, e3, fun us hu => e4 us (SqL.of hu)⟩⟩
    cases x with
    | o a => exact h2.elim
    | x a C dd fs => exact h2.elim
    | d a =>
      cases a with
      | list ds =>
        obtain ⟨a, xs, rfl, h3, h4⟩ := rx.lst
        refine ⟨a, xs, rfl, SqL.of (r1.fh _ _ h3), k _ H1 F1 M1 _ _ r1 g1 ?_ h2⟩
        refine ItOk.of (wk a ds.length) (by rw [enumR_len, List.length_map]) (fun F2 H2 M2 r2 g2 _ => ⟨xs, (g2.ff.trans r2.fh) _ _ h3, h4.len⟩) (fun i x H2 H3 F2 M2 row hrow r2 g2 _ y => ?_)
        obtain ⟨w, hw, rfl⟩ := enumR_get hrow
        rw [List.getElem?_map] at hw
        obtain ⟨d, hd, rfl⟩ := Option.map_eq_some_iff.mp hw
        obtain ⟨v, hv, dv⟩ := h4.got hd
        obtain ⟨T', x', rfl, hT, rfl, hy⟩ := y
        have := hy xs ((g2.ff.trans r2.fh) _ _ h3)
        rw [hv] at this
        cases this
        refine ⟨T', _, _, _, _, rfl, rfl, hT, rfl, ?_, .d (Dx.mono g2.ff _ _ dv)⟩
        rw [Nat.zero_add]
        exact .d (.int _)
      | _ => exact h2.elim
    | r a =>
      obtain ⟨ws, hw, h3⟩ := h2
      rw [rx.ref]
      obtain ⟨xs, h4, h5⟩ := r1.lst hw
      refine ⟨a, xs, rfl, SqL.of h4, k _ H1 F1 M1 _ _ r1 g1 ?_ h3⟩
      refine ItOk.of (wk a ws.length) (by rw [enumR_len]) (fun F2 H2 M2 r2 g2 hk => ?_) (fun i x H2 H3 F2 M2 row hrow r2 g2 hk y => ?_)
      · obtain ⟨vs, q1, q2⟩ := r2.lst hk
        exact ⟨vs, q1, q2.len⟩
      · obtain ⟨w, hw, rfl⟩ := enumR_get hrow
        obtain ⟨vs, q1, q2⟩ := r2.lst hk
        obtain ⟨v, hv, rv⟩ := q2.got hw
        obtain ⟨T', x', rfl, hT, rfl, hy⟩ := y
        have := hy vs q1
        rw [hv] at this
        cases this
        refine ⟨T', _, _, _, _, rfl, rfl, hT, rfl, ?_, rv⟩
        rw [Nat.zero_add]
        exact .d (.int _)
/-! ### binding -/
@[reducible] def bName (i : Nat) : TDG := fun row ρ M R => match row with | [w] => R (put ρ i (some w)) M | _ => False
theorem sg_name {i : Nat} : SG K (gName i) false [i] (bName i) := fun F H M x H' row σ ρ R Q hr hy hs hb k => by
  obtain ⟨w, rfl, rfl, rx⟩ := hy
  refine k _ _ F M _ hr .refl (hs.set rx i) ?_ hb
  show (σ.set i (some x)).set i none = σ.set i none
  rw [List.set_set]
/-- a pair that is made for the turn -/
@[reducible] def bPair (i j : Nat) : TDG := fun row ρ M R => match row with | [w1, w2] => R (put (put ρ i (some w1)) j (some w2)) M | _ => False
theorem wipe2 {σ : L2.St} {i j : Nat} {a b : Option V} : wipe ((σ.set i a).set j b) [i, j] = wipe σ [i, j] := by
  show (((σ.set i a).set j b).set j none).set i none = (σ.set j none).set i none
  rw [List.set_set]
  by_cases h : i = j
  · subst h
    rw [List.set_set, List.set_set, List.set_set]
  · rw [List.set_comm _ _ h, List.set_set]
theorem sg_pair {i j : Nat} : SG K (gTup K 2 (gCons (gName i) (gCons (gName j) gNil))) true [i, j] (bPair i j) := fun F H M x H' row σ ρ R Q hr hy hs hb k => by
  obtain ⟨T, v1, v2, w1, w2, rfl, rfl, hT, rfl, q1, q2⟩ := hy
  obtain ⟨r2, g2⟩ := hr.same (same_new (o := .tup [v1, v2]) hT)
  refine ⟨T, [v1, v2], rfl, .inl (.inl upd_same), rfl, v1, [v2], rfl, v2, [], rfl, rfl, ?_⟩
  exact k _ _ F M _ r2 g2 ((hs.set q1 i).set q2 j) wipe2 hb
/-- a tuple that stands there: two names -/
@[reducible] def bTup2 (i j : Nat) : TDG := fun row ρ M R => match row with | [w] => gT w fun ds => (match ds with | [a, b] => R (put (put ρ i (some (.d a))) j (some (.d b))) M | _ => False) | _ => False
theorem sg_tup2 {i j : Nat} : SG K (gTup K 2 (gCons (gName i) (gCons (gName j) gNil))) false [i, j] (bTup2 i j) := fun F H M x H' row σ ρ R Q hr hy hs hb k => by
  obtain ⟨w, rfl, rfl, rx⟩ := hy
  obtain ⟨ds, rfl, h1⟩ := gT_of hb
  obtain ⟨a, xs, rfl, h2, h3⟩ := rx.tup
  split at h1
  · rename_i c d
    cases h3 with
    | cons q1 h3 =>
    cases h3 with
    | cons q2 h3 =>
    cases h3
    refine ⟨a, _, rfl, same_t hr.fh h2, rfl, _, _, rfl, _, [], rfl, rfl, ?_⟩
    exact k _ _ F M _ hr .refl ((hs.set (.d q1) i).set (.d q2) j) wipe2 h1
  · exact h1.elim
/-! ### list comprehensions -/
/-- one after another; behind all the new list -/
def lcGo (b : TDG) (keep : Mem → Prop) (tt : TDT) (te : TDE) (ρ : EnvD) (fin : List W → Mem → Prop) : List (List W) → List W → Mem → Prop
  | [], acc, M => keep M ∧ fin acc M
  | row :: rest, acc, M => keep M ∧ b row ρ M fun ρ1 M1 => tt ρ1 M1 fun c M2 => if c = true then te ρ1 M2 fun y M3 => acc.length < sizeLine ∧ lcGo b keep tt te ρ fin rest (acc ++ [y]) M3 else lcGo b keep tt te ρ fin rest acc M2
theorem wipe_wipe : ∀ (vs : List Nat) (σ : L2.St), vs.length ≤ 2 → wipe (wipe σ vs) vs = wipe σ vs
  | [], σ, _ => rfl
  | [a], σ, _ => by
    show (σ.set a none).set a none = σ.set a none
    rw [List.set_set]
  | [a, b], σ, _ => by
    show (((σ.set b none).set a none).set b none).set a none = (σ.set b none).set a none
    by_cases h : a = b
    · subst h
      rw [List.set_set, List.set_set, List.set_set]
    · rw [List.set_comm _ _ h, List.set_set, List.set_set]
  | _ :: _ :: _ :: _, _, h => by simp at h
theorem RelS.wipe {F : Hp} {σ : L2.St} {ρ : EnvD} (h : RelS K F σ ρ) : ∀ (vs : List Nat), (∀ i ∈ vs, slot ρ i = none) → RelS K F (L2.wipe σ vs) ρ
  | [], _ => h
  | v :: vs, hn => by
    have ih := h.wipe vs fun i hi => hn i (.tail _ hi)
    refine ⟨by rw [wipe_length]; exact h.len, fun i x c => ?_⟩
    obtain ⟨u, h1, h2⟩ := ih.at_ i x c
    refine ⟨u, ?_, h2⟩
    show ((L2.wipe σ vs).set v none)[i]? = _
    rw [List.getElem?_set_ne fun z => by rw [z] at hn; have := hn i (.head _); rw [c] at this; cases this]
    exact h1
/-- the slots of a comprehension's own names forgotten -/
@[reducible] def hide (ρ : EnvD) : List Nat → EnvD
  | [] => ρ
  | v :: vs => put (hide ρ vs) v none
theorem hide_rel {F : Hp} {σ : L2.St} {ρ : EnvD} (h : RelS K F σ ρ) : ∀ vs, RelS K F (L2.wipe σ vs) (hide ρ vs)
  | [] => h
  | v :: vs => (hide_rel h vs).del v none
theorem lc_core {wi : TI} {g : TG} {tt : TT} {te : TE} {vs : List Nat} {pair : Bool} {it : TDI} {b : TDG} {Tt : TDT} {Te : TDE} (hi : SI K Wx RE wi pair it) (hg : SG K g pair vs b) (ht : ST K (fun _ _ _ _ => False) (fun _ _ _ => False) tt Tt) (he : SE K (fun _ _ _ _ => False) (fun _ _ _ => False) te Te) (hv : vs.length ≤ 2)
    (fin : (W → Mem → Prop) → List W → Mem → Prop)
    (hf : ∀ F H M R Q D acc vl, Rl K F H M → H D = some (.lst vl) → F D = none → M D = none → RWs K F vl acc → fin R acc M → (∀ F0 H0 M0, Gr F0 H0 M0 F H M → H0 D = none → Kt K F0 H0 M0 R Q → Q (.ref D) H)) :
    SE K Wx RE (tLc wi g tt te vs) (fun ρ M R => it ρ M fun rows keep M1 => lcGo b keep Tt Te (hide ρ vs) (fin R) rows [] M1) := fun F H M σ ρ R Q hr hx hs hT k =>
  hi F H M σ ρ _ _ hr hx hs hT fun J H1 F1 M1 rows keep r1 g1 iok h1 D hD => by
    obtain ⟨G, Y, wk, hG, hY⟩ := iok
    have x0 : ∀ (F H : Hp) (M : Mem), XOk K F H M (fun _ _ _ _ => False) (fun _ _ _ => False) := fun F H M F' H' M' σ ρ cls d x _ _ _ _ z => z
    refine lc_it wk (fun i H2 => ∃ F2 M2 acc vl, Rl K F2 H2 M2 ∧ Gr F1 H1 M1 F2 H2 M2 ∧ H2 D = some (.lst vl) ∧ F2 D = none ∧ M2 D = none ∧ RWs K F2 vl acc ∧ lcGo b keep Tt Te (hide ρ vs) (fin R) (rows.drop i) acc M2)
      ⟨F1, M1, [], [], (r1.hid (r1.fh.free hD) (r1.new hD)), ⟨Same.refl _, fun c u q n => ⟨by rw [upd_ne (ne_of_none q hD)]; exact q, n⟩, fun _ _ _ _ f => f⟩, upd_same, r1.fh.free hD, r1.new hD, .nil, h1⟩
      (fun i H2 hi2 ⟨F2, M2, acc, vl, r2, g2, d1, d2, d3, d4, q⟩ => ?_) (fun i x H2 H3 hi2 ⟨F2, M2, acc, vl, r2, g2, d1, d2, d3, d4, q⟩ y => ?_) (fun H2 ⟨F2, M2, acc, vl, r2, g2, d1, d2, d3, d4, q⟩ => ?_)
    · have hk : keep M2 := by
        cases hd : rows.drop i with
        | nil => rw [hd] at q; exact q.1
        | cons a b => rw [hd] at q; exact q.1
      exact hG F2 H2 M2 r2 g2 hk
    · rw [List.drop_eq_getElem_cons hi2] at q
      obtain ⟨hk, q⟩ := q
      have hrow : rows[i]? = some rows[i] := List.getElem?_eq_getElem hi2
      have yd := hY i x H2 H3 F2 M2 _ hrow r2 g2 hk y
      have rel := (hs.mono (g1.trans g2).ff)
      refine hg F2 H2 M2 x H3 _ (wipe σ vs) (hide ρ vs) _ _ r2 yd (hide_rel rel vs) q fun σ4 H4 F4 M4 ρ4 r4 g4 s4 w4 q4 => ⟨by rw [w4]; exact wipe_wipe vs σ hv, ?_⟩
      have D4 : H4 D = some (.lst vl) ∧ M4 D = none := g4.un D _ d1 d3
      have F4D : F4 D = none := g4.nf D _ d1 d3 d2
      refine ht F4 H4 M4 σ4 ρ4 _ _ r4 (x0 _ _ _) s4 q4 fun c H5 F5 M5 r5 g5 q5 => ?_
      have D5 := g5.un D _ D4.1 D4.2
      have F5D := g5.nf D _ D4.1 D4.2 F4D
      by_cases hc : c = true
      · rw [if_pos hc] at q5 ⊢
        refine he F5 H5 M5 σ4 ρ4 _ _ r5 (x0 _ _ _) (s4.mono g5.ff) q5 fun v6 H6 F6 M6 z6 r6 g6 rz6 q6 => ?_
        have D6 := g6.un D _ D5.1 D5.2
        have F6D := g6.nf D _ D5.1 D5.2 F5D
        have gg := ((g4.trans g5).trans g6)
        refine ⟨vl, D6.1, by rw [d4.len]; exact q6.1, F6, M6, acc ++ [z6], vl ++ [v6], r6.hid F6D D6.2, ?_, upd_same, F6D, D6.2, (d4.mono gg.ff).app (.cons rz6 .nil), q6.2⟩
        have g7 := g2.trans gg
        refine ⟨g7.ff, fun c u q n => ?_, g7.nf⟩
        have z : c ≠ D := ne_of_none q hD
        rw [upd_ne z]
        exact g7.un c u q n
      · rw [if_neg hc] at q5 ⊢
        exact ⟨F5, M5, acc, vl, r5, (g2.trans (g4.trans g5)), D5.1, F5D, D5.2, d4.mono (g4.trans g5).ff, q5⟩
    · rw [List.drop_length] at q
      exact hf F2 H2 M2 R Q D acc vl r2 d1 d2 d3 d4 q.2 F1 H1 M1 g2 hD fun v H' F' M' x a b c d => k v H' F' M' x a (g1.trans b) c d
/-- a list that is data -/
@[reducible] def lcF (it : TDI) (b : TDG) (tt : TDT) (te : TDE) (vs : List Nat) : TDE := fun ρ M R => it ρ M fun rows keep M1 => lcGo b keep tt te (hide ρ vs) (fun acc M2 => gDs acc fun ds => R (.d (.list ds)) M2) rows [] M1
/-- a list that may change -/
@[reducible] def lcL (it : TDI) (b : TDG) (tt : TDT) (te : TDE) (vs : List Nat) : TDE := fun ρ M R => it ρ M fun rows keep M1 => lcGo b keep tt te (hide ρ vs) (fun acc M2 => ∀ p, M2 p = none → R (.r p) (mset M2 p (.lst acc))) rows [] M1
theorem se_lcF {wi : TI} {g : TG} {tt : TT} {te : TE} {vs : List Nat} {pair : Bool} {it : TDI} {b : TDG} {Tt : TDT} {Te : TDE} (hi : SI K Wx RE wi pair it) (hg : SG K g pair vs b) (ht : ST K (fun _ _ _ _ => False) (fun _ _ _ => False) tt Tt) (he : SE K (fun _ _ _ _ => False) (fun _ _ _ => False) te Te) (hv : vs.length ≤ 2 := by decide) :
    SE K Wx RE (tLc wi g tt te vs) (lcF it b Tt Te vs) :=
  lc_core hi hg ht he hv (fun R acc M2 => gDs acc fun ds => R (.d (.list ds)) M2) fun F H M R Q D acc vl hr h1 h2 h3 h4 hq F0 H0 M0 g hD k => by
    obtain ⟨ds, rfl, h5⟩ := gDs_of hq
    have e : Same F (upd F D (.lst vl)) := same_new h2
    have r' : Rl K (upd F D (.lst vl)) H M := by
      refine ⟨fun b u q => ?_, fun a o c => ?_, fun a o c => ?_⟩
      · by_cases z : b = D
        · subst z
          rw [upd_same] at q
          rw [h1]
          exact q
        · rw [upd_ne z] at q
          exact hr.fh b u q
      · rw [upd_ne (fun z => by rw [z, h3] at c; cases c)]
        exact hr.mf a o c
      · obtain ⟨u, q1, q2⟩ := hr.at_ a o c
        exact ⟨u, q1, q2.mono e⟩
    refine k _ H _ M _ r' ⟨g.ff.trans e, g.un, fun b u q n f => ?_⟩ (.d (.lst upd_same (DxL.mono e _ _ h4.undat))) h5
    rw [upd_ne (ne_of_none q hD)]
    exact g.nf b u q n f
theorem se_lcL {wi : TI} {g : TG} {tt : TT} {te : TE} {vs : List Nat} {pair : Bool} {it : TDI} {b : TDG} {Tt : TDT} {Te : TDE} (hi : SI K Wx RE wi pair it) (hg : SG K g pair vs b) (ht : ST K (fun _ _ _ _ => False) (fun _ _ _ => False) tt Tt) (he : SE K (fun _ _ _ _ => False) (fun _ _ _ => False) te Te) (hv : vs.length ≤ 2 := by decide) :
    SE K Wx RE (tLc wi g tt te vs) (lcL it b Tt Te vs) :=
  lc_core hi hg ht he hv (fun R acc M2 => ∀ p, M2 p = none → R (.r p) (mset M2 p (.lst acc))) fun F H M R Q D acc vl hr h1 h2 h3 h4 hq F0 H0 M0 g hD k => by
    have r' : Rl K F H (mset M D (.lst acc)) := by
      refine ⟨hr.fh, fun a o c => ?_, fun a o c => ?_⟩
      · by_cases z : a = D
        · rw [z]; exact h2
        · rw [mset_ne z] at c; exact hr.mf a o c
      · by_cases z : a = D
        · subst z
          rw [mset_same] at c
          cases c
          exact ⟨_, h1, vl, rfl, h4⟩
        · rw [mset_ne z] at c; exact hr.at_ a o c
    refine k _ H _ _ _ r' ⟨g.ff, fun b u q n => ?_, g.nf⟩ (.r D) (hq D h3)
    rw [mset_ne (ne_of_none q hD)]
    exact g.un b u q n
end
end Tl

set_option Elab.async false
set_option linter.all false
set_option maxRecDepth 100000
set_option maxHeartbeats 4000000
namespace Tl
open PySem L2
/-! ### statements -/
structure EndD where
  nx : EnvD → Mem → Prop
  rt : W → Mem → Prop
  bk : EnvD → Mem → Prop := fun _ _ => False
  ct : EnvD → Mem → Prop := fun _ _ => False
abbrev TDS := EndD → EnvD → Mem → Prop
abbrev Nk (K : PySem.W.Frag) (F H : Hp) (M : Mem) (R : EnvD → Mem → Prop) (Q : L2.St → Hp → Prop) : Prop := ∀ σ' H' F' M' ρ', Rl K F' H' M' → Gr F H M F' H' M' → RelS K F' σ' ρ' → R ρ' M' → Q σ' H'
structure EK (K : PySem.W.Frag) (F H : Hp) (M : Mem) (D : EndD) (E : Ends) : Prop where
  nx : Nk K F H M D.nx E.nx
  rt : Kt K F H M D.rt E.rt
  bk : Nk K F H M D.bk E.bk
  ct : Nk K F H M D.ct E.ct
theorem EK.mono {K : PySem.W.Frag} {F H F' H' : Hp} {M M' : Mem} {D : EndD} {E : Ends} (k : EK K F H M D E) (g : Gr F H M F' H' M') : EK K F' H' M' D E :=
  ⟨fun σ H2 F2 M2 ρ r g2 => k.nx σ H2 F2 M2 ρ r (g.trans g2), fun v H2 F2 M2 x r g2 => k.rt v H2 F2 M2 x r (g.trans g2), fun σ H2 F2 M2 ρ r g2 => k.bk σ H2 F2 M2 ρ r (g.trans g2), fun σ H2 F2 M2 ρ r g2 => k.ct σ H2 F2 M2 ρ r (g.trans g2)⟩
def SSt (K : PySem.W.Frag) (Wx : WX) (RE : REx) (t : TS) (T : TDS) : Prop :=
  ∀ F H M σ ρ D E, Rl K F H M → XOk K F H M Wx RE → RelS K F σ ρ → T D ρ M → EK K F H M D E → t E σ H
section
variable {K : PySem.W.Frag} {Wx : WX} {RE : REx}
@[reducible] def nextS : TDS := fun D ρ M => D.nx ρ M
@[reducible] def seqS (T U : TDS) : TDS := fun D ρ M => T { D with nx := U D } ρ M
@[reducible] def retS (T : TDE) : TDS := fun D ρ M => T ρ M D.rt
@[reducible] def retN : TDS := fun D _ M => D.rt (.d .none) M
@[reducible] def dropS (T : TDE) : TDS := fun D ρ M => T ρ M fun _ M1 => D.nx ρ M1
@[reducible] def ifS (c : TDT) (T U : TDS) : TDS := fun D ρ M => c ρ M fun b M1 => if b = true then T D ρ M1 else U D ρ M1
@[reducible] def setS (i : Nat) (T : TDE) : TDS := fun D ρ M => T ρ M fun x M1 => D.nx (put ρ i (some x)) M1
@[reducible] def breakS : TDS := fun D ρ M => D.bk ρ M
@[reducible] def contS : TDS := fun D ρ M => D.ct ρ M
theorem ss_nil : SSt K Wx RE tNext nextS := fun F H M σ ρ D E hr hx hs ht k => k.nx σ H F M ρ hr .refl hs ht
theorem ss_break : SSt K Wx RE tBreak breakS := fun F H M σ ρ D E hr hx hs ht k => k.bk σ H F M ρ hr .refl hs ht
theorem ss_cont : SSt K Wx RE tCont contS := fun F H M σ ρ D E hr hx hs ht k => k.ct σ H F M ρ hr .refl hs ht
theorem ss_cons {t u : TS} {T U : TDS} (h1 : SSt K Wx RE t T) (h2 : SSt K Wx RE u U) : SSt K Wx RE (tSeq t u) (seqS T U) := fun F H M σ ρ D E hr hx hs ht k =>
  h1 F H M σ ρ { D with nx := U D } { E with nx := u E } hr hx hs ht ⟨fun σ' H' F' M' ρ' r g s q => h2 F' H' M' σ' ρ' D E r (hx.mono g) s q (k.mono g), k.rt, k.bk, k.ct⟩
theorem ss_ret {t : TE} {T : TDE} (h : SE K Wx RE t T) : SSt K Wx RE (tRet t) (retS T) := fun F H M σ ρ D E hr hx hs ht k => h F H M σ ρ _ _ hr hx hs ht k.rt
theorem ss_retN : SSt K Wx RE tRetN retN := fun F H M σ ρ D E hr hx hs ht k => k.rt _ H F M _ hr .refl (.d .non) ht
theorem ss_drop {t : TE} {T : TDE} (h : SE K Wx RE t T) : SSt K Wx RE (tDrop t) (dropS T) := fun F H M σ ρ D E hr hx hs ht k =>
  h F H M σ ρ _ _ hr hx hs ht fun v H1 F1 M1 x r1 g1 rx h1 => k.nx σ H1 F1 M1 ρ r1 g1 (hs.mono g1.ff) h1
theorem ss_if {c : TT} {t u : TS} {C : TDT} {T U : TDS} (hc : ST K Wx RE c C) (h1 : SSt K Wx RE t T) (h2 : SSt K Wx RE u U) : SSt K Wx RE (tIfS c t u) (ifS C T U) := fun F H M σ ρ D E hr hx hs ht k =>
  hc F H M σ ρ _ _ hr hx hs ht fun b H1 F1 M1 r1 g1 q1 => by
    by_cases hb : b = true
    · rw [if_pos hb] at q1 ⊢
      exact h1 F1 H1 M1 σ ρ D E r1 (hx.mono g1) (hs.mono g1.ff) q1 (k.mono g1)
    · rw [if_neg hb] at q1 ⊢
      exact h2 F1 H1 M1 σ ρ D E r1 (hx.mono g1) (hs.mono g1.ff) q1 (k.mono g1)
theorem ss_set {i : Nat} {t : TE} {T : TDE} (h : SE K Wx RE t T) : SSt K Wx RE (tAsg t (gName i)) (setS i T) := fun F H M σ ρ D E hr hx hs ht k =>
  h F H M σ ρ _ _ hr hx hs ht fun v H1 F1 M1 x r1 g1 rx h1 => k.nx _ H1 F1 M1 _ r1 g1 ((hs.mono g1.ff).set rx i) h1
/-- a, b = e -/
@[reducible] def unpS (b : TDG) (T : TDE) : TDS := fun D ρ M => T ρ M fun x M1 => b [x] ρ M1 D.nx
theorem ss_unp {g : TG} {vs : List Nat} {b : TDG} {t : TE} {T : TDE} (hg : SG K g false vs b) (h : SE K Wx RE t T) : SSt K Wx RE (tAsg t g) (unpS b T) := fun F H M σ ρ D E hr hx hs ht k =>
  h F H M σ ρ _ _ hr hx hs ht fun v H1 F1 M1 x r1 g1 rx h1 => hg F1 H1 M1 v H1 [x] σ ρ _ _ r1 ⟨x, rfl, rfl, rx⟩ (hs.mono g1.ff) h1 fun σ' H2 F2 M2 ρ' r2 g2 s2 _ q2 => k.nx σ' H2 F2 M2 ρ' r2 (g1.trans g2) s2 q2
/-- xs[i] = e, xs a list that may change -/
@[reducible] def setIx (T O I : TDE) : TDS := fun D ρ M => T ρ M fun y M1 => O ρ M1 fun x M2 => I ρ M2 fun i M3 => gR x fun a => gI i fun n => ∃ ws, M3 a = some (.lst ws) ∧ gO (ixN ws.length n) fun j => D.nx ρ (mset M3 a (.lst (ws.set j y)))
/-- for -/
def forGo (b : TDG) (keep : Mem → Prop) (body : TDS) (D : EndD) : List (List W) → EnvD → Mem → Prop
  | [], ρ, M => keep M ∧ D.nx ρ M
  | row :: rest, ρ, M => keep M ∧ b row ρ M fun ρ1 M1 => body ⟨forGo b keep body D rest, D.rt, D.nx, forGo b keep body D rest⟩ ρ1 M1
@[reducible] def forS (it : TDI) (b : TDG) (body : TDS) : TDS := fun D ρ M => it ρ M fun rows keep M1 => forGo b keep body D rows ρ M1
theorem ss_for {wi : TI} {g : TG} {tb : TS} {pair : Bool} {vs : List Nat} {it : TDI} {b : TDG} {Tb : TDS} (hi : SI K Wx RE wi pair it) (hg : SG K g pair vs b) (hb : SSt K Wx RE tb Tb) : SSt K Wx RE (tFor wi g tb) (forS it b Tb) := fun F H M σ ρ D E hr hx hs ht k =>
  hi F H M σ ρ _ _ hr hx hs ht fun J H1 F1 M1 rows keep r1 g1 iok h1 => by
    obtain ⟨G, Y, wk, hG, hY⟩ := iok
    refine for_it wk (fun i σ2 H2 => ∃ F2 M2 ρ2, Rl K F2 H2 M2 ∧ Gr F1 H1 M1 F2 H2 M2 ∧ RelS K F2 σ2 ρ2 ∧ forGo b keep Tb D (rows.drop i) ρ2 M2)
      ⟨F1, M1, ρ, r1, .refl, hs.mono g1.ff, h1⟩ (fun i σ2 H2 hi2 ⟨F2, M2, ρ2, r2, g2, s2, q⟩ => ?_) (fun i x σ2 H2 H3 hi2 ⟨F2, M2, ρ2, r2, g2, s2, q⟩ y => ?_) (fun σ2 H2 ⟨F2, M2, ρ2, r2, g2, s2, q⟩ => ?_)
    · have hk : keep M2 := by
        cases hd : rows.drop i with
        | nil => rw [hd] at q; exact q.1
        | cons a b => rw [hd] at q; exact q.1
      exact hG F2 H2 M2 r2 g2 hk
    · rw [List.drop_eq_getElem_cons hi2] at q
      obtain ⟨hk, q⟩ := q
      have yd := hY i x H2 H3 F2 M2 _ (List.getElem?_eq_getElem hi2) r2 g2 hk y
      refine hg F2 H2 M2 x H3 _ σ2 ρ2 _ _ r2 yd s2 q fun σ4 H4 F4 M4 ρ4 r4 g4 s4 _ q4 => ?_
      have gg := g2.trans g4
      refine hb F4 H4 M4 σ4 ρ4 _ _ r4 (hx.mono (g1.trans gg)) s4 q4 ⟨fun σ5 H5 F5 M5 ρ5 r5 g5 s5 q5 => ⟨F5, M5, ρ5, r5, gg.trans g5, s5, q5⟩, fun v H5 F5 M5 x5 r5 g5 => k.rt v H5 F5 M5 x5 r5 ((g1.trans gg).trans g5), fun σ5 H5 F5 M5 ρ5 r5 g5 => k.nx σ5 H5 F5 M5 ρ5 r5 ((g1.trans gg).trans g5), fun σ5 H5 F5 M5 ρ5 r5 g5 s5 q5 => ⟨F5, M5, ρ5, r5, gg.trans g5, s5, q5⟩⟩
    · rw [List.drop_length] at q
      exact k.nx σ2 H2 F2 M2 ρ2 r2 (g1.trans g2) s2 q.2
/-- while, by an invariant and a measure -/
@[reducible] def whileS (c : TDT) (body : TDS) : TDS := fun D ρ M => ∃ I : Nat → EnvD → Mem → Prop, (∃ m, I m ρ M) ∧ ∀ m ρ M, I m ρ M → c ρ M fun b M1 => if b = true then body ⟨fun ρ' M' => ∃ m', m' < m ∧ I m' ρ' M', D.rt, D.nx, fun ρ' M' => ∃ m', m' < m ∧ I m' ρ' M'⟩ ρ M1 else D.nx ρ M1
theorem ss_while {c : TT} {tb : TS} {C : TDT} {Tb : TDS} (hc : ST K Wx RE c C) (hb : SSt K Wx RE tb Tb) : SSt K Wx RE (tWhile c tb) (whileS C Tb) := fun F H M σ ρ D E hr hx hs ht k => by
  obtain ⟨I, ⟨m0, h0⟩, turn⟩ := ht
  refine ⟨fun m σ2 H2 => ∃ F2 M2 ρ2, Rl K F2 H2 M2 ∧ Gr F H M F2 H2 M2 ∧ RelS K F2 σ2 ρ2 ∧ I m ρ2 M2, ⟨m0, F, M, ρ, hr, .refl, hs, h0⟩, fun m σ2 H2 ⟨F2, M2, ρ2, r2, g2, s2, q⟩ => ?_⟩
  refine hc F2 H2 M2 σ2 ρ2 _ _ r2 (hx.mono g2) s2 (turn m ρ2 M2 q) fun b H3 F3 M3 r3 g3 q3 => ?_
  have gg := g2.trans g3
  by_cases h : b = true
  · rw [if_pos h] at q3 ⊢
    refine ⟨fun σ4 H4 => ∃ m', m' < m ∧ ∃ F4 M4 ρ4, Rl K F4 H4 M4 ∧ Gr F H M F4 H4 M4 ∧ RelS K F4 σ4 ρ4 ∧ I m' ρ4 M4, fun σ4 H4 h4 => h4, ?_⟩
    refine hb F3 H3 M3 σ2 ρ2 _ _ r3 (hx.mono gg) (s2.mono g3.ff) q3 ⟨fun σ5 H5 F5 M5 ρ5 r5 g5 s5 ⟨m', hm, q5⟩ => ⟨m', hm, F5, M5, ρ5, r5, gg.trans g5, s5, q5⟩, fun v H5 F5 M5 x5 r5 g5 => k.rt v H5 F5 M5 x5 r5 (gg.trans g5), fun σ5 H5 F5 M5 ρ5 r5 g5 => k.nx σ5 H5 F5 M5 ρ5 r5 (gg.trans g5), fun σ5 H5 F5 M5 ρ5 r5 g5 s5 ⟨m', hm, q5⟩ => ⟨m', hm, F5, M5, ρ5, r5, gg.trans g5, s5, q5⟩⟩
  · rw [if_neg h] at q3 ⊢
    exact k.nx σ2 H3 F3 M3 ρ2 r3 gg (s2.mono g3.ff) q3
/-- raise -/
@[reducible] def raiseS (RE : REx) (x : Ex) : TDS := fun _ ρ M => RE x ρ M
theorem ss_raise0 {C : Addr} : SSt K Wx RE (fun _ σ H => (fun _ H Q => Q (.ref C) none H : L2.St → Hp → XK → Prop) σ H fun cls d H' => Wx cls d σ H') (raiseS RE ⟨.ref C, []⟩) := fun F H M σ ρ D E hr hx hs ht k =>
  hx F H M σ ρ _ _ ⟨.ref C, []⟩ .refl hr hs ⟨rfl, rfl⟩ ht
/-- a store xs[i] = e -/
theorem ss_setIx {t to ti : TE} {T O I : TDE} (h1 : SE K Wx RE t T) (h2 : SE K Wx RE to O) (h3 : SE K Wx RE ti I) {ts : TSet}
    (hts : ∀ {a : Addr} {vs : List V} {i : Int} {j : Nat} {y : V} {H : Hp} {Q : Hp → Prop}, H a = some (.lst vs) → ixN vs.length i = some j → Q (upd H a (.lst (vs.set j y))) → ts (.ref a) (.int i) y H Q) : SSt K Wx RE (tAsg t (gSub to ti ts)) (setIx T O I) := fun F H M σ ρ D E hr hx hs ht k =>
  h1 F H M σ ρ _ _ hr hx hs ht fun v H1 F1 M1 x r1 g1 rx q1 => h2 F1 H1 M1 σ ρ _ _ r1 (hx.mono g1) (hs.mono g1.ff) q1 fun v2 H2 F2 M2 x2 r2 g2 rx2 q2 =>
    h3 F2 H2 M2 σ ρ _ _ r2 (hx.mono (g1.trans g2)) (hs.mono (g1.trans g2).ff) q2 fun v3 H3 F3 M3 x3 r3 g3 rx3 q3 => by
      obtain ⟨a, rfl, q4⟩ := gR_of q3
      obtain ⟨n, rfl, ws, hw, q5⟩ := gI_of q4
      obtain ⟨j, hj, q6⟩ := gO_of q5
      obtain ⟨vs, e1, e2⟩ := r3.lst hw
      have rv := rx.mono (g2.trans g3).ff
      obtain ⟨r4, g4⟩ := r3.put (u := .lst (vs.set j v)) (o := .lst (ws.set j x)) hw ⟨_, rfl, e2.set rv j⟩
      have e3 := (rx2.mono g3.ff).ref
      rw [e3, rx3.int]
      refine hts e1 (by rw [e2.len]; exact hj) ?_
      have g := ((g1.trans g2).trans g3).trans g4
      exact k.nx σ _ _ _ ρ r4 g (hs.mono g.ff) q6
theorem ts_list {a : Addr} {vs : List V} {i : Int} {j : Nat} {y : V} {H : Hp} {Q : Hp → Prop} (h1 : H a = some (.lst vs)) (h2 : ixN vs.length i = some j) (q : Q (upd H a (.lst (vs.set j y)))) : ∃ p xs i' k, (V.ref a) = .ref p ∧ (V.int i) = .int i' ∧ H p = some (.lst xs) ∧ ixN xs.length i' = some k ∧ Q (upd H p (.lst (xs.set k y))) := ⟨a, vs, i, j, rfl, rfl, h1, h2, q⟩
end
/-! ### defs -/
section
variable {P : Program} {w : World} {K : PySem.W.Frag} {mg : Str → Option Value} {base : Heap}
/-- the slots as a def begins -/
@[reducible] def start0 (n : Nat) (ws : List W) : EnvD := ws.map some ++ List.replicate (n - ws.length) none
theorem slot_rep (m i : Nat) : slot (List.replicate m none) i = none := by
  induction m generalizing i with
  | zero => rfl
  | succ m ih =>
    rw [List.replicate_succ]
    cases i with
    | zero => rfl
    | succ i => exact ih i
theorem slot_start : ∀ {ws : List W} {m i : Nat} {x : W}, slot (ws.map some ++ List.replicate m none) i = some x → ws[i]? = some x
  | [], m, i, x, h => by
    rw [List.map_nil, List.nil_append, slot_rep] at h
    cases h
  | w :: ws, m, 0, x, h => h
  | w :: ws, m, i + 1, x, h => by
    have := slot_start (ws := ws) (m := m) (i := i) h
    simpa using this
theorem rel_start {F : Hp} {N : List Str} {vs : List V} {ws : List W} (r : RWs K F vs ws) : RelS K F (L2.start N vs) (start0 N.length ws) := by
  refine ⟨?_, fun i x c => ?_⟩
  · unfold L2.start start0
    rw [List.length_append, List.length_append, List.length_map, List.length_map, List.length_replicate, List.length_replicate, r.len]
  · obtain ⟨v, h1, h2⟩ := r.got (slot_start c)
    refine ⟨v, ?_, h2⟩
    unfold L2.start
    rw [List.getElem?_append_left (by rw [List.length_map]; exact (List.getElem?_eq_some_iff.mp h1).1), List.getElem?_map, h1]
    rfl
/-- what is wanted behind a def -/
abbrev endD (R : W → Mem → Prop) : EndD := ⟨fun _ M => R (.d .none) M, R, fun _ _ => False, fun _ _ => False⟩
theorem ek_def {F H : Hp} {M : Mem} {R : W → Mem → Prop} {Q : VK} (k : Kt K F H M R Q) : EK K F H M (endD R) { nx := fun _ H' => Q .non H', rt := Q } :=
  ⟨fun σ H' F' M' ρ r g s q => k _ H' F' M' _ r g (.d .non) q, k, fun _ _ _ _ _ _ _ _ z => z.elim, fun _ _ _ _ _ _ _ _ z => z.elim⟩
/-- a def that lets nothing out -/
theorem okD {f : Addr} {fd : FuncData} {k n : Nat} {x qual : Str} {st : Stmt} {N ps : List Str} {tf : TF} (F : Fun K x qual st f fd) (S : FnScope N ps (defScope st)) (hp : ps.length = n)
    (hb : ∀ (cdv : Value) (A : Around) (outer : List Env) (s : Shared) (H : Hp) (E : XK), Room k (A.deeper (PyProof.Rows.envOfC qual (defScope st) s.heap.objs.size f cdv)) →
      ∃ (t : TS) (T : TDS), PSs (cxOf CX0 P w K mg base N qual (defScope st) f cdv A outer s H E).nox (defBody st) t ∧ SSt K (fun _ _ _ _ => False) (fun _ _ _ => False) t T ∧
        ∀ ws M R RX, ws.length = n → tf ws M R RX → T (endD R) (start0 N.length ws) M) : FnOk P w K mg base CX0 (k + 1) f fd ps (spD K n tf) := by
  refine F.ok S (fun vs H Q E h => ?_) (fun cdv A outer s H vs Q E hr h => ?_)
  · obtain ⟨F0, M, ws, R, RX, r, rs, hl, _⟩ := h
    rw [rs.len, hl, hp]
  · obtain ⟨F0, M, ws, R, RX, r, rs, hl, hf, hk, _⟩ := h
    obtain ⟨t, T, h1, h2, h3⟩ := hb cdv A outer s H E hr
    refine ⟨t, h1, h2 F0 H M _ _ _ _ r (fun F' H' M' σ ρ cls d x _ _ _ _ z => z) (rel_start rs) (h3 ws M R RX hl hf) (ek_def hk)⟩
/-- a def that errors may leave -/
theorem okDX {f : Addr} {fd : FuncData} {k n : Nat} {x qual : Str} {st : Stmt} {N ps : List Str} {tf : TF} (F : Fun K x qual st f fd) (S : FnScope N ps (defScope st)) (hp : ps.length = n)
    (hb : ∀ (cdv : Value) (A : Around) (outer : List Env) (s : Shared) (H : Hp) (E : XK), Room k (A.deeper (PyProof.Rows.envOfC qual (defScope st) s.heap.objs.size f cdv)) →
      ∃ (t : TS) (T : REx → TDS), PSs (cxOf (L2.CX P w) P w K mg base N qual (defScope st) f cdv A outer s H E) (defBody st) t ∧ (∀ RE, SSt K (fun cls d _ H => E cls d H) RE t (T RE)) ∧
        ∀ ws M R RX, ws.length = n → tf ws M R RX → T (fun x _ M => RX x M) (endD R) (start0 N.length ws) M) : FnOk P w K mg base (L2.CX P w) (k + 1) f fd ps (spD K n tf) := by
  refine F.okX S (fun vs H Q E h => ?_) (fun cdv A outer s H vs Q E hr h => ?_)
  · obtain ⟨F0, M, ws, R, RX, r, rs, hl, _⟩ := h
    rw [rs.len, hl, hp]
  · obtain ⟨F0, M, ws, R, RX, r, rs, hl, hf, hk, hx⟩ := h
    obtain ⟨t, T, h1, h2, h3⟩ := hb cdv A outer s H E hr
    refine ⟨t, h1, h2 (fun x _ M => RX x M) F0 H M _ _ _ _ r (fun F' H' M' σ ρ cls d x g r' _ xr z => hx cls d H' F' M' x r' g xr z) (rel_start rs) (h3 ws M R RX hl hf) (ek_def hk)⟩
/-- a promise from another one -/
theorem FnOk.toD {CX : CXT} {f : Addr} {fd : FuncData} {k n : Nat} {ps : List Str} {sp : Sp} {tf : TF} (F : FnOk P w K mg base CX k f fd ps sp)
    (h : ∀ F H M vs ws R RX Q E, Rl K F H M → RWs K F vs ws → ws.length = n → tf ws M R RX → Kt K F H M R Q → (∀ cls d H' F' M' x, Rl K F' H' M' → Gr F H M F' H' M' → XRel K F' cls d x → RX x M' → E cls d H') → sp vs H Q E) :
    FnOk P w K mg base CX k f fd ps (spD K n tf) := F.imp fun vs H Q E ⟨F0, M, ws, R, RX, r, rs, hl, hf, hk, hx⟩ => h F0 H M vs ws R RX Q E r rs hl hf hk hx
/-- one promise by another -/
theorem spD_imp {n : Nat} {tf tf' : TF} (h : ∀ ws M R RX, ws.length = n → tf' ws M R RX → tf ws M R RX) : ∀ vs H Q E, spD K n tf' vs H Q E → spD K n tf vs H Q E :=
  fun vs H Q E ⟨F0, M, ws, R, RX, r, rs, hl, hf, hk, hx⟩ => ⟨F0, M, ws, R, RX, r, rs, hl, h ws M R RX hl hf, hk, hx⟩
end
end Tl

set_option Elab.async false
set_option linter.all false
set_option maxRecDepth 100000
set_option maxHeartbeats 4000000
namespace Tl
open PySem L2 RZ
theorem PS.nox {X : Cx} {st : Stmt} {t : TS} (h : PS X.nox st t) : PS X st t := ⟨fun pins s σ H D I hw =>
  wpAny_mono (h.run pins s σ H D (I.wish _) hw) (fun _ _ q => q.unwish) fun _ _ z => False.elim z⟩
section
variable {K : PySem.W.Frag} {Wx : WX} {RE : REx}
@[reducible] def yesT : TDT := fun _ M R => R true M
theorem st_yes : ST K Wx RE tYes yesT := fun F H M σ ρ R Q hr hx hs ht k => k true H F M hr .refl ht
/-- zip of two rows -/
def zipR : List W → List W → List (List W)
  | a :: x, b :: y => [a, b] :: zipR x y
  | _, _ => []
theorem zipR_len : ∀ (x y : List W), (zipR x y).length = min x.length y.length
  | [], _ => by simp [zipR]
  | _ :: _, [] => by simp [zipR]
  | a :: x, b :: y => by rw [zipR, List.length_cons, zipR_len x y, List.length_cons, List.length_cons]; omega
theorem zipR_get : ∀ {x y : List W} {i : Nat} {row : List W}, (zipR x y)[i]? = some row → ∃ a b, x[i]? = some a ∧ y[i]? = some b ∧ row = [a, b]
  | [], _, _, _, h => by simp [zipR] at h
  | _ :: _, [], _, _, h => by simp [zipR] at h
  | a :: x, b :: y, 0, row, h => ⟨a, b, rfl, rfl, by simp [zipR] at h; exact h.symm⟩
  | a :: x, b :: y, i + 1, row, h => by
    obtain ⟨c, d, h1, h2, h3⟩ := zipR_get (x := x) (y := y) (i := i) (row := row) (by simpa [zipR] using h)
    exact ⟨c, d, by simpa using h1, by simpa using h2, h3⟩
/-- two tuples, or two lists of data -/
@[reducible] def itZip (T : TDA) : TDI := fun ρ M R => T ρ M fun xs M1 => g2 xs fun x y => match x, y with
  | .d (.tuple a), .d (.tuple b) => R (zipR (a.map W.d) (b.map W.d)) any1 M1
  | .d (.list a), .d (.list b) => R (zipR (a.map W.d) (b.map W.d)) any1 M1
  | .r p, .d (.list b) => ∃ ws, M1 p = some (.lst ws) ∧ R (zipR ws (b.map W.d)) (fun M => M p = some (.lst ws)) M1
  | _, _ => False
theorem walk_zipT' {a b : Addr} {xs ys : List V} {n : Nat} (hn : n = min xs.length ys.length) : Walk (ItzT K a b) n (fun H => SqT K H a xs ∧ SqT K H b ys) (YPair (fun i => xs[i]?) (fun i => ys[i]?)) := by
  subst hn
  refine ⟨fun i H hi q => ⟨xs, ys, xs[i]'(by omega), ys[i]'(by omega), q.1, q.2, List.getElem?_eq_getElem _, List.getElem?_eq_getElem _⟩, fun H q => ⟨xs, ys, q.1, q.2, by omega⟩, fun i H v H' hi q y => ?_⟩
  obtain ⟨T, x, y, h1, h2, h3, h4, h5⟩ := y
  exact ⟨T, x, y, h1, h2, h3, h4 xs q.1, h5 ys q.2⟩
theorem si_zip {n : Nat} {t : TA} {T : TDA} (h : SAn K Wx RE n t T) : SI K Wx RE (iZipA K t) true (itZip T) := fun F H M σ ρ R Q hr hx hs ht k =>
  h F H M σ ρ _ _ hr hx hs ht fun vs H1 F1 M1 xs r1 g1 rxs hl h1 => by
    obtain ⟨x, y, rfl, h2⟩ := g2_of h1
    obtain ⟨v, u, rfl, rx, ry⟩ := rxs.two
    have fin : ∀ {as bs : List PyData} {xv yv : List V} {J : It} {G : Hp → Prop}, DxL K F1 xv as → DxL K F1 yv bs → Walk J (min xv.length yv.length) G (YPair (fun i => xv[i]?) (fun i => yv[i]?)) → (∀ F2 H2 M2, Rl K F2 H2 M2 → Gr F1 H1 M1 F2 H2 M2 → G H2) →
        ItOk K F1 H1 M1 J (zipR (as.map W.d) (bs.map W.d)) any1 true := fun {as bs xv yv J G} d1 d2 wk hG => by
      refine ItOk.of wk (by rw [zipR_len, List.length_map, List.length_map, d1.len, d2.len]) (fun F2 H2 M2 r2 g2 _ => hG F2 H2 M2 r2 g2) fun i x H2 H3 F2 M2 row hrow r2 g2 _ yy => ?_
      obtain ⟨a, b, ha, hb, rfl⟩ := zipR_get hrow
      rw [List.getElem?_map] at ha hb
      obtain ⟨da, ha2, ea2⟩ := Option.map_eq_some_iff.mp ha
      obtain ⟨db, hb2, eb2⟩ := Option.map_eq_some_iff.mp hb
      subst ea2 eb2
      obtain ⟨va, ea, qa⟩ := d1.got ha2
      obtain ⟨vb, eb, qb⟩ := d2.got hb2
      obtain ⟨T', x', y', rfl, hT, rfl, hx', hy'⟩ := yy
      have hx'' : xv[i]? = some x' := hx'
      have hy'' : yv[i]? = some y' := hy'
      rw [ea] at hx''
      rw [eb] at hy''
      cases hx''
      cases hy''
      exact ⟨T', _, _, _, _, rfl, rfl, hT, rfl, .d (Dx.mono g2.ff _ _ qa), .d (Dx.mono g2.ff _ _ qb)⟩
    split at h2
    · obtain ⟨a, xv, rfl, a1, a2⟩ := rx.tup
      obtain ⟨b, yv, rfl, b1, b2⟩ := ry.tup
      refine ⟨a, b, xv, yv, rfl, .inr ⟨same_t r1.fh a1, same_t r1.fh b1, k _ H1 F1 M1 _ _ r1 g1 ?_ h2⟩⟩
      exact fin a2 b2 (walk_zipT' rfl) fun F2 H2 M2 r2 g2 => ⟨same_t (g2.ff.trans r2.fh) a1, same_t (g2.ff.trans r2.fh) b1⟩
    · obtain ⟨a, xv, rfl, a1, a2⟩ := rx.lst
      obtain ⟨b, yv, rfl, b1, b2⟩ := ry.lst
      refine ⟨a, b, xv, yv, rfl, .inl ⟨SqL.of (r1.fh _ _ a1), SqL.of (r1.fh _ _ b1), k _ H1 F1 M1 _ _ r1 g1 ?_ h2⟩⟩
      exact fin a2 b2 (walk_zip rfl) fun F2 H2 M2 r2 g2 => ⟨SqL.of ((g2.ff.trans r2.fh) _ _ a1), SqL.of ((g2.ff.trans r2.fh) _ _ b1)⟩
    · rename_i p bs
      obtain ⟨ws, hw, h3⟩ := h2
      obtain ⟨b, yv, rfl, b1, b2⟩ := ry.lst
      rw [rx.ref]
      obtain ⟨xv, e1, e2⟩ := r1.lst hw
      refine ⟨p, b, xv, yv, rfl, .inl ⟨SqL.of e1, SqL.of (r1.fh _ _ b1), k _ H1 F1 M1 _ _ r1 g1 ?_ h3⟩⟩
      refine ItOk.of (n := min ws.length yv.length) (G := fun H => (∃ vs, H p = some (.lst vs) ∧ vs.length = ws.length) ∧ SqL K H b yv) (Y := fun i H v H' => ∃ T x y, v = .ref T ∧ H T = none ∧ H' = upd H T (.tup [x, y]) ∧ (∀ vs, H p = some (.lst vs) → vs[i]? = some x) ∧ yv[i]? = some y) ?_ (by rw [zipR_len, List.length_map, b2.len]) (fun F2 H2 M2 r2 g2 hk => ?_) (fun i x H2 H3 F2 M2 row hrow r2 g2 hk yy => ?_)
      · refine ⟨fun i H hi ⟨⟨vs, q1, q2⟩, q3⟩ => ⟨vs, yv, vs[i]'(by omega), yv[i]'(by omega), SqL.of q1, q3, List.getElem?_eq_getElem _, List.getElem?_eq_getElem _⟩, fun H ⟨⟨vs, q1, q2⟩, q3⟩ => ⟨vs, yv, SqL.of q1, q3, by omega⟩, fun i H v H' hi ⟨⟨vs, q1, q2⟩, q3⟩ y => ?_⟩
        obtain ⟨T, x, y, h1, h2, h3, h4, h5⟩ := y
        exact ⟨T, x, y, h1, h2, h3, fun us hu => h4 us (SqL.of hu), h5 yv q3⟩
      · obtain ⟨vs, q1, q2⟩ := r2.lst hk
        exact ⟨⟨vs, q1, q2.len⟩, SqL.of ((g2.ff.trans r2.fh) _ _ b1)⟩
      · obtain ⟨a, b', ha, hb, rfl⟩ := zipR_get hrow
        rw [List.getElem?_map] at hb
        obtain ⟨db, hb2, eb2⟩ := Option.map_eq_some_iff.mp hb
        subst eb2
        obtain ⟨vs, q1, q2⟩ := r2.lst hk
        obtain ⟨va, ea, qa⟩ := q2.got ha
        obtain ⟨vb, eb, qb⟩ := b2.got hb2
        obtain ⟨T', x', y', rfl, hT, rfl, hx', hy'⟩ := yy
        have := hx' vs q1
        rw [ea] at this
        rw [eb] at hy'
        cases this
        cases hy'
        exact ⟨T', _, _, _, _, rfl, rfl, hT, rfl, qa, .d (Dx.mono g2.ff _ _ qb)⟩
    · exact h2.elim
/-- x += e, numbers -/
@[reducible] def augI (g : Int → Int → Int) (i : Nat) (T : TDE) : TDS := fun D ρ M => match slot ρ i with | some x => T ρ M fun y M1 => gI x fun a => gI y fun b => D.nx (put ρ i (some (.d (.int (g a b))))) M1 | none => False
theorem ss_augI {g : Int → Int → Int} {i : Nat} {t : TE} {T : TDE} (h : SE K Wx RE t T) : SSt K Wx RE (tAug i t (ipI g)) (augI g i T) := fun F H M σ ρ D E hr hx hs ht k => by
  unfold augI at ht
  cases c : slot ρ i with
  | none => rw [c] at ht; exact ht.elim
  | some x =>
    rw [c] at ht
    obtain ⟨v, h1, h2⟩ := hs.at_ i x c
    refine ⟨v, h1, h F H M σ ρ _ _ hr hx hs ht fun u H1 F1 M1 y r1 g1 ry q1 => ?_⟩
    obtain ⟨a, rfl, q2⟩ := gI_of q1
    obtain ⟨b, rfl, q3⟩ := gI_of q2
    exact ⟨a, b, h2.int, ry.int, k.nx _ H1 F1 M1 _ r1 g1 ((hs.mono g1.ff).set (.d (.int _)) i) q3⟩
@[reducible] def fMin2 : FL := fun xs M R => g2 xs fun x y => gI x fun i => gI y fun j => R (.d (.int (if j < i then j else i))) M
theorem sc_min2 : SC K (fun xs H Q => ∃ i j, xs = [V.int i, .int j] ∧ Q (.int (if j < i then j else i)) H) fMin2 := fun F H M vs xs R Q hr rx hf k => by
  obtain ⟨x, y, rfl, h1⟩ := g2_of hf
  obtain ⟨v, u, rfl, r, r'⟩ := rx.two
  obtain ⟨i, rfl, h2⟩ := gI_of h1
  obtain ⟨j, rfl, h3⟩ := gI_of h2
  exact ⟨i, j, by rw [r.int, r'.int], k _ H F M _ hr .refl (.d (.int _)) h3⟩
theorem se_ckMax {n m : Nat} {t u : TA} {T U : TDA} (h : SAn K Wx RE n t T) (h' : SAn K Wx RE m u U) : SE K Wx RE (tCKw (rMaxDf K) t u) (ckT fMaxD T U) := fun F H M σ ρ R Q hr hx hs ht k =>
  h F H M σ ρ _ _ hr hx hs ht fun vs H1 F1 M1 xs r1 g1 rxs hl h1 => h' F1 H1 M1 σ ρ _ _ r1 (hx.mono g1) (hs.mono g1.ff) h1 fun us H2 F2 M2 ys r2 g2 rys hl2 h2 => by
    obtain ⟨x, rfl, h3⟩ := g1_of h2
    obtain ⟨y, rfl, h4⟩ := g1_of h3
    obtain ⟨d, rfl, h5⟩ := gI_of h4
    obtain ⟨v, rfl, rv⟩ := rxs.one
    obtain ⟨u', rfl, ru⟩ := rys.one
    obtain ⟨a, zs, ws, rfl, e1, e2, h6⟩ := gW_of r2 (rv.mono g2.ff) h5
    obtain ⟨bs, rfl, h7⟩ := gIs_of h6
    refine ⟨a, bs, d, rfl, by rw [ru.int], ?_, fun e => ?_, fun m m1 m2 => ?_⟩
    · rw [← rws_int e2]
      exact SqL.of e1
    · subst e
      exact k _ H2 F2 M2 _ r2 (g1.trans g2) (.d (.int _)) h7
    · rw [if_neg (fun z => List.ne_nil_of_mem m1 (List.eq_nil_of_length_eq_zero z)), mxI_eq m1 m2] at h7
      exact k _ H2 F2 M2 _ r2 (g1.trans g2) (.d (.int _)) h7
/-- ','.join(..) -/
@[reducible] def joinT (T U : TDE) : TDE := fun ρ M R => T ρ M fun x M1 => gS x fun a => U ρ M1 fun y M2 => gRow M2 y fun ws => gSs ws fun ys => (ys.map (·.length)).sum + ys.length * a.length ≤ 16777216 ∧ R (.d (.str (Txt.join a ys))) M2
theorem se_join {to te : TE} {T U : TDE} (h1 : SE K Wx RE to T) (h2 : SE K Wx RE te U) : SE K Wx RE (tM1 (fun x xs H Q => ∃ a p, ∃ ys : List Str, x = .str a ∧ xs = [V.ref p] ∧ (SqL K H p (ys.map V.str) ∨ SqT K H p (ys.map V.str)) ∧
      (ys.map (·.length)).sum + ys.length * a.length ≤ 16777216 ∧ Q (.str (Txt.join a ys)) H) to te) (joinT T U) := fun F H M σ ρ R Q hr hx hs ht k =>
  h1 F H M σ ρ _ _ hr hx hs ht fun v H1 F1 M1 x r1 g1 rx q1 => by
    obtain ⟨a, rfl, q2⟩ := gS_of q1
    refine ⟨⟨a, rx.str⟩, h2 F1 H1 M1 σ ρ _ _ r1 (hx.mono g1) (hs.mono g1.ff) q2 fun u H2 F2 M2 y r2 g2 ry q3 => ?_⟩
    obtain ⟨p, vs, ws, rfl, e1, e2, q4⟩ := gRow_of r2 ry q3
    obtain ⟨ys, rfl, hz, q5⟩ := gSs_of q4
    rw [rws_str e2] at e1
    exact ⟨a, p, ys, rx.str, rfl, e1, hz, k _ H2 F2 M2 _ r2 (g1.trans g2) (.d (.str _)) q5⟩
/-- x in a row of plain things -/
def flatP : PyData → Bool
  | .none => true
  | .bool _ => true
  | .int _ => true
  | .str _ => true
  | _ => false
def eqP : PyData → PyData → Bool
  | .none, .none => true
  | .bool a, .bool b => a == b
  | .bool a, .int b => (if a then 1 else 0) == b
  | .int a, .bool b => a == (if b then 1 else 0)
  | .int a, .int b => a == b
  | .str a, .str b => a == b
  | _, _ => false
theorem flat_dx {F : Hp} {v : V} {d : PyData} (h : Dx K F v d) : flatV v = flatP d := by cases h <;> rfl
theorem eqP_dx {F : Hp} {v u : V} {d e : PyData} (h : Dx K F v d) (h' : Dx K F u e) : eqV v u = eqP d e := by cases h <;> cases h' <;> rfl
theorem flats_dx {F : Hp} : ∀ {vs : List V} {ds : List PyData}, DxL K F vs ds → vs.all flatV = ds.all flatP
  | _, _, .nil => rfl
  | _, _, .cons a b => by rw [List.all_cons, List.all_cons, flat_dx a, flats_dx b]
theorem inV_dx {F : Hp} {v : V} {d : PyData} (h : Dx K F v d) : ∀ {vs : List V} {ds : List PyData}, DxL K F vs ds → inV v vs = ds.any fun e => eqP e d
  | _, _, .nil => rfl
  | _, _, .cons a b => by
    have := inV_dx h b
    unfold inV at this ⊢
    rw [List.any_cons, List.any_cons, eqP_dx a h, this]
@[reducible] def fInQ (neg : Bool) : F2 := fun x y M R => gD x fun d => gRow M y fun ws => gDs ws fun ds => (flatP d = true ∧ ds.all flatP = true) ∧ R (.d (.bool (if neg then !(ds.any fun e => eqP e d) else ds.any fun e => eqP e d))) M
theorem so_inQ0 {neg : Bool} : SO K (rIn K neg) (fInQ neg) := fun F H M v u x y R Q hr rx ry hf k => by
  obtain ⟨d, rfl, h1⟩ := gD_of hf
  obtain ⟨p, vs, ws, rfl, e1, e2, h2⟩ := gRow_of hr ry h1
  obtain ⟨ds, rfl, ⟨c1, c2⟩, h3⟩ := gDs_of h2
  refine ⟨p, vs, rfl, e1, by rw [flat_dx rx.dx]; exact c1, by rw [flats_dx e2.undat]; exact c2, ?_⟩
  rw [inV_dx rx.dx e2.undat]
  exact k _ H F M _ hr .refl (.d (.bl _)) h3
theorem so_inQ : SO K (rIn K false) (fInQ false) := so_inQ0
theorem so_ninQ : SO K (rIn K true) (fInQ true) := so_inQ0
/-- repr -/
@[reducible] def fRepr : FL := fun xs M R => g1 xs fun x => asD M x fun d => ((d.hasDict = false ∨ d = .dict []) ∧ shOk d) ∧ R (.d (.str d.shown)) M
theorem sc_repr : SC K (rReprD K) fRepr := fun F H M vs xs R Q hr rx hf k => by
  obtain ⟨x, rfl, h1⟩ := g1_of hf
  obtain ⟨v, rfl, r⟩ := rx.one
  obtain ⟨d, F', e1, e2, dv, ⟨hd, h2, h3, h4⟩, h5⟩ := asD_of hr r h1
  refine ⟨v, d, rfl, ?_, h2, h3, h4, k _ H F M _ hr .refl (.d (.str _)) h5⟩
  rcases hd with hd | rfl
  · exact .d (Dx.dp _ _ (Dx.mono e2 _ _ dv) hd)
  · cases dv with
    | dic h => exact .e (e2 _ _ h)
end
end Tl

set_option Elab.async false
set_option linter.all false
set_option maxRecDepth 100000
set_option maxHeartbeats 4000000
namespace Tl
open PySem L2
theorem rows1_map {α : Type} (f : α → W) (xs : List α) : rows1 (xs.map f) = xs.map fun a => [f a] := by
  unfold rows1
  rw [List.map_map]
  rfl
section
variable {b : TDG} {keep : Mem → Prop} {tt : TDT} {te : TDE} {ρ : EnvD} {fin : List W → Mem → Prop} {M : Mem}
/-- each of some rows gives an item -/
theorem lc_map {α : Type} {row : α → List W} (g : α → W) (hk : keep M) : ∀ (xs : List α) (acc : List W), (∀ a ∈ xs, ∀ Rk : W → Mem → Prop, Rk (g a) M → b (row a) ρ M fun ρ1 M1 => te ρ1 M1 Rk) → acc.length + xs.length ≤ sizeLine → fin (acc ++ xs.map g) M → lcGo b keep yesT te ρ fin (xs.map row) acc M
  | [], acc, hb, hl, h => by
    rw [List.map_nil, lcGo]
    rw [List.map_nil, List.append_nil] at h
    exact ⟨hk, h⟩
  | a :: xs, acc, hb, hl, h => by
    rw [List.map_cons, lcGo]
    rw [List.length_cons] at hl
    refine ⟨hk, hb a (.head _) _ ⟨by omega, lc_map g hk xs (acc ++ [g a]) (fun x hx => hb x (.tail _ hx)) (by rw [List.length_append]; simp; omega) (by rw [List.append_assoc]; exact h)⟩⟩
/-- each of some rows gives an item, or none -/
theorem lc_filter {α : Type} {row : α → List W} (p : α → Bool) (g : α → W) (hk : keep M) : ∀ (xs : List α) (acc : List W), (∀ a ∈ xs, ∀ (Rk : W → Mem → Prop) (Rn : Mem → Prop), (p a = true → Rk (g a) M) → (p a = false → Rn M) → b (row a) ρ M fun ρ1 M1 => tt ρ1 M1 fun c M2 => if c = true then te ρ1 M2 Rk else Rn M2) → acc.length + xs.length ≤ sizeLine → fin (acc ++ (xs.filter p).map g) M → lcGo b keep tt te ρ fin (xs.map row) acc M
  | [], acc, hb, hl, h => by
    rw [List.map_nil, lcGo]
    rw [List.filter_nil, List.map_nil, List.append_nil] at h
    exact ⟨hk, h⟩
  | a :: xs, acc, hb, hl, h => by
    rw [List.map_cons, lcGo]
    rw [List.length_cons] at hl
    refine ⟨hk, hb a (.head _) _ _ (fun c => ⟨by omega, lc_filter p g hk xs (acc ++ [g a]) (fun x hx => hb x (.tail _ hx)) (by rw [List.length_append]; simp; omega) ?_⟩) (fun c => lc_filter p g hk xs acc (fun x hx => hb x (.tail _ hx)) (by omega) ?_)⟩
    · rw [List.filter_cons_of_pos c, List.map_cons] at h
      rw [List.append_assoc]
      exact h
    · rw [List.filter_cons_of_neg (by rw [c]; exact Bool.false_ne_true)] at h
      exact h
/-- one name, over a list of data -/
theorem lc1 {α : Type} {i : Nat} {f : α → W} (g : α → W) (hk : keep M) {xs : List α} (hb : ∀ a ∈ xs, ∀ Rk : W → Mem → Prop, Rk (g a) M → te (put ρ i (some (f a))) M Rk) (hl : xs.length ≤ sizeLine) (h : fin (xs.map g) M) : lcGo (bName i) keep yesT te ρ fin (rows1 (xs.map f)) [] M := by
  rw [rows1_map]
  exact lc_map g hk xs [] (fun a ha Rk q => hb a ha Rk q) (by simpa using hl) h
theorem lc1f {α : Type} {i : Nat} {f : α → W} (p : α → Bool) (g : α → W) (hk : keep M) {xs : List α} (hb : ∀ a ∈ xs, ∀ (Rk : W → Mem → Prop) (Rn : Mem → Prop), (p a = true → Rk (g a) M) → (p a = false → Rn M) → tt (put ρ i (some (f a))) M fun c M2 => if c = true then te (put ρ i (some (f a))) M2 Rk else Rn M2) (hl : xs.length ≤ sizeLine) (h : fin ((xs.filter p).map g) M) : lcGo (bName i) keep tt te ρ fin (rows1 (xs.map f)) [] M := by
  rw [rows1_map]
  exact lc_filter p g hk xs [] (fun a ha Rk Rn q1 q2 => hb a ha Rk Rn q1 q2) (by simpa using hl) h
end
/-- a for, by what holds at each turn -/
theorem for_ix {b : TDG} {keep : Mem → Prop} {body : TDS} {D : EndD} {rows : List (List W)} {ρ : EnvD} {M : Mem} (Pv : Nat → EnvD → Mem → Prop) (h0 : Pv 0 ρ M) (hk : ∀ i ρ M, i ≤ rows.length → Pv i ρ M → keep M)
    (hs : ∀ i row ρ M (N : EnvD → Mem → Prop), rows[i]? = some row → Pv i ρ M → (∀ ρ' M', Pv (i + 1) ρ' M' → N ρ' M') → b row ρ M fun ρ1 M1 => body ⟨N, D.rt, D.nx, N⟩ ρ1 M1) (hd : ∀ ρ M, Pv rows.length ρ M → D.nx ρ M) : forGo b keep body D rows ρ M := by
  have go : ∀ (n i : Nat) (ρ : EnvD) (M : Mem), n = rows.length - i → i ≤ rows.length → Pv i ρ M → forGo b keep body D (rows.drop i) ρ M := by
    intro n
    induction n with
    | zero =>
      intro i ρ M hn hi p
      have e : i = rows.length := by omega
      subst e
      rw [List.drop_length, forGo]
      exact ⟨hk _ _ _ (Nat.le_refl _) p, hd ρ M p⟩
    | succ n ih =>
      intro i ρ M hn hi p
      have hi2 : i < rows.length := by omega
      rw [List.drop_eq_getElem_cons hi2, forGo]
      exact ⟨hk _ _ _ hi p, hs i _ ρ M _ (List.getElem?_eq_getElem hi2) p fun ρ' M' p' => ih (i + 1) ρ' M' (by omega) (by omega) p'⟩
  exact go _ 0 ρ M rfl (Nat.zero_le _) h0
/-- over a list of things, one name -/
theorem for1 {α : Type} {i : Nat} {f : α → W} {keep : Mem → Prop} {body : TDS} {D : EndD} {xs : List α} {ρ : EnvD} {M : Mem} (Pv : Nat → EnvD → Mem → Prop) (h0 : Pv 0 ρ M) (hk : ∀ i ρ M, i ≤ xs.length → Pv i ρ M → keep M)
    (hs : ∀ j a ρ M (N : EnvD → Mem → Prop), xs[j]? = some a → Pv j ρ M → (∀ ρ' M', Pv (j + 1) ρ' M' → N ρ' M') → body ⟨N, D.rt, D.nx, N⟩ (put ρ i (some (f a))) M) (hd : ∀ ρ M, Pv xs.length ρ M → D.nx ρ M) : forGo (bName i) keep body D (rows1 (xs.map f)) ρ M := by
  have el : (rows1 (xs.map f)).length = xs.length := by rw [rows1_map, List.length_map]
  refine for_ix Pv h0 (fun i ρ M hi p => hk i ρ M (by rw [← el]; exact hi) p) (fun j row ρ M N hrow p hN => ?_) (fun ρ M p => hd ρ M (by rw [← el]; exact p))
  rw [rows1_map, List.getElem?_map] at hrow
  obtain ⟨a, ha, e⟩ := Option.map_eq_some_iff.mp hrow
  subst e
  exact hs j a ρ M N ha p hN
/-- over numbers -/
theorem forR {i : Nat} {lo : Int} {n : Nat} {keep : Mem → Prop} {body : TDS} {D : EndD} {ρ : EnvD} {M : Mem} (Pv : Nat → EnvD → Mem → Prop) (h0 : Pv 0 ρ M) (hk : ∀ i ρ M, i ≤ n → Pv i ρ M → keep M)
    (hs : ∀ j ρ M (N : EnvD → Mem → Prop), j < n → Pv j ρ M → (∀ ρ' M', Pv (j + 1) ρ' M' → N ρ' M') → body ⟨N, D.rt, D.nx, N⟩ (put ρ i (some (.d (.int (lo + (j : Nat)))))) M) (hd : ∀ ρ M, Pv n ρ M → D.nx ρ M) : forGo (bName i) keep body D (rows1 (rng lo n)) ρ M := by
  unfold rng
  refine for1 Pv h0 (fun i ρ M hi p => hk i ρ M (by simpa using hi) p) (fun j a ρ M N ha p hN => ?_) (fun ρ M p => hd ρ M (by simpa using p))
  have e : a = j ∧ j < n := by
    obtain ⟨h1, h2⟩ := List.getElem?_eq_some_iff.mp ha
    rw [List.length_range] at h1
    simp at h2
    exact ⟨h2.symm, h1⟩
  obtain ⟨rfl, hj⟩ := e
  exact hs a ρ M N hj p hN
/-- pairs with their numbers -/
theorem forE {i j : Nat} {keep : Mem → Prop} {body : TDS} {D : EndD} {ws : List W} {ρ : EnvD} {M : Mem} (Pv : Nat → EnvD → Mem → Prop) (h0 : Pv 0 ρ M) (hk : ∀ i ρ M, i ≤ ws.length → Pv i ρ M → keep M)
    (hs : ∀ n a ρ M (N : EnvD → Mem → Prop), ws[n]? = some a → Pv n ρ M → (∀ ρ' M', Pv (n + 1) ρ' M' → N ρ' M') → body ⟨N, D.rt, D.nx, N⟩ (put (put ρ i (some (.d (.int (n : Nat))))) j (some a)) M) (hd : ∀ ρ M, Pv ws.length ρ M → D.nx ρ M) : forGo (bPair i j) keep body D (enumR 0 ws) ρ M := by
  refine for_ix Pv h0 (fun i ρ M hi p => hk i ρ M (by rw [← enumR_len 0 ws]; exact hi) p) (fun n row ρ M N hrow p hN => ?_) (fun ρ M p => hd ρ M (by rw [← enumR_len 0 ws]; exact p))
  obtain ⟨a, ha, rfl⟩ := enumR_get hrow
  rw [Nat.zero_add]
  exact hs n a ρ M N ha p hN
/-- pairs of two rows -/
theorem forZ {i j : Nat} {keep : Mem → Prop} {body : TDS} {D : EndD} {xs ys : List W} {ρ : EnvD} {M : Mem} (hl : xs.length = ys.length) (Pv : Nat → EnvD → Mem → Prop) (h0 : Pv 0 ρ M) (hk : ∀ i ρ M, i ≤ xs.length → Pv i ρ M → keep M)
    (hs : ∀ n a c ρ M (N : EnvD → Mem → Prop), xs[n]? = some a → ys[n]? = some c → Pv n ρ M → (∀ ρ' M', Pv (n + 1) ρ' M' → N ρ' M') → body ⟨N, D.rt, D.nx, N⟩ (put (put ρ i (some a)) j (some c)) M) (hd : ∀ ρ M, Pv xs.length ρ M → D.nx ρ M) : forGo (bPair i j) keep body D (zipR xs ys) ρ M := by
  have el : (zipR xs ys).length = xs.length := by rw [zipR_len]; omega
  refine for_ix Pv h0 (fun i ρ M hi p => hk i ρ M (by rw [← el]; exact hi) p) (fun n row ρ M N hrow p hN => ?_) (fun ρ M p => hd ρ M (by rw [← el]; exact p))
  obtain ⟨a, c, ha, hc, rfl⟩ := zipR_get hrow
  exact hs n a c ρ M N ha hc p hN
end Tl

set_option Elab.async false
set_option linter.all false
set_option maxRecDepth 100000
set_option maxHeartbeats 4000000
namespace Tl
open PySem L2
theorem b_list {X : Cx} (T : Bl X.mg) {p : Pos} (hg : Gl X "list" := by rfl) : PE X (.Name "list" p) (tC (.ty "list")) := pe_bltn hg T.list PyProof.Rows.boot_list rfl
/-- what nobody looks at any more is left out -/
def lax (R : W → Mem → Prop) : W → Mem → Prop := fun x M => ∃ M0, (∀ a o, M0 a = some o → M a = some o) ∧ R x M0
theorem lax_of {R : W → Mem → Prop} {x : W} {M : Mem} (h : R x M) : lax R x M := ⟨M, fun _ _ h => h, h⟩
theorem Rl.less {K : PySem.W.Frag} {F H : Hp} {M M0 : Mem} (h : Rl K F H M) (e : ∀ a o, M0 a = some o → M a = some o) : Rl K F H M0 :=
  ⟨h.fh, fun a o c => h.mf a o (e a o c), fun a o c => h.at_ a o (e a o c)⟩
theorem none_less {M M0 : Mem} (e : ∀ a o, M0 a = some o → M a = some o) {b : Addr} (h : M b = none) : M0 b = none := by
  cases c : M0 b with
  | none => rfl
  | some o => rw [e b o c] at h; cases h
theorem kt_lax {K : PySem.W.Frag} {F H : Hp} {M : Mem} {R : W → Mem → Prop} {Q : VK} (k : Kt K F H M R Q) : Kt K F H M (lax R) Q := fun v H' F' M' x r g rx ⟨M0, e, h⟩ =>
  k v H' F' M0 x (r.less e) ⟨g.ff, fun b u h1 h2 => ⟨(g.un b u h1 h2).1, none_less e (g.un b u h1 h2).2⟩, g.nf⟩ rx h
section
variable {P : Program} {w : World} {K : PySem.W.Frag} {mg : Str → Option Value} {base : Heap}
theorem okDL {f : Addr} {fd : FuncData} {k n : Nat} {x qual : Str} {st : Stmt} {N ps : List Str} {tf : TF} (F : Fun K x qual st f fd) (S : FnScope N ps (defScope st)) (hp : ps.length = n)
    (hb : ∀ (cdv : Value) (A : Around) (outer : List Env) (s : Shared) (H : Hp) (E : XK), Room k (A.deeper (PyProof.Rows.envOfC qual (defScope st) s.heap.objs.size f cdv)) →
      ∃ (t : TS) (T : TDS), PSs (cxOf CX0 P w K mg base N qual (defScope st) f cdv A outer s H E).nox (defBody st) t ∧ SSt K (fun _ _ _ _ => False) (fun _ _ _ => False) t T ∧
        ∀ ws M R RX, ws.length = n → tf ws M R RX → T (endD (lax R)) (start0 N.length ws) M) : FnOk P w K mg base CX0 (k + 1) f fd ps (spD K n tf) := by
  refine F.ok S (fun vs H Q E h => ?_) (fun cdv A outer s H vs Q E hr h => ?_)
  · obtain ⟨F0, M, ws, R, RX, r, rs, hl, _⟩ := h
    rw [rs.len, hl, hp]
  · obtain ⟨F0, M, ws, R, RX, r, rs, hl, hf, hk, _⟩ := h
    obtain ⟨t, T, h1, h2, h3⟩ := hb cdv A outer s H E hr
    refine ⟨t, h1, h2 F0 H M _ _ _ _ r (fun F' H' M' σ ρ cls d x _ _ _ _ z => z) (rel_start rs) (h3 ws M R RX hl hf) (ek_def (kt_lax hk))⟩
theorem okDXL {f : Addr} {fd : FuncData} {k n : Nat} {x qual : Str} {st : Stmt} {N ps : List Str} {tf : TF} (F : Fun K x qual st f fd) (S : FnScope N ps (defScope st)) (hp : ps.length = n)
    (hb : ∀ (cdv : Value) (A : Around) (outer : List Env) (s : Shared) (H : Hp) (E : XK), Room k (A.deeper (PyProof.Rows.envOfC qual (defScope st) s.heap.objs.size f cdv)) →
      ∃ (t : TS) (T : REx → TDS), PSs (cxOf (L2.CX P w) P w K mg base N qual (defScope st) f cdv A outer s H E) (defBody st) t ∧ (∀ RE, SSt K (fun cls d _ H => E cls d H) RE t (T RE)) ∧
        ∀ ws M R RX, ws.length = n → tf ws M R RX → T (fun x _ M => RX x M) (endD (lax R)) (start0 N.length ws) M) : FnOk P w K mg base (L2.CX P w) (k + 1) f fd ps (spD K n tf) := by
  refine F.okX S (fun vs H Q E h => ?_) (fun cdv A outer s H vs Q E hr h => ?_)
  · obtain ⟨F0, M, ws, R, RX, r, rs, hl, _⟩ := h
    rw [rs.len, hl, hp]
  · obtain ⟨F0, M, ws, R, RX, r, rs, hl, hf, hk, hx⟩ := h
    obtain ⟨t, T, h1, h2, h3⟩ := hb cdv A outer s H E hr
    refine ⟨t, h1, h2 (fun x _ M => RX x M) F0 H M _ _ _ _ r (fun F' H' M' σ ρ cls d x g r' _ xr z => hx cls d H' F' M' x r' g xr z) (rel_start rs) (h3 ws M R RX hl hf) (ek_def (kt_lax hk))⟩
end
section
variable {K : PySem.W.Frag} {Wx : WX} {RE : REx}
/-- a range with a step -/
@[reducible] def itR3 (T : TDA) : TDI := fun ρ M R => T ρ M fun xs M1 => match xs with
  | [x, y, z] => gI x fun i => gI y fun j => gI z fun c => ∃ n, RgC i j c n ∧ R (rows1 (rngC i c n)) any1 M1
  | _ => False
theorem rngC_ok {F H : Hp} {M : Mem} {lo c : Int} {n : Nat} : ItOk K F H M (Itc lo c n) (rows1 (rngC lo c n)) any1 false := by
  refine ItOk.of (walk_rangeC (lo := lo) (c := c) (n := n)) (by unfold rows1 rngC; rw [List.length_map, List.length_map, List.length_range]) (fun F2 H2 M2 r2 g2 _ => True.intro) (fun i x H2 H3 F2 M2 row hrow r2 g2 _ y => ?_)
  obtain ⟨w, hw, rfl⟩ := rows1_get hrow
  unfold rngC at hw
  rw [List.getElem?_map] at hw
  obtain ⟨e, he, rfl⟩ := Option.map_eq_some_iff.mp hw
  have e' : e = i := by
    obtain ⟨h1, h2⟩ := List.getElem?_eq_some_iff.mp he
    rw [← h2]
    simp
  subst e'
  obtain ⟨rfl, rfl⟩ := y
  exact ⟨_, rfl, rfl, .d (.int _)⟩
theorem si_r3 {t : TA} {T : TDA} {n : Nat} (h : SAn K Wx RE n t T) : SI K Wx RE (iRng3 t) false (itR3 T) := fun F H M σ ρ R Q hr hx hs ht k =>
  h F H M σ ρ _ _ hr hx hs ht fun vs H1 F1 M1 xs r1 g1 rxs hl h1 => by
    split at h1
    · obtain ⟨i, rfl, h2⟩ := gI_of h1
      obtain ⟨j, rfl, h3⟩ := gI_of h2
      obtain ⟨c, rfl, m, hc, h4⟩ := gI_of h3
      cases rxs with
      | cons a rxs =>
      cases rxs with
      | cons b rxs =>
      cases rxs with
      | cons d rxs =>
      cases rxs
      exact ⟨i, j, c, m, by rw [a.int, b.int, d.int], hc, k _ H1 F1 M1 _ _ r1 g1 rngC_ok h4⟩
    · exact h1.elim
/-- list.insert, list.pop -/
@[reducible] def fInsert : W → List W → Mem → (W → Mem → Prop) → Prop := fun x xs M R => gR x fun a => g2 xs fun i y => gI i fun i => ∃ ws, M a = some (.lst ws) ∧ (ws.length < sizeLine ∧ 0 ≤ i ∧ i ≤ 1000000) ∧ R (.d .none) (mset M a (.lst (ws.take i.toNat ++ [y] ++ ws.drop i.toNat)))
theorem sm_insert : SM K (fun x vs H Q => ∃ (l : Addr) (xs : List V) (i : Int) (y : V), x = .ref l ∧ vs = [.int i, y] ∧ H l = some (.lst xs) ∧ xs.length < sizeLine ∧ 0 ≤ i ∧ i < 2 ^ 63 ∧
    Q .non (upd H l (.lst (xs.take i.toNat ++ [y] ++ xs.drop i.toNat)))) fInsert := fun F H M v vs x xs R Q hr rx rxs hf k => by
  obtain ⟨a, rfl, h1⟩ := gR_of hf
  obtain ⟨i, y, rfl, h2⟩ := g2_of h1
  obtain ⟨n, rfl, ws, h3, ⟨c1, c2, c3⟩, h4⟩ := gI_of h2
  obtain ⟨u, u', rfl, ry, ry'⟩ := rxs.two
  obtain ⟨us, h5, h6⟩ := hr.lst h3
  rw [rx.ref]
  refine ⟨a, us, n, u', rfl, by rw [ry.int], h5, by rw [h6.len]; exact c1, c2, by omega, ?_⟩
  obtain ⟨r2, g2⟩ := hr.put (u := .lst (us.take n.toNat ++ [u'] ++ us.drop n.toNat)) (o := .lst (ws.take n.toNat ++ [y] ++ ws.drop n.toNat)) h3 ⟨_, rfl, ((h6.take _).app (.cons ry' .nil)).app (h6.drop _)⟩
  exact k _ _ _ _ _ r2 g2 (.d .non) h4
theorem RWs.erase {F : Hp} : ∀ {vs : List V} {xs : List W} (n : Nat), RWs K F vs xs → RWs K F (vs.eraseIdx n) (xs.eraseIdx n)
  | _, _, _, .nil => .nil
  | _, _, 0, .cons _ t => t
  | _, _, n + 1, .cons a t => .cons a (RWs.erase n t)
@[reducible] def fPopAt : W → List W → Mem → (W → Mem → Prop) → Prop := fun x xs M R => gR x fun a => g1 xs fun i => gI i fun i => ∃ ws, M a = some (.lst ws) ∧ gO (ixN ws.length i) fun j => gO ws[j]? fun y => ws.length ≤ sizeLine ∧ R y (mset M a (.lst (ws.eraseIdx j)))
theorem sm_popAt : SM K rPopAt fPopAt := fun F H M v vs x xs R Q hr rx rxs hf k => by
  obtain ⟨a, rfl, h1⟩ := gR_of hf
  obtain ⟨i, rfl, h2⟩ := g1_of h1
  obtain ⟨n, rfl, ws, h3, h4⟩ := gI_of h2
  obtain ⟨j, h5, h6⟩ := gO_of h4
  obtain ⟨y, h7, hz, h8⟩ := gO_of h6
  obtain ⟨u, rfl, ry⟩ := rxs.one
  obtain ⟨us, e1, e2⟩ := hr.lst h3
  obtain ⟨v2, q1, q2⟩ := e2.got h7
  rw [rx.ref]
  have hl := e2.len
  rw [← hl] at h5 hz
  obtain ⟨s1, s2, s3, s4⟩ := ixN_seq h5
  have big : (sizeLine : Nat) < 2 ^ 63 := by decide
  refine ⟨a, us, n, j, v2, rfl, by rw [ry.int], e1, by omega, by omega, s1, q1, ?_⟩
  obtain ⟨r2, g2⟩ := hr.put (u := .lst (us.eraseIdx j)) (o := .lst (ws.eraseIdx j)) h3 ⟨_, rfl, e2.erase j⟩
  exact k _ _ _ _ _ r2 g2 q2 h8
end
/-- some new lists -/
theorem lc_new {ρ : EnvD} {i : Nat} {fin : List W → Mem → Prop} : ∀ (rows : List W) (acc : List Addr) (M M' : Mem), acc.length + rows.length ≤ sizeLine → acc.Nodup → (∀ a ∈ acc, M a = none ∧ M' a = some (.lst [])) → (∀ b, ¬ b ∈ acc → M' b = M b) →
    (∀ (as : List Addr) (M2 : Mem), as.length = acc.length + rows.length → as.Nodup → (∀ a ∈ as, M a = none ∧ M2 a = some (.lst [])) → (∀ b, ¬ b ∈ as → M2 b = M b) → fin (as.map W.r) M2) → lcGo (bName i) any1 yesT (lstT nilA) ρ fin (rows1 rows) (acc.map W.r) M'
  | [], acc, M, M', hl, hn, ha, hb, h => by
    show any1 M' ∧ fin _ M'
    exact ⟨trivial, h acc M' rfl hn ha hb⟩
  | r :: rows, acc, M, M', hl, hn, ha, hb, h => by
    show any1 M' ∧ ∀ p, M' p = none → (acc.map W.r).length < sizeLine ∧ lcGo (bName i) any1 yesT (lstT nilA) ρ fin (rows1 rows) (acc.map W.r ++ [W.r p]) (mset M' p (.lst []))
    rw [List.length_cons] at hl
    refine ⟨trivial, fun p hp => ⟨by rw [List.length_map]; omega, ?_⟩⟩
    have np : ¬ p ∈ acc := fun z => by rw [(ha p z).2] at hp; cases hp
    have e : acc.map W.r ++ [W.r p] = (acc ++ [p]).map W.r := by rw [List.map_append]; rfl
    rw [e]
    have hMp : M p = none := by rw [← hb p np]; exact hp
    refine lc_new rows (acc ++ [p]) M _ (by rw [List.length_append]; simp; omega) ?_ (fun a h1 => ?_) (fun b h1 => ?_) (fun as M2 h1 h2 h3 h4 => h as M2 (by rw [h1, List.length_append, List.length_cons]; simp; omega) h2 h3 h4)
    · rw [List.nodup_append]
      exact ⟨hn, by simp, fun x hx y hy => by
        rw [List.mem_singleton.mp hy]
        exact fun z => np (by rw [← z]; exact hx)⟩
    · rcases List.mem_append.mp h1 with h1 | h1
      · have : a ≠ p := fun z => np (by rw [← z]; exact h1)
        rw [mset_ne this]
        exact ha a h1
      · rw [List.mem_singleton.mp h1]
        exact ⟨hMp, mset_same⟩
    · have h2 : b ≠ p := fun z => h1 (by rw [z]; exact List.mem_append_right _ (List.mem_singleton.mpr rfl))
      rw [mset_ne h2]
      exact hb b fun z => h1 (List.mem_append_left _ z)
/-- numbers with a step -/
theorem forRC {i : Nat} {lo c : Int} {n : Nat} {keep : Mem → Prop} {body : TDS} {D : EndD} {ρ : EnvD} {M : Mem} (Pv : Nat → EnvD → Mem → Prop) (h0 : Pv 0 ρ M) (hk : ∀ i ρ M, i ≤ n → Pv i ρ M → keep M)
    (hs : ∀ j ρ M (N : EnvD → Mem → Prop), j < n → Pv j ρ M → (∀ ρ' M', Pv (j + 1) ρ' M' → N ρ' M') → body ⟨N, D.rt, D.nx, N⟩ (put ρ i (some (.d (.int (lo + (j : Nat) * c))))) M) (hd : ∀ ρ M, Pv n ρ M → D.nx ρ M) : forGo (bName i) keep body D (rows1 (rngC lo c n)) ρ M := by
  unfold rngC
  refine for1 Pv h0 (fun i ρ M hi p => hk i ρ M (by simpa using hi) p) (fun j a ρ M N ha p hN => ?_) (fun ρ M p => hd ρ M (by simpa using p))
  have e : a = j ∧ j < n := by
    obtain ⟨h1, h2⟩ := List.getElem?_eq_some_iff.mp ha
    rw [List.length_range] at h1
    simp at h2
    exact ⟨h2.symm, h1⟩
  obtain ⟨rfl, hj⟩ := e
  exact hs a ρ M N hj p hN
end Tl

set_option Elab.async false
set_option linter.all false
set_option maxRecDepth 100000
set_option maxHeartbeats 4000000
/-! Elders and levels, lists of kids by their weights and places. -/
namespace Tl
open PySem L2
structure RelEL (es ls : List Nat) : Prop where
  first : ls[0]? = some 1
  lev : ∀ (j l : Nat), ls[j]? = some l → 1 ≤ l ∧ l ≤ 10
  eld : ∀ (j e : Nat), 1 ≤ j → es[j]? = some e → e < j ∧ ∀ (l l' : Nat), ls[e]? = some l → ls[j]? = some l' → l' = l + 1
theorem get_snoc {α : Type} {xs : List α} {x y : α} {j : Nat} (h : (xs ++ [x])[j]? = some y) : (j < xs.length ∧ xs[j]? = some y) ∨ (j = xs.length ∧ y = x) := by
  by_cases c : j < xs.length
  · rw [List.getElem?_append_left c] at h
    exact .inl ⟨c, h⟩
  · rw [List.getElem?_append_right (by omega)] at h
    have e : j - xs.length = 0 := by
      by_cases z : j - xs.length = 0
      · exact z
      · rw [List.getElem?_eq_none (by show 1 ≤ _; omega)] at h
        cases h
    rw [e] at h
    exact .inr ⟨by omega, (Option.some.inj h).symm⟩
theorem RelEL.app {es ls : List Nat} (r : RelEL es ls) {e l : Nat} (hlen : es.length = ls.length) (he : ls[e]? = some l) (hl : l ≤ 9) : RelEL (es ++ [e]) (ls ++ [l + 1]) := by
  have hel : e < ls.length := (List.getElem?_eq_some_iff.mp he).1
  refine ⟨?_, fun j m h => ?_, fun j e' hj h => ?_⟩
  · rw [List.getElem?_append_left (by omega)]
    exact r.first
  · rcases get_snoc h with ⟨_, h⟩ | ⟨_, rfl⟩
    · exact r.lev j m h
    · omega
  · rcases get_snoc h with ⟨c, h⟩ | ⟨rfl, rfl⟩
    · obtain ⟨h1, h2⟩ := r.eld j e' hj h
      refine ⟨h1, fun a b ha hb => ?_⟩
      rw [List.getElem?_append_left (by omega)] at ha hb
      exact h2 a b ha hb
    · refine ⟨by omega, fun a b ha hb => ?_⟩
      rw [List.getElem?_append_left hel] at ha
      rw [hlen, List.getElem?_append_right (Nat.le_refl _), Nat.sub_self] at hb
      rw [he] at ha
      cases ha
      exact (Option.some.inj hb).symm
theorem RelEL.one : RelEL [0] [1] := by
  refine ⟨rfl, fun j l h => ?_, fun j e hj h => ?_⟩
  · match j, h with
    | 0, h => have := Option.some.inj h; omega
    | j + 1, h => simp at h
  · match j, h with
    | 0, _ => omega
    | j + 1, h => simp at h
/-- the weights of the first m lists together -/
def sw (m : Nat) (tss : List (List PyData)) : Nat := ((tss.take m).map wtAll).sum
theorem sw_succ {m : Nat} {tss : List (List PyData)} {ts : List PyData} (h : tss[m]? = some ts) : sw (m + 1) tss = sw m tss + wtAll ts := by
  unfold sw
  rw [List.take_add_one, h, List.map_append, List.sum_append]
  simp
theorem sw_set : ∀ {m e : Nat} {tss : List (List PyData)} {ts : List PyData} {T : PyData}, e < m → tss[e]? = some ts → sw m (tss.set e (ts ++ [T])) = sw m tss + (wt T + 2)
  | 0, _, _, _, _, h, _ => by omega
  | m + 1, 0, a :: r, ts, T, _, h => by
    have e : a = ts := Option.some.inj h
    subst e
    show ((a ++ [T]) :: r.take m |>.map wtAll).sum = ((a :: r.take m).map wtAll).sum + _
    rw [List.map_cons, List.map_cons, List.sum_cons, List.sum_cons, wtAll_app, wtAll, wtAll]
    omega
  | m + 1, e + 1, a :: r, ts, T, h, h2 => by
    have ih := sw_set (m := m) (e := e) (tss := r) (ts := ts) (T := T) (by omega) h2
    unfold sw at ih ⊢
    show ((a :: (r.set e (ts ++ [T])).take m).map wtAll).sum = ((a :: r.take m).map wtAll).sum + _
    rw [List.map_cons, List.map_cons, List.sum_cons, List.sum_cons, ih]
    omega
  | _ + 1, _, [], _, _, _, h => by simp at h
theorem wt_sw : ∀ {m e : Nat} {tss : List (List PyData)} {ts : List PyData}, e < m → tss[e]? = some ts → wtAll ts ≤ sw m tss
  | 0, _, _, _, h, _ => by omega
  | m + 1, 0, a :: r, ts, _, h => by
    have e : a = ts := Option.some.inj h
    subst e
    show wtAll a ≤ ((a :: r.take m).map wtAll).sum
    rw [List.map_cons, List.sum_cons]
    omega
  | m + 1, e + 1, a :: r, ts, h, h2 => by
    have ih := wt_sw (m := m) (e := e) (tss := r) (ts := ts) (by omega) h2
    unfold sw at ih ⊢
    show _ ≤ ((a :: r.take m).map wtAll).sum
    rw [List.map_cons, List.sum_cons]
    omega
  | _ + 1, _, [], _, _, h => by simp at h
theorem sw_rep (m n : Nat) : sw m (List.replicate n []) = 0 := by
  unfold sw
  rw [List.take_replicate, List.map_replicate]
  generalize min m n = k
  induction k with
  | zero => rfl
  | succ k ih => rw [List.replicate_succ, List.sum_cons, ih]; rfl
mutual
def nn : PyData → Nat
  | .tuple [_, .tuple ks] => 1 + nnAll ks
  | _ => 1
def nnAll : List PyData → Nat
  | [] => 0
  | k :: ks => nn k + nnAll ks
end
theorem nnAll_app : ∀ (a b : List PyData), nnAll (a ++ b) = nnAll a + nnAll b
  | [], b => by rw [List.nil_append, nnAll]; omega
  | k :: a, b => by
    rw [List.cons_append, nnAll, nnAll, nnAll_app a b]
    omega
theorem nnAll_rev : ∀ (a : List PyData), nnAll a.reverse = nnAll a
  | [] => rfl
  | k :: a => by
    rw [List.reverse_cons, nnAll_app, nnAll_rev a, nnAll, nnAll, nnAll]
    omega
/-- how many places the first m lists have together -/
def sn (m : Nat) (tss : List (List PyData)) : Nat := ((tss.take m).map nnAll).sum
theorem sn_succ {m : Nat} {tss : List (List PyData)} {ts : List PyData} (h : tss[m]? = some ts) : sn (m + 1) tss = sn m tss + nnAll ts := by
  unfold sn
  rw [List.take_add_one, h, List.map_append, List.sum_append]
  simp
theorem sn_set : ∀ {m e : Nat} {tss : List (List PyData)} {ts : List PyData} {T : PyData}, e < m → tss[e]? = some ts → sn m (tss.set e (ts ++ [T])) = sn m tss + nn T
  | 0, _, _, _, _, h, _ => by omega
  | m + 1, 0, a :: r, ts, T, _, h => by
    have e : a = ts := Option.some.inj h
    subst e
    show ((a ++ [T]) :: r.take m |>.map nnAll).sum = ((a :: r.take m).map nnAll).sum + _
    rw [List.map_cons, List.map_cons, List.sum_cons, List.sum_cons, nnAll_app, nnAll, nnAll]
    omega
  | m + 1, e + 1, a :: r, ts, T, h, h2 => by
    have ih := sn_set (m := m) (e := e) (tss := r) (ts := ts) (T := T) (by omega) h2
    unfold sn at ih ⊢
    show ((a :: (r.set e (ts ++ [T])).take m).map nnAll).sum = ((a :: r.take m).map nnAll).sum + _
    rw [List.map_cons, List.map_cons, List.sum_cons, List.sum_cons, ih]
    omega
  | _ + 1, _, [], _, _, _, h => by simp at h
theorem sn_rep (m n : Nat) : sn m (List.replicate n []) = 0 := by
  unfold sn
  rw [List.take_replicate, List.map_replicate]
  generalize min m n = k
  induction k with
  | zero => rfl
  | succ k ih => rw [List.replicate_succ, List.sum_cons, ih]; rfl
theorem wtAll_rev (ts : List PyData) : wtAll ts.reverse = wtAll ts := by
  induction ts with
  | nil => rfl
  | cons a r ih => rw [List.reverse_cons, wtAll_app, ih, wtAll, wtAll, wtAll]; omega
def tags5 : List Str := ["a", "b", "ab", "zz", "abcdefgh"]
theorem tags5_ok : ∀ s ∈ tags5, 1 ≤ s.length ∧ s.length ≤ 8 ∧ (PyData.strOk s = true ∧ s ∈ tags6) := by decide +kernel
end Tl

set_option Elab.async false
set_option linter.all false
set_option maxRecDepth 100000
set_option maxHeartbeats 4000000
/-! What the program's own looks answer, as Lean functions; promises. -/
namespace Tl
open PySem L2
/-! ### what they answer -/
def isCount : PyData → Bool
  | .int i => decide (0 ≤ i)
  | _ => false
def isNum (m : Int) : PyData → Bool
  | .int i => decide (0 ≤ i) && decide (i ≤ m)
  | _ => false
def small (c : Nat) : Bool := decide (97 ≤ c) && decide (c ≤ 122)
def isTag : PyData → Bool
  | .str s => decide (1 ≤ s.length) && decide (s.length ≤ 8) && s.cps.toList.all small
  | _ => false
def isPath : PyData → Bool
  | .tuple ds => decide (ds.length < 12) && ds.all (isNum 59)
  | _ => false
def tagKids : PyData → Bool
  | .tuple [a, b] => isTag a && isTup b
  | _ => false
/-- the program's own numbers -/
structure Cs (mg : Str → Option Value) : Prop where
  SIZE : ∃ t, mg "SIZE" = some (.int 60 t)
  DEPTH : ∃ t, mg "DEPTH" = some (.int 12 t)
  SIGNS : ∃ t, mg "SIGNS" = some (.int 8 t)
theorem c_SIZE {X : Cx} (C : Cs X.mg) {p : Pos} (hg : Gl X "SIZE" := by rfl) : PE X (.Name "SIZE" p) (tC (.int 60)) := by
  obtain ⟨t, e⟩ := C.SIZE
  exact pe_glob hg e ⟨t, rfl⟩
theorem c_DEPTH {X : Cx} (C : Cs X.mg) {p : Pos} (hg : Gl X "DEPTH" := by rfl) : PE X (.Name "DEPTH" p) (tC (.int 12)) := by
  obtain ⟨t, e⟩ := C.DEPTH
  exact pe_glob hg e ⟨t, rfl⟩
theorem c_SIGNS {X : Cx} (C : Cs X.mg) {p : Pos} (hg : Gl X "SIGNS" := by rfl) : PE X (.Name "SIGNS" p) (tC (.int 8)) := by
  obtain ⟨t, e⟩ := C.SIGNS
  exact pe_glob hg e ⟨t, rfl⟩
/-- a truth about one thing -/
def tfB (f : PyData → Bool) : TF := fun ws M R _ => g1 ws fun x => gD x fun d => txt d = true ∧ R (.d (.bool (f d))) M
def tfB2 (f : Int → PyData → Bool) : TF := fun ws M R _ => g2 ws fun x y => gD x fun d => gI y fun m => txt d = true ∧ R (.d (.bool (f m d))) M
theorem lex1 (a b : Nat) : ([a] : List Nat) < [b] ↔ a < b := by
  constructor
  · intro h
    cases h with
    | rel h => exact h
    | cons h => cases h
  · intro h
    exact List.Lex.rel h
theorem le_a (c : Nat) : (!decide ((⟨#[c]⟩ : Str).cps.toList < ("a" : Str).cps.toList)) = decide (97 ≤ c) := by
  show (!decide ([c] < [97])) = _
  rw [decide_eq_decide.mpr (lex1 c 97)]
  by_cases h : c < 97
  · rw [decide_eq_true h, decide_eq_false (by omega)]; rfl
  · rw [decide_eq_false h, decide_eq_true (by omega)]; rfl
theorem le_z (c : Nat) : (!decide (("z" : Str).cps.toList < (⟨#[c]⟩ : Str).cps.toList)) = decide (c ≤ 122) := by
  show (!decide ([122] < [c])) = _
  rw [decide_eq_decide.mpr (lex1 122 c)]
  by_cases h : 122 < c
  · rw [decide_eq_true h, decide_eq_false (by omega)]; rfl
  · rw [decide_eq_false h, decide_eq_true (by omega)]; rfl
/-! ### trees -/
def kidsD : PyData → List PyData
  | .tuple [_, .tuple ks] => ks
  | _ => []
/-- the room behind a tree, its kids one behind another -/
def roomB : Nat → PyData → Nat → Option Nat
  | 0, _, _ => none
  | _ + 1, _, 0 => none
  | l + 1, d, r + 1 => if tagKids d = true then (kidsD d).foldl (fun o kd => o.bind (roomB l kd)) (some r) else none
def optD : Option Nat → PyData
  | none => .none
  | some n => .int n
def isTreeD (d : PyData) : Bool := (roomB 12 d 60).isSome
theorem fold_none {α : Type} (f : α → Nat → Option Nat) : ∀ ks : List α, ks.foldl (fun o kd => o.bind (f kd)) none = none
  | [] => rfl
  | _ :: r => by rw [List.foldl_cons]; exact fold_none f r
def tfRoom (n : Nat) : TF := fun ws M R _ => ∃ (d : PyData) (l r : Nat), ws = [.d d, .d (.int l), .d (.int r)] ∧ txt d = true ∧ l < n ∧ R (.d (optD (roomB l d r))) M
theorem no0 {tf : TF} {P : Program} {w : World} {K : PySem.W.Frag} {mg : Str → Option Value} {base : Heap} {CX : CXT} {f : Addr} {fd : FuncData} {k n : Nat} {ps : List Str} (h : ∀ ws M R RX, ¬ tf ws M R RX) : FnOk P w K mg base CX k f fd ps (spD K n tf) :=
  ⟨fun vs H Q E ⟨F0, M, ws, R, RX, r, rs, hl, hf, _⟩ => absurd hf (h _ _ _ _), fun A outer s H args us vs Q E _ _ _ _ ⟨F0, M, ws, R, RX, r, rs, hl, hf, _⟩ => absurd hf (h _ _ _ _)⟩
/-! ### refusals -/
/-- an own error without a word, as the top has left its class -/
structure Er (K : PySem.W.Frag) (mg : Str → Option Value) (x : Str) (C : Addr) : Prop where
  g : mg x = some (.ref C)
  x : PySem.W.excIn K C [.type "ValueError", .type "Exception", .type "BaseException", .type "object"] "ValueError.__new__" = true
  k : PySem.W.keepIn K (.ref C) = true
  b : PySem.W.subIn K (.ref C) (.type "BaseException") = some true
  t : PySem.W.typeIn K (.ref C) = some (.type "type")
/-- a def that errors may leave -/
structure UseX (P : Program) (w : World) (K : PySem.W.Frag) (mg : Str → Option Value) (base : Heap) (x : Str) (ps : List Str) (k : Nat) (sp : Sp) where
  f : Addr
  fd : FuncData
  ok : FnOk P w K mg base (L2.CX P w) k f fd ps sp
  m : mg x = some (.ref f)
  kp : PySem.W.keepIn K (.ref f) = true
  b : Binds K fd ps []
/-- one thing is refused, or not -/
def tfChk (f : PyData → Bool) (C : Addr) : TF := fun ws M R RX => g1 ws fun x => gD x fun d => txt d = true ∧ (f d = true → R (.d .none) M) ∧ (f d = false → RX ⟨.ref C, []⟩ M)
/-! ### trees by their form -/
def TrT : Nat → PyData → Prop
  | 0, _ => False
  | h + 1, d => ∃ (s : Str) (ks : List PyData), d = .tuple [.str s, .tuple ks] ∧ isTag (.str s) = true ∧ ∀ k ∈ ks, TrT h k
theorem TrT.mono : ∀ {h h' : Nat} {d : PyData}, h ≤ h' → TrT h d → TrT h' d
  | 0, _, _, _, t => t.elim
  | h + 1, 0, _, e, _ => by omega
  | h + 1, h' + 1, d, e, t => by
    obtain ⟨s, ks, rfl, a, b⟩ := t
    exact ⟨s, ks, rfl, a, fun k hk => TrT.mono (by omega) (b k hk)⟩
theorem tags6_tag : ∀ s ∈ tags6, isTag (.str s) = true := by decide +kernel
theorem TrD.t : ∀ {h : Nat} {d : PyData}, TrD h d → TrT h d
  | 0, _, t => t.elim
  | h + 1, d, t => by
    obtain ⟨s, ks, rfl, a, b⟩ := t
    exact ⟨s, ks, rfl, tags6_tag s a.2.2.2, fun k hk => TrD.t (b k hk)⟩
theorem nn_pos (d : PyData) : 1 ≤ nn d := by
  unfold nn
  split <;> omega
theorem tagKids_node {s : Str} {ks : List PyData} (h : isTag (.str s) = true) : tagKids (.tuple [.str s, .tuple ks]) = true := by
  rw [tagKids, h]
  rfl
theorem fold_room {l : Nat} : ∀ (ks : List PyData) (r : Nat), (∀ k ∈ ks, ∀ r, nn k ≤ r → roomB l k r = some (r - nn k)) → nnAll ks ≤ r → ks.foldl (fun o kd => o.bind (roomB l kd)) (some r) = some (r - nnAll ks)
  | [], r, _, _ => rfl
  | k :: ks, r, h, hr => by
    rw [nnAll] at hr
    rw [List.foldl_cons]
    show ks.foldl _ (roomB l k r) = _
    rw [h k (.head _) r (by omega), fold_room ks (r - nn k) (fun x hx => h x (.tail _ hx)) (by omega), nnAll]
    congr 1
    omega
theorem room_nn : ∀ {l : Nat} {d : PyData}, TrT l d → ∀ r, nn d ≤ r → roomB l d r = some (r - nn d)
  | 0, _, t, _, _ => t.elim
  | l + 1, _, ⟨s, ks, rfl, a, b⟩, r, hr => by
    rw [nn] at hr
    obtain ⟨r, rfl⟩ : ∃ r', r = r' + 1 := ⟨r - 1, by omega⟩
    rw [roomB, if_pos (tagKids_node a), kidsD, fold_room ks r (fun k hk => room_nn (b k hk)) (by omega), nn]
    congr 1
    omega
theorem fold_back {l : Nat} : ∀ (ks : List PyData) (r m : Nat), (∀ k ∈ ks, ∀ r m, roomB l k r = some m → TrT l k ∧ m + nn k = r) → ks.foldl (fun o kd => o.bind (roomB l kd)) (some r) = some m → (∀ k ∈ ks, TrT l k) ∧ m + nnAll ks = r
  | [], r, m, _, h => by
    cases h
    exact ⟨fun k hk => absurd hk List.not_mem_nil, rfl⟩
  | k :: ks, r, m, hk, h => by
    rw [List.foldl_cons] at h
    have h' : ks.foldl (fun o kd => o.bind (roomB l kd)) (roomB l k r) = some m := h
    cases c : roomB l k r with
    | none =>
      rw [c, fold_none] at h'
      cases h'
    | some m' =>
      rw [c] at h'
      obtain ⟨q1, q2⟩ := hk k (.head _) r m' c
      obtain ⟨q3, q4⟩ := fold_back ks m' m (fun x hx => hk x (.tail _ hx)) h'
      rw [nnAll]
      exact ⟨fun x hx => (List.mem_cons.mp hx).elim (fun z => by rw [z]; exact q1) (q3 x), by omega⟩
theorem tagKids_of {d : PyData} (h : tagKids d = true) : ∃ (s : Str) (ks : List PyData), d = .tuple [.str s, .tuple ks] ∧ isTag (.str s) = true := by
  unfold tagKids at h
  split at h
  · rename_i a b
    rw [Bool.and_eq_true] at h
    cases b with
    | tuple ks =>
      cases a with
      | str s => exact ⟨s, ks, rfl, h.1⟩
      | _ => exact absurd h.1 (by simp [isTag])
    | _ => exact absurd h.2 (by simp [isTup])
  · cases h
theorem room_back : ∀ {l : Nat} {d : PyData} {r m : Nat}, roomB l d r = some m → TrT l d ∧ m + nn d = r
  | 0, _, _, _, h => by rw [roomB] at h; cases h
  | l + 1, _, 0, _, h => by rw [roomB] at h; cases h
  | l + 1, d, r + 1, m, h => by
    rw [roomB] at h
    split at h
    · rename_i c
      obtain ⟨s, ks, rfl, hs⟩ := tagKids_of c
      rw [kidsD] at h
      obtain ⟨q1, q2⟩ := fold_back ks r m (fun k hk r m => room_back) h
      rw [nn]
      exact ⟨⟨s, ks, rfl, hs, q1⟩, by omega⟩
    · cases h
theorem tree_iff {d : PyData} : isTreeD d = true ↔ TrT 12 d ∧ nn d ≤ 60 := by
  unfold isTreeD
  constructor
  · intro h
    cases c : roomB 12 d 60 with
    | none => rw [c] at h; cases h
    | some m =>
      obtain ⟨q1, q2⟩ := room_back c
      exact ⟨q1, by omega⟩
  · intro h
    rw [room_nn h.1 60 h.2]
    rfl
theorem tree_no {d : PyData} (h : isTreeD d = false) : ¬ (TrT 12 d ∧ nn d ≤ 60) := fun z => by rw [tree_iff.mpr z] at h; cases h
theorem TrT.node {n : Nat} {d : PyData} (h : TrT n d) : ∃ (s : Str) (ks : List PyData), d = .tuple [.str s, .tuple ks] ∧ isTag (.str s) = true ∧ ∀ k ∈ ks, TrT (n - 1) k := by
  cases n with
  | zero => exact h.elim
  | succ n => exact h
theorem tag_small {s : Str} (h : isTag (.str s) = true) : 1 ≤ s.length ∧ s.length ≤ 8 ∧ PyData.strOk s = true := by
  rw [isTag, Bool.and_eq_true, Bool.and_eq_true] at h
  refine ⟨of_decide_eq_true h.1.1, of_decide_eq_true h.1.2, ?_⟩
  rw [PyData.strOk, ← Array.all_toList, List.all_eq_true]
  intro c hc
  have := List.all_eq_true.mp h.2 c hc
  unfold small at this
  rw [Bool.and_eq_true] at this
  have h2 := of_decide_eq_true this.2
  exact decide_eq_true (Nat.lt_of_le_of_lt h2 (by decide))
mutual
theorem TrT.gd : ∀ {h : Nat} {d : PyData}, TrT h d → Tl.gd d = true ∧ d.depth ≤ 2 * h ∧ wt d + 2 ≤ 96 * nn d ∧ noL d = true
  | 0, _, t => t.elim
  | h + 1, d, t => by
    obtain ⟨s, ks, rfl, a, b⟩ := t
    obtain ⟨a1, a2, a3⟩ := tag_small a
    obtain ⟨q1, q2, q3, q4⟩ := TrT.gds b
    refine ⟨?_, ?_, ?_, ?_⟩
    · rw [Tl.gd, gdAll, gdAll, gdAll, Tl.gd, Tl.gd, q1, a3, decide_eq_true (by omega)]
      rfl
    · simp only [PyData.depth, PyData.depthAll]
      omega
    · rw [wt_node, nn]
      omega
    · simp [noL, noLs, q4]
theorem TrT.gds : ∀ {h : Nat} {ks : List PyData}, (∀ k ∈ ks, TrT h k) → gdAll ks = true ∧ PyData.depthAll ks ≤ 2 * h ∧ wtAll ks ≤ 96 * nnAll ks ∧ noLs ks = true
  | h, [], _ => ⟨rfl, Nat.zero_le _, Nat.le_refl _, rfl⟩
  | h, k :: ks, hk => by
    obtain ⟨p1, p2, p3, p4⟩ := TrT.gd (hk k (.head _))
    obtain ⟨q1, q2, q3, q4⟩ := TrT.gds fun x hx => hk x (.tail _ hx)
    refine ⟨by rw [gdAll, p1, q1]; rfl, ?_, ?_, by rw [noLs, p4, q4]; rfl⟩
    · rw [PyData.depthAll]
      omega
    · rw [wtAll, nnAll]
      have := nn_pos k
      omega
end
end Tl

set_option Elab.async false
set_option linter.all false
set_option maxRecDepth 100000
set_option maxHeartbeats 4000000
/-! Errors: raised with fields, caught, looked at. -/
namespace Tl
open PySem PySem.Spec PyProof.Rows L2
section
variable {K : PySem.W.Frag} {Wx Wout : WX} {RE : REx}
/-! ### try -/
/-- try .. except c as n: name j = n, looked at behind -/
@[reducible] def tryA (K : PySem.W.Frag) (c : Value) (i j : Nat) (TB : REx → TDS) (RE : REx) : TDS := fun D ρ M => TB (fun x ρ' M' => gO (PySem.W.exmOne K x.cls c) fun yes => if yes = true then
  i < ρ'.length ∧ (match x.cls with | .ref C => ∀ a dd, M' a = none → D.nx (put (put (put ρ' i (some (.x a C dd x.fs))) j (some (.x a C dd x.fs))) i none) (mset M' a (.exc C dd)) | _ => False) else RE x ρ' M') D ρ M
theorem ss_tryA {c : Value} {i j : Nat} {tb : WX → TS} {TB : REx → TDS} (hb : ∀ Wx RE, SSt K Wx RE (tb Wx) (TB RE)) :
    SSt K Wout RE (fun D σ H => tb (wKeep K c i (fun _ _ _ => tAsg (tVar i) (gName j)) Wout D) D σ H) (tryA K c i j TB RE) := fun F H M σ ρ D E hr hx hs ht k => by
  refine hb _ _ F H M σ ρ D E hr (fun F' H' M' σ' ρ' cls d x g r s xr hre => ?_) hs ht k
  obtain ⟨yes, h1, h2⟩ := gO_of hre
  refine ⟨yes, by rw [xr.1]; exact h1, fun hy a ha => ?_, fun hn => hx F' H' M' σ' ρ' cls d x g r s xr (by rw [hn, if_neg Bool.false_ne_true] at h2; exact h2)⟩
  rw [if_pos hy] at h2
  obtain ⟨hi, h4⟩ := h2
  cases hC : x.cls with
  | ref C =>
    rw [hC] at h4
    have hcls : cls = .ref C := xr.1.trans hC
    have hMa := r.new ha
    refine ⟨.ref a, by rw [List.getElem?_set_self (by rw [s.len]; exact hi)], ?_⟩
    have hFa := r.fh.free ha
    have s2 := ((s.set (.x (a := a) (C := C) xr.2) i).set (.x (a := a) (C := C) xr.2) j).del i none
    refine k.nx _ _ F' (mset M' a (.exc C d)) _ ⟨same_mut r.fh hFa, fun b o q => ?_, fun b o q => ?_⟩ ⟨g.ff, fun b u q n => ?_, g.nf⟩ s2 (h4 a d hMa)
    · by_cases z : b = a
      · rw [z]; exact hFa
      · rw [mset_ne z] at q; exact r.mf b o q
    · by_cases z : b = a
      · subst z
        rw [mset_same] at q
        cases q
        exact ⟨_, upd_same, by rw [hcls]; rfl⟩
      · rw [mset_ne z] at q
        rw [upd_ne z]
        exact r.at_ b o q
    · obtain ⟨q1, q2⟩ := g.un b u q n
      have z : b ≠ a := ne_of_none q1 ha
      rw [upd_ne z, mset_ne z]
      exact ⟨q1, q2⟩
  | _ => rw [hC] at h4; exact h4.elim
/-- try .. except c as n: a suite that looks at n -/
@[reducible] def tryB (K : PySem.W.Frag) (c : Value) (i : Nat) (TB : REx → TDS) (TU : Addr → Value → Option Addr → TDS) (RE : REx) : TDS := fun D ρ M => TB (fun x ρ' M' => gO (PySem.W.exmOne K x.cls c) fun yes => if yes = true then
  (match x.cls with | .ref C => ∀ a dd, TU a (.ref C) dd ⟨fun ρ2 M2 => D.nx (put ρ2 i none) M2, D.rt, fun ρ2 M2 => D.bk (put ρ2 i none) M2, fun ρ2 M2 => D.ct (put ρ2 i none) M2⟩ (put ρ' i (some (.x a C dd x.fs))) M' | _ => False) else RE x ρ' M') D ρ M
theorem ss_tryB {c : Value} {i : Nat} {ts : Addr → Value → Option Addr → TS} {TU : Addr → Value → Option Addr → TDS} {tb : WX → TS} {TB : REx → TDS} (hb : ∀ Wx RE, SSt K Wx RE (tb Wx) (TB RE)) (hu : ∀ a cls d, SSt K (fun _ _ _ _ => False) (fun _ _ _ => False) (ts a cls d) (TU a cls d)) :
    SSt K Wout RE (fun D σ H => tb (wAs K c i ts Wout D) D σ H) (tryB K c i TB TU RE) := fun F H M σ ρ D E hr hx hs ht k => by
  refine hb _ _ F H M σ ρ D E hr (fun F' H' M' σ' ρ' cls d x g r s xr hre => ?_) hs ht k
  obtain ⟨yes, h1, h2⟩ := gO_of hre
  refine ⟨yes, by rw [xr.1]; exact h1, fun hy a ha => ?_, fun hn => hx F' H' M' σ' ρ' cls d x g r s xr (by rw [hn, if_neg Bool.false_ne_true] at h2; exact h2)⟩
  rw [if_pos hy] at h2
  cases hC : x.cls with
  | ref C =>
    rw [hC] at h2
    have hcls : cls = .ref C := xr.1.trans hC
    subst hcls
    refine hu a (.ref C) d F' H' M' _ _ _ _ r (fun _ _ _ _ _ _ _ _ _ _ _ _ z => z) (s.set (.x (a := a) (C := C) xr.2) i) (h2 a d) ⟨fun σ2 H2 F2 M2 ρ2 r2 g2 s2 q => ?_, fun v H2 F2 M2 x2 r2 g2 => k.rt v H2 F2 M2 x2 r2 (g.trans g2), fun σ2 H2 F2 M2 ρ2 r2 g2 s2 q => ?_, fun σ2 H2 F2 M2 ρ2 r2 g2 s2 q => ?_⟩
    · exact k.nx _ H2 F2 M2 _ r2 (g.trans g2) (s2.del i none) q
    · exact k.bk _ H2 F2 M2 _ r2 (g.trans g2) (s2.del i none) q
    · exact k.ct _ H2 F2 M2 _ r2 (g.trans g2) (s2.del i none) q
  | _ => rw [hC] at h2; exact h2.elim
/-- try .. except c: a suite -/
@[reducible] def tryO (K : PySem.W.Frag) (c : Value) (TB : REx → TDS) (TU : TDS) (RE : REx) : TDS := fun D ρ M => TB (fun x ρ' M' => gO (PySem.W.exmOne K x.cls c) fun yes => if yes = true then TU D ρ' M' else RE x ρ' M') D ρ M
theorem ss_tryO {c : Value} {ts : Addr → Value → Option Addr → TS} {TU : TDS} {tb : WX → TS} {TB : REx → TDS} (hb : ∀ Wx RE, SSt K Wx RE (tb Wx) (TB RE)) (hu : ∀ a cls d, SSt K (fun _ _ _ _ => False) (fun _ _ _ => False) (ts a cls d) TU) :
    SSt K Wout RE (fun D σ H => tb (wOnly K c ts Wout D) D σ H) (tryO K c TB TU RE) := fun F H M σ ρ D E hr hx hs ht k => by
  refine hb _ _ F H M σ ρ D E hr (fun F' H' M' σ' ρ' cls d x g r s xr hre => ?_) hs ht k
  obtain ⟨yes, h1, h2⟩ := gO_of hre
  refine ⟨yes, by rw [xr.1]; exact h1, fun hy a ha => ?_, fun hn => hx F' H' M' σ' ρ' cls d x g r s xr (by rw [hn, if_neg Bool.false_ne_true] at h2; exact h2)⟩
  rw [if_pos hy] at h2
  exact hu a cls d F' H' M' _ _ _ _ r (fun _ _ _ _ _ _ _ _ _ _ _ _ z => z) s h2 (k.mono g)
/-! ### isinstance of an error -/
@[reducible] def clsW : W → Option Value
  | .o (.ty n) => some (.type n)
  | .o (.ref C) => some (.ref C)
  | _ => none
theorem clsW_of {F : Hp} {v : V} {x : W} {c : Value} (r : RW K F v x) (h : clsW x = some c) : ClsV v c := by
  unfold clsW at h
  split at h
  · cases r; cases h; exact .ty _
  · cases r; cases h; exact .own _
  · cases h
theorem clsV_val {c : V} {cv : Value} (k : ClsV c cv) : ∀ u, RelV c u → u = cv := fun u r => k.eq r
theorem fx_dx {F H : Hp} {d : Option Addr} {fs : List (Str × PyData)} (e : Same F H) (h : FX K F d fs) : DxO H d := by
  cases d with
  | none => trivial
  | some dd =>
    obtain ⟨fv, h1, _⟩ := h
    exact ⟨fv, e _ _ h1⟩
/-- kept: M tells of it -/
@[reducible] def keptX (K : PySem.W.Frag) (M : Mem) (x : W) (k : Addr → Prop) : Prop := match x with | .x a C dd _ => M a = some (.exc C dd) ∧ ExcC K C ∧ k C | _ => False
@[reducible] def fIsK (K : PySem.W.Frag) : FL := fun xs M R => g2 xs fun x y => keptX K M x fun C => gO (clsW y) fun c => gO (PySem.W.kitOne K (.ref C) c) fun b => R (.d (.bool b)) M
theorem keptX_of {F H : Hp} {M : Mem} {v : V} {x : W} {k : Addr → Prop} (hr : Rl K F H M) (r : RW K F v x) (h : keptX K M x k) : ∃ a C dd, v = .ref a ∧ H a = some (CgO (.ref C) dd a) ∧ DxO H dd ∧ ExcC K C ∧ k C := by
  cases x with
  | x a C dd fs =>
    obtain ⟨h1, h2, h3⟩ := h
    cases r with
    | x fx =>
      obtain ⟨u, e1, e2⟩ := hr.at_ a _ h1
      exact ⟨a, C, dd, rfl, by rw [e1]; exact congrArg some e2, fx_dx hr.fh fx, h2, h3⟩
  | d _ => exact h.elim
  | r _ => exact h.elim
  | o _ => exact h.elim
theorem sc_isK : SC K (rIsK K) (fIsK K) := fun F H M vs xs R Q hr rx hf k => by
  obtain ⟨x, y, rfl, h1⟩ := g2_of hf
  obtain ⟨v, u, rfl, r, r'⟩ := rx.two
  obtain ⟨a, C, dd, rfl, e1, e2, e3, h2⟩ := keptX_of hr r h1
  obtain ⟨c, h3, h4⟩ := gO_of h2
  obtain ⟨b, h5, h6⟩ := gO_of h4
  exact ⟨a, C, dd, u, c, b, rfl, e1, e2, e3, clsV_val (clsW_of r' h3), h5, k _ H F M _ hr .refl (.d (.bl _)) h6⟩
/-- isinstance(kept, (c1, c2, ..)) -/
def rIsKT (K : PySem.W.Frag) : List V → Hp → VK → Prop := fun xs H Q => ∃ (a D tp : Addr) (d : Option Addr) (cs : List V) (us : List Value) (b : Bool),
  xs = [.ref a, .ref tp] ∧ H a = some (CgO (.ref D) d a) ∧ DxO H d ∧ ExcC K D ∧ H tp = some (.tup cs) ∧ Paired ClsV cs us ∧ PySem.W.kitAny K (.ref D) us = some b ∧ Q (.bl b) H
theorem call_isKT {X : Cx} : CallR X (.builtin "isinstance") (rIsKT X.K) := by
  intro pins s σ H xs us Q I r h
  obtain ⟨a, D, tp, d, cs, ws, b, rfl, ha, hd, C, hT, kc, hk, q⟩ := h
  rcases r with _ | ⟨rx, r⟩
  rcases r with _ | ⟨rt, r⟩
  cases r
  cases rx
  cases rt
  obtain ⟨ox, od, J⟩ := cg_inst I ha hd
  obtain ⟨cd, hcd, _⟩ := PySem.W.any_some C.hd
  obtain ⟨_, its, rv, o, h1, h2, n, h3⟩ := (show ObjOk X.prog X.w H s.heap tp (.tup cs) from I.hok tp _ hT)
  have e3 := ClsV.all kc rv
  subst e3
  obtain ⟨oc, od', dt, sl⟩ := o
  simp only at h2 h3
  subst h2 h3
  exact PySem.W.kia_tup (PySem.W.kitx_exc (by rw [hcd]; rfl) C.hg C.hk C.hs C.ha C.hn C.ht C.hm) I.kIn J h1 hk (fun z => nomatch z) fun tk => ⟨.bl b, H, I.kept (t' := tk) fun _ _ z => z, rfl, q⟩
/-- all of them classes -/
@[reducible] def gCs : List W → (List Value → Prop) → Prop
  | [], k => k []
  | x :: r, k => gO (clsW x) fun c => gCs r fun cs => k (c :: cs)
theorem gCs_of {F : Hp} : ∀ {xs : List W} {vs : List V} {k : List Value → Prop}, RWs K F vs xs → gCs xs k → ∃ cs, Paired ClsV vs cs ∧ k cs
  | [], _, k, r, h => by cases r; exact ⟨[], .nil, h⟩
  | x :: xs, _, k, r, h => by
    cases r with
    | cons a b =>
      obtain ⟨c, h1, h2⟩ := gO_of h
      obtain ⟨cs, h3, h4⟩ := gCs_of b h2
      exact ⟨c :: cs, .cons (clsW_of a h1) h3, h4⟩
@[reducible] def isKT (K : PySem.W.Frag) (T : TDE) (U : TDA) : TDE := fun ρ M R => T ρ M fun x M1 => U ρ M1 fun ys M2 => keptX K M2 x fun C => gCs ys fun cs => gO (PySem.W.kitAny K (.ref C) cs) fun b => R (.d (.bool b)) M2
theorem se_isKT {n : Nat} {tx : TE} {ta : TA} {T : TDE} {U : TDA} (h1 : SE K Wx RE tx T) (h2 : SAn K Wx RE n ta U) (hn : n ≤ 1000 := by decide) : SE K Wx RE (tCB (rIsKT K) (tCons tx (tCons (tTup ta) tNil))) (isKT K T U) := fun F H M σ ρ R Q hr hx hs ht k =>
  h1 F H M σ ρ _ _ hr hx hs ht fun v H1 F1 M1 x r1 g1 rx q1 => h2 F1 H1 M1 σ ρ _ _ r1 (hx.mono g1) (hs.mono g1.ff) q1 fun vs H2 F2 M2 ys r2 g2 rys hl q2 => by
    refine ⟨by rw [rys.len, hl]; exact sz1000 hn, fun p hp => ?_⟩
    obtain ⟨a, C, dd, rfl, e1, e2, e3, q3⟩ := keptX_of r2 (rx.mono g2.ff) q2
    obtain ⟨cs, kc, q4⟩ := gCs_of rys q3
    obtain ⟨b, q5, q6⟩ := gO_of q4
    have sm := same_new (o := .tup vs) hp
    obtain ⟨r3, g3⟩ := r2.same sm
    refine ⟨a, C, p, dd, vs, cs, b, rfl, sm _ _ e1, ?_, e3, upd_same, kc, q5, k _ _ F2 M2 _ r3 ((g1.trans g2).trans g3) (.d (.bl _)) q6⟩
    cases dd with
    | none => trivial
    | some dd =>
      obtain ⟨fs, e4⟩ := e2
      exact ⟨fs, sm _ _ e4⟩
/-- kept.n -/
theorem dx_lookup {F : Hp} {n : Str} : ∀ {fv : List (Str × V)} {fs : List (Str × PyData)} {y : PyData}, fv.map (·.1) = fs.map (·.1) → DxL K F (fv.map (·.2)) (fs.map (·.2)) → fs.lookup n = some y → ∃ v, fv.lookup n = some v ∧ Dx K F v y
  | [], [], _, _, _, h => by cases h
  | [], _ :: _, _, e, _, _ => by simp at e
  | _ :: _, [], _, e, _, _ => by simp at e
  | (f, v) :: fv, (g, d) :: fs, y, e, r, h => by
    simp only [List.map_cons, List.cons.injEq] at e
    obtain ⟨e1, e2⟩ := e
    subst e1
    cases r with
    | cons r1 r2 =>
      rw [List.lookup_cons] at h ⊢
      cases c : n == f with
      | true =>
        rw [c] at h
        cases h
        exact ⟨v, rfl, r1⟩
      | false =>
        rw [c] at h
        exact dx_lookup e2 r2 h
@[reducible] def kfT (C0 : Addr) (n : Str) (T : TDE) : TDE := fun ρ M R => T ρ M fun x M1 => match x with | .x a C dd fs => (C = C0 ∧ dd.isSome = true ∧ M1 a = some (.exc C dd)) ∧ gO (fs.lookup n) fun y => R (.d y) M1 | _ => False
theorem se_kf {C0 : Addr} {n : Str} {te : TE} {T : TDE} (h : SE K Wx RE te T) : SE K Wx RE (fun σ H Q => te σ H fun x H1 => ∃ (a dd : Addr) (fs : List (Str × V)) (v : V), x = .ref a ∧ H1 a = some (CgO (.ref C0) (some dd) a) ∧ H1 dd = some (.xd fs) ∧ fs.lookup n = some v ∧ Q v H1) (kfT C0 n T) := fun F H M σ ρ R Q hr hx hs ht k =>
  h F H M σ ρ _ _ hr hx hs ht fun v H1 F1 M1 x r1 g1 rx q1 => by
    cases x with
    | x a C dd fs =>
      obtain ⟨⟨rfl, h2, h3⟩, h4⟩ := q1
      obtain ⟨y, h5, h6⟩ := gO_of h4
      cases rx with
      | x fx =>
        cases dd with
        | none => cases h2
        | some dd =>
          obtain ⟨fv, e1, e2, e3⟩ := fx
          obtain ⟨u, hu, du⟩ := dx_lookup e2 e3 h5
          obtain ⟨o, e4, e5⟩ := r1.at_ a _ h3
          exact ⟨a, dd, fv, u, rfl, by rw [e4]; exact congrArg some e5, r1.fh _ _ e1, hu, k _ H1 F1 M1 _ r1 g1 (.d du) h6⟩
    | d _ => exact q1.elim
    | r _ => exact q1.elim
    | o _ => exact q1.elim
/-! ### within the suite -/
/-- isinstance(e, c), e the error that the suite holds -/
def rIsS (K : PySem.W.Frag) (a : Addr) (cls : Value) (d : Option Addr) : List V → Hp → VK → Prop := fun xs H Q => ∃ (D : Addr) (c : V) (cv : Value) (b : Bool), cls = .ref D ∧ xs = [.ref a, c] ∧ DxO H d ∧ ExcC K D ∧ (∀ u, RelV c u → u = cv) ∧ PySem.W.kitOne K (.ref D) cv = some b ∧ Q (.bl b) H
def rIsST (K : PySem.W.Frag) (a : Addr) (cls : Value) (d : Option Addr) : List V → Hp → VK → Prop := fun xs H Q => ∃ (D tp : Addr) (cs : List V) (us : List Value) (b : Bool), cls = .ref D ∧ xs = [.ref a, .ref tp] ∧ DxO H d ∧ ExcC K D ∧ H tp = some (.tup cs) ∧ Paired ClsV cs us ∧ PySem.W.kitAny K (.ref D) us = some b ∧ Q (.bl b) H
theorem su_inst {X : Cx} {a D : Addr} {d : Option Addr} {oe : Obj} {pn pins : List (Addr × Obj)} {σ : L2.St} {H : Hp} {s : Shared} (I : Inv (X.suite a ((a, oe) :: pn)) pins σ H s) (hz : Zc (.ref D) d oe) (hf : ∃ vs, oe.data = .fields vs) (hd : DxO H d) : ∃ od, PySem.W.InstAt s.heap a oe D od := by
  obtain ⟨hget, _⟩ := I.pin (a, oe) (List.mem_append.mpr (.inl List.mem_cons_self))
  obtain ⟨vs, hv⟩ := hf
  have no : PySem.W.notCls oe = true := by unfold PySem.W.notCls; rw [hv] <;> rfl
  cases d with
  | none => exact ⟨none, hget, hz.1, no, by rw [hz.2]; trivial⟩
  | some dd =>
    obtain ⟨fs, hf⟩ := hd
    obtain ⟨mA, hns, _⟩ : ∃ mA, s.heap.Ns1 dd mA ∧ ∀ f, RelO (fs.lookup f) (mA f) := I.hok dd _ hf
    obtain ⟨od, ho, _⟩ := lookIn_ns hns
    exact ⟨some od, hget, hz.1, no, by rw [hz.2]; exact ho⟩
theorem call_isS {X : Cx} {a : Addr} {cls : Value} {d : Option Addr} {oe : Obj} {pn : List (Addr × Obj)} (hz : Zc cls d oe) (hf : ∃ vs, oe.data = .fields vs) : CallR (X.suite a ((a, oe) :: pn)) (.builtin "isinstance") (rIsS X.K a cls d) := by
  intro pins s σ H xs us Q I r h
  obtain ⟨D, c, cv, b, rfl, rfl, hd, C, hc, hk, q⟩ := h
  rcases r with _ | ⟨rx, r⟩
  rcases r with _ | ⟨rt, r⟩
  cases r
  cases rx
  obtain rfl := hc _ rt
  obtain ⟨od, J⟩ := su_inst I hz hf hd
  obtain ⟨cd, hcd, _⟩ := PySem.W.any_some C.hd
  exact PySem.W.kia_one (PySem.W.kitx_exc (by rw [hcd]; rfl) C.hg C.hk C.hs C.ha C.hn C.ht C.hm) I.kIn J hk (fun z => nomatch z) fun tk => ⟨.bl b, H, I.kept (t' := tk) fun _ _ z => z, rfl, q⟩
theorem call_isST {X : Cx} {a : Addr} {cls : Value} {d : Option Addr} {oe : Obj} {pn : List (Addr × Obj)} (hz : Zc cls d oe) (hf : ∃ vs, oe.data = .fields vs) : CallR (X.suite a ((a, oe) :: pn)) (.builtin "isinstance") (rIsST X.K a cls d) := by
  intro pins s σ H xs us Q I r h
  obtain ⟨D, tp, cs, ws, b, rfl, rfl, hd, C, hT, kc, hk, q⟩ := h
  rcases r with _ | ⟨rx, r⟩
  rcases r with _ | ⟨rt, r⟩
  cases r
  cases rx
  cases rt
  obtain ⟨od, J⟩ := su_inst I hz hf hd
  obtain ⟨cd, hcd, _⟩ := PySem.W.any_some C.hd
  obtain ⟨_, its, rv, o, h1, h2, n, h3⟩ := (show ObjOk X.prog X.w H s.heap tp (.tup cs) from I.hok tp _ hT)
  have e3 := ClsV.all kc rv
  subst e3
  obtain ⟨oc, od', dt, sl⟩ := o
  simp only at h2 h3
  subst h2 h3
  exact PySem.W.kia_tup (PySem.W.kitx_exc (by rw [hcd]; rfl) C.hg C.hk C.hs C.ha C.hn C.ht C.hm) I.kIn J h1 hk (fun z => nomatch z) fun tk => ⟨.bl b, H, I.kept (t' := tk) fun _ _ z => z, rfl, q⟩
@[reducible] def heldX (K : PySem.W.Frag) (a : Addr) (cls : Value) (d : Option Addr) (x : W) (k : Addr → Prop) : Prop := match x with | .x a' C dd _ => (a' = a ∧ cls = .ref C ∧ dd = d) ∧ ExcC K C ∧ k C | _ => False
theorem heldX_of {F H : Hp} {a : Addr} {cls : Value} {d : Option Addr} {v : V} {x : W} {k : Addr → Prop} (e : Same F H) (r : RW K F v x) (h : heldX K a cls d x k) : ∃ C, cls = .ref C ∧ v = .ref a ∧ DxO H d ∧ ExcC K C ∧ k C := by
  cases x with
  | x a' C dd fs =>
    obtain ⟨⟨rfl, h1, rfl⟩, h2, h3⟩ := h
    cases r with
    | x fx => exact ⟨C, h1, rfl, fx_dx e fx, h2, h3⟩
  | d _ => exact h.elim
  | r _ => exact h.elim
  | o _ => exact h.elim
@[reducible] def fIsS (K : PySem.W.Frag) (a : Addr) (cls : Value) (d : Option Addr) : FL := fun xs M R => g2 xs fun x y => heldX K a cls d x fun C => gO (clsW y) fun c => gO (PySem.W.kitOne K (.ref C) c) fun b => R (.d (.bool b)) M
theorem sc_isS {a : Addr} {cls : Value} {d : Option Addr} : SC K (rIsS K a cls d) (fIsS K a cls d) := fun F H M vs xs R Q hr rx hf k => by
  obtain ⟨x, y, rfl, h1⟩ := g2_of hf
  obtain ⟨v, u, rfl, r, r'⟩ := rx.two
  obtain ⟨C, e1, rfl, e2, e3, h2⟩ := heldX_of hr.fh r h1
  obtain ⟨c, h3, h4⟩ := gO_of h2
  obtain ⟨b, h5, h6⟩ := gO_of h4
  exact ⟨C, u, c, b, e1, rfl, e2, e3, clsV_val (clsW_of r' h3), h5, k _ H F M _ hr .refl (.d (.bl _)) h6⟩
@[reducible] def isST (K : PySem.W.Frag) (a : Addr) (cls : Value) (d : Option Addr) (T : TDE) (U : TDA) : TDE := fun ρ M R => T ρ M fun x M1 => U ρ M1 fun ys M2 => heldX K a cls d x fun C => gCs ys fun cs => gO (PySem.W.kitAny K (.ref C) cs) fun b => R (.d (.bool b)) M2
theorem se_isST {a : Addr} {cls : Value} {d : Option Addr} {n : Nat} {tx : TE} {ta : TA} {T : TDE} {U : TDA} (h1 : SE K Wx RE tx T) (h2 : SAn K Wx RE n ta U) (hn : n ≤ 1000 := by decide) : SE K Wx RE (tCB (rIsST K a cls d) (tCons tx (tCons (tTup ta) tNil))) (isST K a cls d T U) := fun F H M σ ρ R Q hr hx hs ht k =>
  h1 F H M σ ρ _ _ hr hx hs ht fun v H1 F1 M1 x r1 g1 rx q1 => h2 F1 H1 M1 σ ρ _ _ r1 (hx.mono g1) (hs.mono g1.ff) q1 fun vs H2 F2 M2 ys r2 g2 rys hl q2 => by
    refine ⟨by rw [rys.len, hl]; exact sz1000 hn, fun p hp => ?_⟩
    obtain ⟨C, e1, rfl, e2, e3, q3⟩ := heldX_of r2.fh (rx.mono g2.ff) q2
    obtain ⟨cs, kc, q4⟩ := gCs_of rys q3
    obtain ⟨b, q5, q6⟩ := gO_of q4
    have sm := same_new (o := .tup vs) hp
    obtain ⟨r3, g3⟩ := r2.same sm
    refine ⟨C, p, vs, cs, b, e1, rfl, ?_, e3, upd_same, kc, q5, k _ _ F2 M2 _ r3 ((g1.trans g2).trans g3) (.d (.bl _)) q6⟩
    cases d with
    | none => trivial
    | some dd =>
      obtain ⟨fs, e4⟩ := e2
      exact ⟨fs, sm _ _ e4⟩
/-- e.n within the suite -/
@[reducible] def xfT (a : Addr) (cls : Value) (d : Option Addr) (C0 : Addr) (n : Str) (T : TDE) : TDE := fun ρ M R => T ρ M fun x M1 => match x with | .x a' C dd fs => (a' = a ∧ cls = .ref C0 ∧ dd = d ∧ d.isSome = true) ∧ gO (fs.lookup n) fun y => R (.d y) M1 | _ => False
theorem se_xf {a C0 : Addr} {cls : Value} {d : Option Addr} {n : Str} {te : TE} {T : TDE} (h : SE K Wx RE te T) : SE K Wx RE (tXf a cls d C0 n te) (xfT a cls d C0 n T) := fun F H M σ ρ R Q hr hx hs ht k =>
  h F H M σ ρ _ _ hr hx hs ht fun v H1 F1 M1 x r1 g1 rx q1 => by
    cases x with
    | x a' C dd fs =>
      obtain ⟨⟨rfl, h2, rfl, h3⟩, h4⟩ := q1
      obtain ⟨y, h5, h6⟩ := gO_of h4
      cases rx with
      | x fx =>
        cases dd with
        | none => cases h3
        | some dd =>
          obtain ⟨fv, e1, e2, e3⟩ := fx
          obtain ⟨u, hu, du⟩ := dx_lookup e2 e3 h5
          exact ⟨rfl, h2, dd, fv, u, rfl, r1.fh _ _ e1, hu, k _ H1 F1 M1 _ r1 g1 (.d du) h6⟩
    | d _ => exact q1.elim
    | r _ => exact q1.elim
    | o _ => exact q1.elim
end
end Tl

set_option Elab.async false
set_option linter.all false
set_option maxRecDepth 100000
set_option maxHeartbeats 4000000
/-! Further rules: a list extended by a tuple. -/
namespace Tl
open PySem PySem.Spec PyProof.Rows L2
open AutoSeq1 (wpAny_loadPart')
theorem extendTup (l : Addr) (items : Array Value) (n : Nat) (b : Addr) (items2 : Array Value) (n2 : Nat) (dd : Option Addr) (sl : Array (Option Value)) (hs0 : ¬(!items.isEmpty && Builtin.List.listTooLong (items.size + items2.size)) = true) (hs1 : items.size ≤ sizeLine) (hs2 : items.size + items2.size ≤ sizeLine + 1) :
    Meets (Builtin.«list.extend» ⟨[.ref l, .ref b], []⟩) (fun _ R s => s.heap.get? l = some { cls := .type "list", dict := none, data := .seq items n, slots := #[] } ∧ s.heap.get? b = some { cls := .type "tuple", dict := dd, data := .seq items2 n2, slots := sl } ∧ R (.ok (.ret Value.none)) { s with heap := s.heap.update l (Obj.mapSeq fun x => x ++ items2), toks := s.toks }) :=
  .of_wp fun prog w A R s h => by
    obtain ⟨hp, g, d, tk, os⟩ := s
    obtain ⟨hl, hb, h⟩ := h
    have f1 := AutoSeq1.idx_int
    have f2 := AutoSeq1.sub_tuple_tuple
    have f3 := AutoSeq1.sub_list_list
    have f4 := AutoSeq1.sub_tuple_list
    have f5 := AutoSeq1.sub_list_tuple
    have hz' : (items ++ items2).size ≤ sizeLine + 1 := by rw [Array.size_append]; exact hs2
    wp_walk using (wpAny_updateSeq hl rfl (hz := hs1) (_hz' := hz')), wpAny_loadPart' hl, wpAny_loadPart' hb
    exact ⟨_, rfl, h⟩
def rExtT (K : PySem.W.Frag) : V → List V → Hp → VK → Prop := fun x vs H Q => ∃ l b xs zs, x = .ref l ∧ vs = [.ref b] ∧ H l = some (.lst xs) ∧ SqT K H b zs ∧ xs.length + zs.length ≤ sizeLine ∧ Q .non (upd H l (.lst (xs ++ zs)))
theorem mt_extT {X : Cx} : MtM X "list.extend" (rExtT X.K) := by
  intro pins s σ H x vs v us Q I rx rv h
  obtain ⟨l, b, xs, zs, rfl, rfl, hH, hB, hz, q⟩ := h
  cases rx
  rcases rv with _ | ⟨ru, rv⟩
  cases rv
  cases ru
  obtain ⟨z, its, n, r, hl, e⟩ := I.lstM hH
  obtain ⟨its2, r2, ⟨⟨oc, od, dt, sl⟩, ho, hc, n2, hd⟩, hz2⟩ := I.tuple hB
  simp only at hc hd
  subst hc hd
  have hl2 := r2.length
  have hsz : its.toArray.size + its2.toArray.size ≤ sizeLine := by rw [List.size_toArray, List.size_toArray]; omega
  have hlong : ¬ (!its.toArray.isEmpty && Builtin.List.listTooLong (its.toArray.size + its2.toArray.size)) = true := by
    rw [notLongL hsz, Bool.and_false]
    exact Bool.false_ne_true
  refine call_meets F.slot_list_extend ⟨_, e, rfl⟩ F.entry_list_extend (F.args_list_extend_2 _ _)
    (extendTup l its.toArray n b its2.toArray n2 od sl hlong (by rw [List.size_toArray]; omega) (by omega)) ⟨e, ho, ?_⟩
  refine ⟨.non, _, I.lset (its' := its ++ its2) hH e (by simp) (r.append r2) ?_, rfl, q⟩
  rw [List.length_append]
  omega
section
variable {K : PySem.W.Frag} {Wx : WX} {RE : REx}
@[reducible] def fExtT : W → List W → Mem → (W → Mem → Prop) → Prop := fun x xs M R => gR x fun a => g1 xs fun y => ∃ ws, M a = some (.lst ws) ∧ gT y fun ds => ws.length + ds.length ≤ sizeLine ∧ R (.d .none) (mset M a (.lst (ws ++ ds.map W.d)))
theorem sm_extT : SM K (rExtT K) fExtT := fun F H M v vs x xs R Q hr rx rxs hf k => by
  obtain ⟨a, rfl, h1⟩ := gR_of hf
  obtain ⟨y, rfl, ws, h2, h3⟩ := g1_of h1
  obtain ⟨ds, rfl, hz, h8⟩ := gT_of h3
  obtain ⟨u, rfl, ry⟩ := rxs.one
  obtain ⟨us, h4, h5⟩ := hr.lst h2
  obtain ⟨b, zv, rfl, h6, h7⟩ := ry.tup
  rw [rx.ref]
  refine ⟨a, b, us, zv, rfl, rfl, h4, same_t hr.fh h6, by rw [h5.len, h7.len]; exact hz, ?_⟩
  obtain ⟨r2, g2⟩ := hr.put (u := .lst (us ++ zv)) (o := .lst (ws ++ ds.map W.d)) h2 ⟨_, rfl, h5.app (.dat h7)⟩
  exact k _ _ _ _ _ r2 g2 (.d .non) h8
end
end Tl

set_option Elab.async false
set_option linter.all false
set_option maxRecDepth 100000
set_option maxHeartbeats 4000000
/-! t[::-1] of a tuple; rows by their places. -/
namespace Tl
open PySem PySem.Spec PyProof.Rows L2
section
variable {prog : Program} {w : World} {A : Around} {E : Value → Shared → Prop} {s : Shared}
theorem adj_rev (n : Nat) : Builtin.Slice.sliceAdjust none none (-1) (n : Int) = ((n : Int) - 1, -1) := rfl
theorem places_rev (n : Nat) : Builtin.Slice.slicePlaces ((n : Int) - 1) (-1) (-1) = n := by
  unfold Builtin.Slice.slicePlaces
  rw [if_neg (by decide)]
  by_cases h : (n : Int) - 1 > -1
  · rw [if_pos h, show (- -1 : Int) = 1 by decide, Int.ediv_one]
    omega
  · rw [if_neg h]
    omega
theorem fm_congr {α β : Type} {f g : α → Option β} : ∀ {l : List α}, (∀ x ∈ l, f x = g x) → l.filterMap f = l.filterMap g
  | [], _ => rfl
  | a :: l, h => by rw [List.filterMap_cons, List.filterMap_cons, h a (.head _), fm_congr fun x hx => h x (.tail _ hx)]
theorem pick_rev (xs : Array Value) : ((List.range xs.size).filterMap fun (k : Nat) => xs[((xs.size : Int) - 1 + (k : Int) * -1).toNat]?).toArray = xs.toList.reverse.toArray := by
  congr 1
  apply List.ext_getElem?
  intro i
  have e : (List.range xs.size).filterMap (fun (k : Nat) => xs[((xs.size : Int) - 1 + (k : Int) * -1).toNat]?) = (List.range xs.size).filterMap (fun k => xs.toList.reverse[k]?) := by
    apply fm_congr
    intro k hk
    have hk2 := List.mem_range.mp hk
    rw [List.getElem?_reverse (by simpa using hk2), show ((xs.size : Int) - 1 + (k : Int) * -1).toNat = xs.size - 1 - k by omega]
    simp
  rw [e]
  have : ∀ (l : List Value), (List.range l.length).filterMap (fun k => l[k]?) = l := by
    intro l
    induction l with
    | nil => rfl
    | cons a l ih =>
      rw [List.length_cons, List.range_succ_eq_map, List.filterMap_cons, List.filterMap_map]
      show a :: List.filterMap (fun k => l[k]?) (List.range l.length) = _
      rw [ih]
  have h2 := this xs.toList.reverse
  rw [List.length_reverse, Array.length_toList] at h2
  rw [h2]
theorem getItem_tuple_rev {t sl : Addr} {items : Array Value} {vl vu vs : Value} {Q : Value → Shared → Prop} (ht : IsTup s.heap t items) (hs : s.heap.IsSliceOf sl vl vu vs) (pl : IsPart vl none) (pu : IsPart vu none) (ps : IsPart vs (some (-1)))
    (h : Q (.ref s.heap.objs.size) { s with heap := s.heap.push { cls := .type "tuple", data := .seq items.toList.reverse.toArray } })
    (hsz : items.size ≤ sizeLine) : wpAny (model prog w) A (getItem (.ref t) (.ref sl)) Q E s := by
  have htake : sizeOk (.seq items.toList.reverse.toArray) := by
    show items.toList.reverse.toArray.size ≤ sizeLine
    rw [List.size_toArray, List.length_reverse, Array.length_toList]
    exact hsz
  obtain ⟨os, hos, hcs, hds⟩ := id hs
  have hTs : s.TypeIs (.ref sl) "slice" := ⟨os, hos, hcs⟩
  unfold getItem
  try with_reducible refine wpAny_holding ?_
  first | refine wpAny_bind (wpAny_pure ?_) | skip
  refine wpAny_bind (wpAny_sequenceKey ht.typeIs (by decide) ?_)
  refine wpAny_bind (wpAny_callSpecial?_slot (name := Str.ofString "__getitem__") ht.typeIs PyProof.Rows.slot_tuple_getitem
    (wpAny_call_entry PyProof.Rows.slot_tuple_getitem ht.typeIs entry_tuple_getitem ?_ (args_tuple_getitem _ _)))
  show wpAny _ _ (Builtin.Tuple.tupleItemsOf (.ref t) >>= _) _ _ s
  refine wpAny_bind (tupleItemsOf_ ht ?_)
  refine wpAny_bind (wpAny_typeOf hTs ?_)
  rw [if_pos (by decide)]
  refine wpAny_bind (m := Builtin.Slice.sliceApplied (.ref sl) (pure (items.size : Int))) ?_
  unfold Builtin.Slice.sliceApplied Builtin.Slice.sliceFields
  refine wpAny_bind (wpAny_bind (wpAny_field hos hds (x := vl) rfl (wpAny_bind (wpAny_field hos hds (x := vu) rfl (wpAny_bind (wpAny_field hos hds (x := vs) rfl (wpAny_pure ?_)))))))
  refine wpAny_bind (HT.slicePart_ ps ?_)
  show wpAny _ _ (if ((-1 : Int) == 0) = true then _ else _) _ _ s
  rw [if_neg (by decide)]
  refine wpAny_bind (HT.slicePart_ pl (wpAny_bind (HT.slicePart_ pu (wpAny_bind (wpAny_pure ?_)))))
  show wpAny _ _ (match Builtin.Slice.sliceAdjust none none (-1) (items.size : Int) with | (lo, hi) => pure (lo, (-1 : Int), Builtin.Slice.slicePlaces lo hi (-1))) _ _ s
  rw [adj_rev]
  show wpAny _ _ (pure ((items.size : Int) - 1, (-1 : Int), Builtin.Slice.slicePlaces ((items.size : Int) - 1) (-1) (-1))) _ _ s
  rw [places_rev]
  refine wpAny_pure ?_
  have hno : ¬ ((((items.size : Int) - 1) == 0 && (-1 : Int) == 1 && items.size == items.size) = true) := by
    rw [show ((-1 : Int) == 1) = false by decide, Bool.and_false, Bool.false_and]
    exact Bool.false_ne_true
  show wpAny _ _ (if (((items.size : Int) - 1) == 0 && (-1 : Int) == 1 && items.size == items.size) = true then _ else _) _ _ s
  rw [if_neg hno, pick_rev]
  first
    | exact wpAny_bind (m := Builtin.Tuple.tupleExact _) (wpAny_newObj_type (wpAny_pure ⟨_, rfl, wpAny_pure h⟩) htake)
    | exact wpAny_bind (m := Builtin.Tuple.tupleExact _) (wpAny_newObj_type (wpAny_bind (wpAny_pure (wpAny_pure ⟨_, rfl, wpAny_pure h⟩))) htake)
    | exact wpAny_bind (wpAny_bind (m := Builtin.Tuple.tupleExact _) (wpAny_newObj_type (wpAny_pure (wpAny_pure ⟨_, rfl, wpAny_pure h⟩)) htake))
    | exact wpAny_bind (wpAny_bind (m := Builtin.Tuple.tupleExact _) (wpAny_newObj_type (wpAny_pure ⟨_, rfl, wpAny_pure h⟩) htake))
end
section
variable {X : Cx}
def tRevT (K : PySem.W.Frag) (te : TE) : TE := fun σ H Q => te σ H fun x H1 => ∃ a xs, x = .ref a ∧ SqT K H1 a xs ∧ ∀ p, H1 p = none → Q (.ref p) (upd H1 p (.tup xs.reverse))
theorem pe_revT {e : Expr} {te : TE} {k : Nat} {p1 p2 p3 pos : Pos} (he : PE X e te) : PE X (.Subscript e (.Slice none none (some (.UnaryOp .USub (.Constant (.int 1) k p1) p2)) p3) pos) (tRevT X.K te) := by
  refine ⟨fun pins s σ H Q I h => ?_⟩
  refine Subscript_ (thn (he.run pins s σ H _ I h) fun v s1 ⟨x, H1, I1, r1, q1⟩ => ?_)
  obtain ⟨a, xs, ex, hx, q⟩ := q1
  subst ex
  cases r1
  have hst : PO X (some (.UnaryOp .USub (.Constant (.int 1) k p1) p2)) (tPart (tUn (rU fun i => .int (-i)) (tC (.int 1)))) := po_some (pe_un un_neg pe_int)
  refine wpAny_Slice (thn (po_none.run pins s1 σ H1 (fun o H2 => o = none ∧ H2 = H1) I1 ⟨rfl, rfl⟩) fun vl s2 ⟨l, H2, I2, pl, el, e2⟩ => ?_)
  subst el e2
  refine thn (po_none.run pins s2 σ H2 (fun o H3 => o = none ∧ H3 = H2) I2 ⟨rfl, rfl⟩) fun vu s3 ⟨u, H3, I3, pu, eu, e3⟩ => ?_
  subst eu e3
  refine thn (hst.run pins s3 σ H3 (fun o H4 => o = some (-1) ∧ H4 = H3) I3 ⟨1, rfl, -1, rfl, rfl, rfl⟩) fun vs s4 ⟨o, H4, I4, ps, eo, e4⟩ => ?_
  subst eo e4
  have I5 : Inv X pins σ H4 { s4 with heap := s4.heap.push { cls := .type "slice", data := .fields #[vl, vu, vs] } } := I4.kept (t' := s4.toks) fun b ob q => Heap.get?_push_of_some _ q
  obtain ⟨its, r, ht, hz⟩ := I5.tuple hx
  have hlen := r.length
  show wpAny (model X.prog X.w) X.A (subscriptTail e (.Slice none none (some (.UnaryOp .USub (.Constant (.int 1) k p1) p2)) p3) (.ref a) (.ref s4.heap.objs.size)) (EP X pins σ Q) X.xe { s4 with heap := s4.heap.push { cls := .type "slice", data := .fields #[vl, vu, vs] } }
  refine tail_any (ops := [.ref a, .ref s4.heap.objs.size]) ht.typeIs PyProof.Rows.slot_tuple_getitem.lookup ?_ (by with_unfolding_all rfl)
  refine getItem_tuple_rev ht (Heap.IsSliceOf.new _ vl vu vs) pl pu ps ?_ (by rw [List.size_toArray]; omega)
  refine ⟨.ref _, _, I5.laid (t' := s4.toks) (o := .tup xs.reverse) (fun b ob q => Heap.get?_push_of_some _ q) (Nat.le_refl _) ?_, rfl, q _ (I5.hok.fresh (Nat.le_refl _))⟩
  exact ⟨by rw [List.length_reverse]; exact hz, _, r.reverse, _, Heap.get?_push_size _ rfl, rfl, 0, rfl⟩
end
section
variable {K : PySem.W.Frag} {Wx : WX} {RE : REx}
@[reducible] def rvT (T : TDE) : TDE := fun ρ M R => T ρ M fun x M1 => gT x fun ds => R (.d (.tuple ds.reverse)) M1
theorem se_rvT {t : TE} {T : TDE} (h : SE K Wx RE t T) : SE K Wx RE (tRevT K t) (rvT T) := fun F H M σ ρ R Q hr hx hs ht k =>
  h F H M σ ρ _ _ hr hx hs ht fun v H1 F1 M1 x r1 g1 rx h1 => by
    obtain ⟨ds, rfl, h2⟩ := gT_of h1
    obtain ⟨a, xs, rfl, h3, h4⟩ := rx.tup
    refine ⟨a, xs, rfl, same_t r1.fh h3, fun p hp => ?_⟩
    obtain ⟨r2, g2, rz⟩ := r1.tup hp h4.rev
    exact k _ _ _ _ _ r2 (g1.trans g2) rz h2
end
section
variable {b : TDG} {keep : Mem → Prop} {tt : TDT} {te : TDE} {ρ : EnvD} {fin : List W → Mem → Prop} {M : Mem}
/-- each row gives the item at its place -/
theorem lc_rows (hk : keep M) : ∀ (rows : List (List W)) (ys acc : List W), rows.length = ys.length → (∀ (j : Nat) (row : List W) (y : W), rows[j]? = some row → ys[j]? = some y → ∀ Rk : W → Mem → Prop, Rk y M → b row ρ M fun ρ1 M1 => te ρ1 M1 Rk) → acc.length + rows.length ≤ sizeLine → fin (acc ++ ys) M → lcGo b keep yesT te ρ fin rows acc M
  | [], ys, acc, hl, hb, hz, h => by
    have : ys = [] := List.eq_nil_of_length_eq_zero hl.symm
    subst this
    rw [lcGo]
    rw [List.append_nil] at h
    exact ⟨hk, h⟩
  | r :: rows, [], acc, hl, hb, hz, h => by simp at hl
  | r :: rows, y :: ys, acc, hl, hb, hz, h => by
    rw [lcGo]
    rw [List.length_cons] at hz
    refine ⟨hk, hb 0 r y rfl rfl _ ⟨by omega, lc_rows hk rows ys (acc ++ [y]) (by simpa using hl) (fun j row y' h1 h2 => hb (j + 1) row y' (by simpa using h1) (by simpa using h2)) (by rw [List.length_append]; simp; omega) (by rw [List.append_assoc]; exact h)⟩⟩
theorem lc_ix {α : Type} {i : Nat} {f : α → W} {xs : List α} (ys : List W) (hl : xs.length = ys.length) (hk : keep M) (hb : ∀ (j : Nat) (a : α) (y : W), xs[j]? = some a → ys[j]? = some y → ∀ Rk : W → Mem → Prop, Rk y M → te (put ρ i (some (f a))) M Rk) (hz : xs.length ≤ sizeLine) (h : fin ys M) : lcGo (bName i) keep yesT te ρ fin (rows1 (xs.map f)) [] M := by
  rw [rows1_map]
  refine lc_rows hk _ ys [] (by rw [List.length_map]; exact hl) (fun j row y h1 h2 Rk q => ?_) (by rw [List.length_map]; simpa using hz) h
  rw [List.getElem?_map] at h1
  obtain ⟨a, ha, rfl⟩ := Option.map_eq_some_iff.mp h1
  exact hb j a y ha h2 Rk q
end
end Tl

set_option Elab.async false
set_option linter.all false
set_option maxRecDepth 100000
set_option maxHeartbeats 4000000
/-! What the readings are unfolded by. -/
namespace Tl
open PySem L2
theorem slot_0 {x : Option W} {r : EnvD} : slot (x :: r) 0 = x := rfl
theorem slot_s {x : Option W} {r : EnvD} {n : Nat} : slot (x :: r) (n + 1) = slot r n := rfl
theorem put_0 {x w : Option W} {r : EnvD} : put (x :: r) 0 w = w :: r := rfl
theorem put_s {x w : Option W} {r : EnvD} {n : Nat} : put (x :: r) (n + 1) w = x :: put r n w := rfl
theorem hide_0 {r : EnvD} : hide r [] = r := rfl
theorem hide_s {r : EnvD} {v : Nat} {vs : List Nat} : hide r (v :: vs) = put (hide r vs) v none := rfl
theorem gDs_0 {k : List PyData → Prop} : gDs [] k = k [] := rfl
theorem gDs_s {a : PyData} {r : List W} {k : List PyData → Prop} : gDs (.d a :: r) k = gDs r fun ds => k (a :: ds) := rfl
theorem gBs_0 {k : List Bool → Prop} : gBs [] k = k [] := rfl
theorem gBs_s {x : W} {r : List W} {k : List Bool → Prop} : gBs (x :: r) k = gB x fun b => gBs r fun bs => k (b :: bs) := rfl
theorem gIs_0 {k : List Int → Prop} : gIs [] k = k [] := rfl
theorem gIs_s {x : W} {r : List W} {k : List Int → Prop} : gIs (x :: r) k = gI x fun b => gIs r fun bs => k (b :: bs) := rfl
theorem gSs_0 {k : List Str → Prop} : gSs [] k = k [] := rfl
theorem gSs_s {x : W} {r : List W} {k : List Str → Prop} : gSs (x :: r) k = gS x fun b => gSs r fun bs => k (b :: bs) := rfl
theorem gCs_0 {k : List Value → Prop} : gCs [] k = k [] := rfl
theorem gCs_s {x : W} {r : List W} {k : List Value → Prop} : gCs (x :: r) k = gO (clsW x) fun c => gCs r fun cs => k (c :: cs) := rfl
theorem tyIs_int {d : PyData} : tyIs d "int" = some (isInt d) := by simp [tyIs]
theorem tyIs_bool {d : PyData} : tyIs d "bool" = some (isBl d) := by simp [tyIs]
theorem tyIs_str {d : PyData} : tyIs d "str" = some (isStr d) := by simp [tyIs]
theorem tyIs_tuple {d : PyData} : tyIs d "tuple" = some (isTup d) := by simp [tyIs]
theorem tyIs_list {d : PyData} : tyIs d "list" = some (isList d) := by simp [tyIs]
theorem map_c {α β : Type} {f : α → β} {a : α} {l : List α} : (a :: l).map f = f a :: l.map f := rfl
theorem map_n {α β : Type} {f : α → β} : ([] : List α).map f = [] := rfl
theorem app_c {α : Type} {a : α} {l r : List α} : (a :: l) ++ r = a :: (l ++ r) := rfl
theorem app_n {α : Type} {r : List α} : ([] : List α) ++ r = r := rfl
theorem len_c {α : Type} {a : α} {l : List α} : (a :: l).length = l.length + 1 := rfl
theorem len_n {α : Type} : ([] : List α).length = 0 := rfl
theorem rep_0 {α : Type} {a : α} : List.replicate 0 a = [] := rfl
theorem rep_s {α : Type} {a : α} {n : Nat} : List.replicate (n + 1) a = a :: List.replicate n a := rfl
theorem not_t : (!true) = false := rfl
theorem not_f : (!false) = true := rfl
theorem ite_t {α : Sort u} {a b : α} : (if true = true then a else b) = a := rfl
theorem ite_f {α : Sort u} {a b : α} : (if false = true then a else b) = b := rfl
theorem itp_t {a b : Prop} : (if true = true then a else b) = a := rfl
theorem itp_f {a b : Prop} : (if false = true then a else b) = b := rfl
theorem gO_i {α : Type} {o : Option α} {a : α} {k : α → Prop} (h : o = some a) (q : k a) : gO o k := by rw [h]; exact q
theorem iteTT {c : Bool} {A B : Prop} (h : c = true) (q : A) : if c = true then A else B := by rw [if_pos h]; exact q
theorem iteFF {c : Bool} {A B : Prop} (h : c = false) (q : B) : if c = true then A else B := by rw [h, if_neg Bool.false_ne_true]; exact q
theorem gDs_i {ds : List PyData} {k : List PyData → Prop} (q : k ds) : gDs (ds.map W.d) k := by rw [gDs_map]; exact q
end Tl

set_option Elab.async false
set_option linter.all false
set_option maxRecDepth 100000
set_option maxHeartbeats 4000000
namespace Tl
open PySem L2 RZ
def top (i : Nat) : Stmt := PySem.Challenge.pw_treelore_k26_flat_rows_or_not.main.body.getD i (.Pass ⟨0, 0, 0, 0⟩)
section
variable {P : Program} {w : World} {K : PySem.W.Frag} {mg : Str → Option Value} {base : Heap}
abbrev sIsCount : Stmt := top 11
theorem scCount : FnScope ["thing"] ["thing"] (defScope sIsCount) := ⟨rfl, rfl, rfl, by decide +kernel, rfl, by decide +kernel, by decide +kernel⟩
theorem ok_count {f : Addr} {fd : FuncData} {k : Nat} (F : Fun K "is_count" "is_count" sIsCount f fd) (T : Bl mg) : FnOk P w K mg base CX0 (k + 1) f fd ["thing"] (spD K 1 (tfB isCount)) := by
  refine okD F scCount rfl fun cdv A outer s H E hr => ?_
  refine ⟨_, _, (pss_one (ps_ret (pe_and (pe_callB (r := rIsi K) call_isi (by rfl) T.isi PyProof.Rows.boot_isinstance (pa_cons (pv 0) (pa_cons (b_int T) pa_nil))) (pe_and (pe_not (pe_callB (r := rIsi K) call_isi (by rfl) T.isi PyProof.Rows.boot_isinstance (pa_cons (pv 0) (pa_cons (b_bool T) pa_nil)))) (pe_one (pe_cmpR op_ge (pv 0) pe_int (nomark _))))))),
    (ss_ret (se_and (se_cb sc_isi (sa_cons se_nm (sa_cons se_o sa_nil))) (se_and (se_not (se_cb sc_isi (sa_cons se_nm (sa_cons se_o sa_nil)))) (se_op so_ge se_nm se_int)))), fun ws M R RX hl h => ?_⟩
  obtain ⟨x, rfl, h1⟩ := g1_of h
  obtain ⟨d, rfl, ht, h2⟩ := gD_of h1
  simp only [whileS, seqS, setS, retS, retN, dropS, ifS, nextS, unpS, setIx, forS, raiseS, breakS, contS, nmT, cT, opT, unT, tbT, andT, orT, notT, andV, orV, notV, ifT, chT, nilA, consA, tupT, lsfT, lstT, slT, noP, someP, rvF, rvT, cbT, callT, callX, frT, itTup, itLst, itStr, itR1, itR2, itEnT, itEnL, slot, put, hide, start0, g1, g2, gI, gS, gB, gT, gL, gD, gR, gW, gDs, gDs_map, gBs, gIs, gSs, gO, gRow, asD, fI, fIc, fAdd, fSub, fMul, fMod, fDiv, fPow, fLt, fLe, fGt, fGe, fNeg, fS, fAddS, fLeS, fRepS, fInS, isN, fIsN, fEqD, eqS, fEqS, fIxT, fIxL, fIxS, fSlT, fSlF, fSlL, fSlS, fCatT, fCatF, fCatL, fRepT, fLen, fLenS, fAll, fSum, fMax, fMax2, fTuple, fListF, fListL, fInt, fIsi, tyIs, bName, bPair, bTup2, fAppend, fExtend, yesT, bmL, lcF, lcL, itR3, itZip, augI, fMin2, ckT, fMaxD, joinT, fInQ, fRepr, fInsert, fPopAt, fExtT, tryA, tryB, tryO, clsW, keptX, fIsK, gCs, isKT, kfT, heldX, fIsS, isST, xfT, PySem.W.kitAny, List.map_cons, List.map_nil, List.cons_append, List.nil_append, List.length_cons, List.length_nil, List.replicate, String.reduceEq, if_true, if_false, Bool.false_eq_true, Bool.not_true, Bool.not_false, true_and, and_true, any1]
  cases d <;> simp [isInt, isBl, isCount] at h2 ⊢ <;> exact h2
abbrev sIsNumber : Stmt := top 12
theorem scNumber : FnScope ["thing", "most"] ["thing", "most"] (defScope sIsNumber) := ⟨rfl, rfl, rfl, by decide +kernel, rfl, by decide +kernel, by decide +kernel⟩
theorem ok_number {f : Addr} {fd : FuncData} {k j : Nat} (F : Fun K "is_number" "is_number" sIsNumber f fd) (Uis_count : Use P w K mg base "is_count" ["thing"] j (spD K 1 (tfB isCount))) (hj : j ≤ k) (T : Bl mg) : FnOk P w K mg base CX0 (k + 1) f fd ["thing", "most"] (spD K 2 (tfB2 isNum)) := by
  refine okD F scNumber rfl fun cdv A outer s H E hr => ?_
  refine ⟨_, _, (pss_one (ps_ret (pe_and (pe_call Uis_count.ok (hr.mono (by omega)) rfl Uis_count.m Uis_count.kp Uis_count.b .nil pass0 (pa_cons (pv 0) pa_nil)) (pe_one (pe_cmpR op_le (pv 0) (pv 1) (nomark _)))))),
    (ss_ret (se_and (se_call (sa_cons se_nm sa_nil)) (se_op so_le se_nm se_nm))), fun ws M R RX hl h => ?_⟩
  obtain ⟨x, y, rfl, h1⟩ := g2_of h
  obtain ⟨d, rfl, h2⟩ := gD_of h1
  obtain ⟨m, rfl, ht, h3⟩ := gI_of h2
  simp only [whileS, seqS, setS, retS, retN, dropS, ifS, nextS, unpS, setIx, forS, raiseS, breakS, contS, nmT, cT, opT, unT, tbT, andT, orT, notT, andV, orV, notV, ifT, chT, nilA, consA, tupT, lsfT, lstT, slT, noP, someP, rvF, rvT, cbT, callT, callX, frT, itTup, itLst, itStr, itR1, itR2, itEnT, itEnL, slot, put, hide, start0, g1, g2, gI, gS, gB, gT, gL, gD, gR, gW, gDs, gDs_map, gBs, gIs, gSs, gO, gRow, asD, fI, fIc, fAdd, fSub, fMul, fMod, fDiv, fPow, fLt, fLe, fGt, fGe, fNeg, fS, fAddS, fLeS, fRepS, fInS, isN, fIsN, fEqD, eqS, fEqS, fIxT, fIxL, fIxS, fSlT, fSlF, fSlL, fSlS, fCatT, fCatF, fCatL, fRepT, fLen, fLenS, fAll, fSum, fMax, fMax2, fTuple, fListF, fListL, fInt, fIsi, tyIs, bName, bPair, bTup2, fAppend, fExtend, yesT, bmL, lcF, lcL, itR3, itZip, augI, fMin2, ckT, fMaxD, joinT, fInQ, fRepr, fInsert, fPopAt, fExtT, tryA, tryB, tryO, clsW, keptX, fIsK, gCs, isKT, kfT, heldX, fIsS, isST, xfT, PySem.W.kitAny, List.map_cons, List.map_nil, List.cons_append, List.nil_append, List.length_cons, List.length_nil, List.replicate, String.reduceEq, if_true, if_false, Bool.false_eq_true, Bool.not_true, Bool.not_false, true_and, and_true, any1, tfB]
  refine ⟨ht, ?_⟩
  cases d <;> simp [isCount, isNum] at h3 ⊢ <;> try exact h3
  by_cases c : 0 ≤ ‹Int› <;> simp [c] at h3 ⊢ <;> exact h3
abbrev sIsTag : Stmt := top 13
theorem scTag : FnScope ["thing", "sign"] ["thing"] (defScope sIsTag) := ⟨rfl, rfl, rfl, by decide +kernel, rfl, by decide +kernel, by decide +kernel⟩
theorem ok_tag {f : Addr} {fd : FuncData} {k : Nat} (F : Fun K "is_tag" "is_tag" sIsTag f fd) (T : Bl mg) (C : Cs mg) : FnOk P w K mg base CX0 (k + 1) f fd ["thing"] (spD K 1 (tfB isTag)) := by
  refine okD F scTag rfl fun cdv A outer s H E hr => ?_
  refine ⟨_, _, (pss_cons (ps_if (PW.pt (pw_or (pt_not (pt_val (pe_callB (r := rIsi K) call_isi (by rfl) T.isi PyProof.Rows.boot_isinstance (pa_cons (pv 0) (pa_cons (b_str T) pa_nil))))) (pw_or1 (pt_not (pt_chain op_le op_le pe_int (pe_callB call_len_str (by rfl) T.len PySem.boot_len (pa_cons (pv 0) pa_nil)) (c_SIGNS C)))))) (pss_one (ps_ret pe_bl)) pss_nil)
    (pss_one (ps_ret (pe_callB (cr_all rfl) (by rfl) T.all PyProof.Rows.boot_all (pa_cons (pe_lc (own := [("sign", 1)]) (g := gName 1) (tt := tYes) (by rfl) scTag.nd (pi_str (pv 0)) (blkOk_by (N := ["thing", "sign"]) (sc := defScope sIsTag) (own := [("sign", 1)]) (by decide +kernel)) (fun _ _ _ _ _ => pg_name (i := 1) scTag.nd rfl (Or.inl rfl)) (fun _ _ _ _ _ => pts_nil) (fun _ _ _ _ _ => (pe_chain op_le_str op_le_str pe_str (pv 1) pe_str))) pa_nil))))),
    (ss_cons (ss_if (st_or (st_not (st_val (se_cb sc_isi (sa_cons se_nm (sa_cons se_o sa_nil))))) (st_not (st_test (se_chain so_le so_le se_int (se_cb sc_lenS (sa_cons se_nm sa_nil)) se_int)))) (ss_ret se_bl) ss_nil)
    (ss_ret (se_cb sc_all (sa_cons (se_lcF (si_str se_nm) sg_name st_yes (se_chain so_leS so_leS se_str se_nm se_str)) sa_nil)))), fun ws M R RX hl h => ?_⟩
  obtain ⟨x, rfl, h1⟩ := g1_of h
  obtain ⟨d, rfl, ht, h2⟩ := gD_of h1
  cases d with
  | str z =>
    have hz : z.length ≤ 1000 := (txt_str ht).1
    simp only [whileS, seqS, setS, retS, retN, dropS, ifS, nextS, unpS, setIx, forS, raiseS, breakS, contS, nmT, cT, opT, unT, tbT, andT, orT, notT, andV, orV, notV, ifT, chT, nilA, consA, tupT, lsfT, lstT, slT, noP, someP, rvF, rvT, cbT, callT, callX, frT, itTup, itLst, itStr, itR1, itR2, itEnT, itEnL, slot, put, hide, start0, g1, g2, gI, gS, gB, gT, gL, gD, gR, gW, gDs, gDs_map, gBs, gIs, gSs, gO, gRow, asD, fI, fIc, fAdd, fSub, fMul, fMod, fDiv, fPow, fLt, fLe, fGt, fGe, fNeg, fS, fAddS, fLeS, fRepS, fInS, isN, fIsN, fEqD, eqS, fEqS, fIxT, fIxL, fIxS, fSlT, fSlF, fSlL, fSlS, fCatT, fCatF, fCatL, fRepT, fLen, fLenS, fAll, fSum, fMax, fMax2, fTuple, fListF, fListL, fInt, fIsi, tyIs, bName, bPair, bTup2, fAppend, fExtend, yesT, bmL, lcF, lcL, itR3, itZip, augI, fMin2, ckT, fMaxD, joinT, fInQ, fRepr, fInsert, fPopAt, fExtT, tryA, tryB, tryO, clsW, keptX, fIsK, gCs, isKT, kfT, heldX, fIsS, isST, xfT, PySem.W.kitAny, List.map_cons, List.map_nil, List.cons_append, List.nil_append, List.length_cons, List.length_nil, List.replicate, String.reduceEq, if_true, if_false, Bool.false_eq_true, Bool.not_true, Bool.not_false, true_and, and_true, any1, isStr]
    refine ⟨sz1000 hz, ?_⟩
    rw [isTag] at h2
    refine iteD (fun c1 => iteN (fun c2 => ?_) (fun c2 => ?_)) (fun c1 => ?_)
    · rw [decide_eq_false (p := z.length ≤ 8) (by omega), Bool.and_false, Bool.false_and] at h2
      exact h2
    · rw [decide_eq_true (p := 1 ≤ z.length) (by omega), decide_eq_true (p := z.length ≤ 8) (by omega)] at h2
      unfold signs
      refine lc1 (fun c => .d (.bool (small c))) trivial (fun c _ Rk q => ?_) (sz1000 (by show z.length ≤ 1000; omega)) ?_
      · simp only [whileS, seqS, setS, retS, retN, dropS, ifS, nextS, unpS, setIx, forS, raiseS, breakS, contS, nmT, cT, opT, unT, tbT, andT, orT, notT, andV, orV, notV, ifT, chT, nilA, consA, tupT, lsfT, lstT, slT, noP, someP, rvF, rvT, cbT, callT, callX, frT, itTup, itLst, itStr, itR1, itR2, itEnT, itEnL, slot, put, hide, start0, g1, g2, gI, gS, gB, gT, gL, gD, gR, gW, gDs, gDs_map, gBs, gIs, gSs, gO, gRow, asD, fI, fIc, fAdd, fSub, fMul, fMod, fDiv, fPow, fLt, fLe, fGt, fGe, fNeg, fS, fAddS, fLeS, fRepS, fInS, isN, fIsN, fEqD, eqS, fEqS, fIxT, fIxL, fIxS, fSlT, fSlF, fSlL, fSlS, fCatT, fCatF, fCatL, fRepT, fLen, fLenS, fAll, fSum, fMax, fMax2, fTuple, fListF, fListL, fInt, fIsi, tyIs, bName, bPair, bTup2, fAppend, fExtend, yesT, bmL, lcF, lcL, itR3, itZip, augI, fMin2, ckT, fMaxD, joinT, fInQ, fRepr, fInsert, fPopAt, fExtT, tryA, tryB, tryO, clsW, keptX, fIsK, gCs, isKT, kfT, heldX, fIsS, isST, xfT, PySem.W.kitAny, List.map_cons, List.map_nil, List.cons_append, List.nil_append, List.length_cons, List.length_nil, List.replicate, String.reduceEq, if_true, if_false, Bool.false_eq_true, Bool.not_true, Bool.not_false, true_and, and_true, any1]
        rw [le_a, le_z]
        unfold small at q
        by_cases c3 : 97 ≤ c <;> simp [c3] at q ⊢ <;> exact q
      · rw [show (z.cps.toList.map fun c => W.d (.bool (small c))) = (z.cps.toList.map fun c => PyData.bool (small c)).map W.d by rw [List.map_map]; rfl, gDs_map, List.map_map]
        show gBs (z.cps.toList.map fun c => W.d (.bool (small c))) _
        rw [gBs_map]
        simpa using h2
    · rw [decide_eq_false (p := 1 ≤ z.length) (by omega), Bool.false_and, Bool.false_and] at h2
      exact h2
  | _ => simp only [whileS, seqS, setS, retS, retN, dropS, ifS, nextS, unpS, setIx, forS, raiseS, breakS, contS, nmT, cT, opT, unT, tbT, andT, orT, notT, andV, orV, notV, ifT, chT, nilA, consA, tupT, lsfT, lstT, slT, noP, someP, rvF, rvT, cbT, callT, callX, frT, itTup, itLst, itStr, itR1, itR2, itEnT, itEnL, slot, put, hide, start0, g1, g2, gI, gS, gB, gT, gL, gD, gR, gW, gDs, gDs_map, gBs, gIs, gSs, gO, gRow, asD, fI, fIc, fAdd, fSub, fMul, fMod, fDiv, fPow, fLt, fLe, fGt, fGe, fNeg, fS, fAddS, fLeS, fRepS, fInS, isN, fIsN, fEqD, eqS, fEqS, fIxT, fIxL, fIxS, fSlT, fSlF, fSlL, fSlS, fCatT, fCatF, fCatL, fRepT, fLen, fLenS, fAll, fSum, fMax, fMax2, fTuple, fListF, fListL, fInt, fIsi, tyIs, bName, bPair, bTup2, fAppend, fExtend, yesT, bmL, lcF, lcL, itR3, itZip, augI, fMin2, ckT, fMaxD, joinT, fInQ, fRepr, fInsert, fPopAt, fExtT, tryA, tryB, tryO, clsW, keptX, fIsK, gCs, isKT, kfT, heldX, fIsS, isST, xfT, PySem.W.kitAny, List.map_cons, List.map_nil, List.cons_append, List.nil_append, List.length_cons, List.length_nil, List.replicate, String.reduceEq, if_true, if_false, Bool.false_eq_true, Bool.not_true, Bool.not_false, true_and, and_true, any1, isStr]; exact h2
abbrev sTagKids : Stmt := top 16
theorem scTagKids : FnScope ["thing"] ["thing"] (defScope sTagKids) := ⟨rfl, rfl, rfl, by decide +kernel, rfl, by decide +kernel, by decide +kernel⟩
theorem ok_tagKids {f : Addr} {fd : FuncData} {k j : Nat} (F : Fun K "is_tag_and_kids" "is_tag_and_kids" sTagKids f fd) (Uis_tag : Use P w K mg base "is_tag" ["thing"] j (spD K 1 (tfB isTag))) (hj : j ≤ k) (T : Bl mg) : FnOk P w K mg base CX0 (k + 1) f fd ["thing"] (spD K 1 (tfB tagKids)) := by
  refine okD F scTagKids rfl fun cdv A outer s H E hr => ?_
  refine ⟨_, _, (pss_one (ps_ret (pe_and (pe_callB (r := rIsi K) call_isi (by rfl) T.isi PyProof.Rows.boot_isinstance (pa_cons (pv 0) (pa_cons (b_tuple T) pa_nil))) (pe_and (pe_cmpR op_eq (pe_callB call_len_seq (by rfl) T.len PySem.boot_len (pa_cons (pv 0) pa_nil)) pe_int (nomark _)) (pe_and (pe_call Uis_tag.ok (hr.mono (by omega)) rfl Uis_tag.m Uis_tag.kp Uis_tag.b .nil pass0 (pa_cons (pe_ix ix_tup (pv 0) pe_int (fun _ _ => rfl)) pa_nil)) (pe_one (pe_callB (r := rIsi K) call_isi (by rfl) T.isi PyProof.Rows.boot_isinstance (pa_cons (pe_ix ix_tup (pv 0) pe_int (fun _ _ => rfl)) (pa_cons (b_tuple T) pa_nil))))))))),
    (ss_ret (se_and (se_cb sc_isi (sa_cons se_nm (sa_cons se_o sa_nil))) (se_and (se_op so_eqS (se_cb sc_len (sa_cons se_nm sa_nil)) se_int) (se_and (se_call (sa_cons (se_op so_ixT se_nm se_int) sa_nil)) (se_cb sc_isi (sa_cons (se_op so_ixT se_nm se_int) (sa_cons se_o sa_nil))))))), fun ws M R RX hl h => ?_⟩
  obtain ⟨x, rfl, h1⟩ := g1_of h
  obtain ⟨d, rfl, ht, h2⟩ := gD_of h1
  cases d with
  | tuple ds =>
    simp only [whileS, seqS, setS, retS, retN, dropS, ifS, nextS, unpS, setIx, forS, raiseS, breakS, contS, nmT, cT, opT, unT, tbT, andT, orT, notT, andV, orV, notV, ifT, chT, nilA, consA, tupT, lsfT, lstT, slT, noP, someP, rvF, rvT, cbT, callT, callX, frT, itTup, itLst, itStr, itR1, itR2, itEnT, itEnL, slot, put, hide, start0, g1, g2, gI, gS, gB, gT, gL, gD, gR, gW, gDs, gDs_map, gBs, gIs, gSs, gO, gRow, asD, fI, fIc, fAdd, fSub, fMul, fMod, fDiv, fPow, fLt, fLe, fGt, fGe, fNeg, fS, fAddS, fLeS, fRepS, fInS, isN, fIsN, fEqD, eqS, fEqS, fIxT, fIxL, fIxS, fSlT, fSlF, fSlL, fSlS, fCatT, fCatF, fCatL, fRepT, fLen, fLenS, fAll, fSum, fMax, fMax2, fTuple, fListF, fListL, fInt, fIsi, tyIs, bName, bPair, bTup2, fAppend, fExtend, yesT, bmL, lcF, lcL, itR3, itZip, augI, fMin2, ckT, fMaxD, joinT, fInQ, fRepr, fInsert, fPopAt, fExtT, tryA, tryB, tryO, clsW, keptX, fIsK, gCs, isKT, kfT, heldX, fIsS, isST, xfT, PySem.W.kitAny, List.map_cons, List.map_nil, List.cons_append, List.nil_append, List.length_cons, List.length_nil, List.replicate, String.reduceEq, if_true, if_false, Bool.false_eq_true, Bool.not_true, Bool.not_false, true_and, and_true, any1, isTup, tfB]
    match ds with
    | [] => exact h2
    | [_] => exact h2
    | _ :: _ :: _ :: _ => exact h2
    | [a, b] =>
      have hta : txt a = true := by rw [txt] at ht; exact txtAll_get (i := 0) ht rfl
      rw [tagKids] at h2
      simp only [show atI [a, b] 0 = some a from atI_nat (j := 0) rfl, show atI [a, b] 1 = some b from atI_nat (j := 1) rfl]
      refine ⟨hta, ?_⟩
      cases c : isTag a
      · rw [c] at h2; exact h2
      · rw [c] at h2; exact h2
  | _ => simp only [whileS, seqS, setS, retS, retN, dropS, ifS, nextS, unpS, setIx, forS, raiseS, breakS, contS, nmT, cT, opT, unT, tbT, andT, orT, notT, andV, orV, notV, ifT, chT, nilA, consA, tupT, lsfT, lstT, slT, noP, someP, rvF, rvT, cbT, callT, callX, frT, itTup, itLst, itStr, itR1, itR2, itEnT, itEnL, slot, put, hide, start0, g1, g2, gI, gS, gB, gT, gL, gD, gR, gW, gDs, gDs_map, gBs, gIs, gSs, gO, gRow, asD, fI, fIc, fAdd, fSub, fMul, fMod, fDiv, fPow, fLt, fLe, fGt, fGe, fNeg, fS, fAddS, fLeS, fRepS, fInS, isN, fIsN, fEqD, eqS, fEqS, fIxT, fIxL, fIxS, fSlT, fSlF, fSlL, fSlS, fCatT, fCatF, fCatL, fRepT, fLen, fLenS, fAll, fSum, fMax, fMax2, fTuple, fListF, fListL, fInt, fIsi, tyIs, bName, bPair, bTup2, fAppend, fExtend, yesT, bmL, lcF, lcL, itR3, itZip, augI, fMin2, ckT, fMaxD, joinT, fInQ, fRepr, fInsert, fPopAt, fExtT, tryA, tryB, tryO, clsW, keptX, fIsK, gCs, isKT, kfT, heldX, fIsS, isST, xfT, PySem.W.kitAny, List.map_cons, List.map_nil, List.cons_append, List.nil_append, List.length_cons, List.length_nil, List.replicate, String.reduceEq, if_true, if_false, Bool.false_eq_true, Bool.not_true, Bool.not_false, true_and, and_true, any1, isTup]; exact h2
abbrev sRoom : Stmt := top 15
theorem scRoom : FnScope ["thing", "levels", "room", "left", "kid"] ["thing", "levels", "room"] (defScope sRoom) := ⟨rfl, rfl, rfl, by decide +kernel, rfl, by decide +kernel, by decide +kernel⟩
theorem ok_room1 {f : Addr} {fd : FuncData} {n j : Nat} (F : Fun K "room_behind" "room_behind" sRoom f fd) (Uroom_behind : Use P w K mg base "room_behind" ["thing", "levels", "room"] (2 + n) (spD K 3 (tfRoom n))) (Uis_tag_and_kids : Use P w K mg base "is_tag_and_kids" ["thing"] j (spD K 1 (tfB tagKids))) (hj : j ≤ 2) (T : Bl mg) :
    FnOk P w K mg base CX0 (2 + n + 1) f fd ["thing", "levels", "room"] (spD K 3 (tfRoom (n + 1))) := by
  refine okD F scRoom rfl fun cdv A outer s H E hr => ?_
  refine ⟨_, _, (pss_cons (ps_if (PW.pt (pw_or (pt_cmpR op_eq (pv 1) pe_int (nomark _)) (pw_or (pt_cmpR op_eq (pv 2) pe_int (nomark _)) (pw_or1 (pt_not (pt_val (pe_call Uis_tag_and_kids.ok (hr.mono (by omega)) rfl Uis_tag_and_kids.m Uis_tag_and_kids.kp Uis_tag_and_kids.b .nil pass0 (pa_cons (pv 0) pa_nil)))))))) (pss_one (ps_ret pe_non)) pss_nil)
    (pss_cons (ps_set (i := 3) scRoom.nd rfl (.inl rfl) (pe_op op_sub (pv 2) pe_int))
    (pss_cons (ps_for PassesOwn.never rfl (pi_tup (pe_ix ix_tup (pv 0) pe_int (fun _ _ => rfl))) (pg_name (i := 4) scRoom.nd rfl (.inl rfl)) (pss_cons (ps_set (i := 3) scRoom.nd rfl (.inl rfl) (pe_call Uroom_behind.ok (hr.mono (by omega)) rfl Uroom_behind.m Uroom_behind.kp Uroom_behind.b .nil pass0 (pa_cons (pv 4) (pa_cons (pe_op op_sub (pv 1) pe_int) (pa_cons (pv 3) pa_nil)))))
      (pss_one (ps_if (pt_cmpR op_isN (pv 3) pe_non (nomark _)) (pss_one (ps_ret pe_non)) pss_nil))))
    (pss_one (ps_ret (pv 3)))))),
    (ss_cons (ss_if (st_or (st_test (se_op so_eqS se_nm se_int)) (st_or (st_test (se_op so_eqS se_nm se_int)) (st_not (st_val (se_call (sa_cons se_nm sa_nil)))))) (ss_ret se_non) ss_nil)
    (ss_cons (ss_set (se_op so_sub se_nm se_int))
    (ss_cons (ss_for (si_tup (se_op so_ixT se_nm se_int)) sg_name (ss_cons (ss_set (se_call (sa_cons se_nm (sa_cons (se_op so_sub se_nm se_int) (sa_cons se_nm sa_nil)))))
      (ss_if (st_test (se_op so_isN se_nm se_non)) (ss_ret se_non) ss_nil)))
    (ss_ret se_nm)))), fun ws M R RX hl h => ?_⟩
  obtain ⟨d, l, r, rfl, ht, hln, h2⟩ := h
  simp only [whileS, seqS, setS, retS, retN, dropS, ifS, nextS, unpS, setIx, forS, raiseS, breakS, contS, nmT, cT, opT, unT, tbT, andT, orT, notT, andV, orV, notV, ifT, chT, nilA, consA, tupT, lsfT, lstT, slT, noP, someP, rvF, rvT, cbT, callT, callX, frT, itTup, itLst, itStr, itR1, itR2, itEnT, itEnL, slot, put, hide, start0, g1, g2, gI, gS, gB, gT, gL, gD, gR, gW, gDs, gDs_map, gBs, gIs, gSs, gO, gRow, asD, fI, fIc, fAdd, fSub, fMul, fMod, fDiv, fPow, fLt, fLe, fGt, fGe, fNeg, fS, fAddS, fLeS, fRepS, fInS, isN, fIsN, fEqD, eqS, fEqS, fIxT, fIxL, fIxS, fSlT, fSlF, fSlL, fSlS, fCatT, fCatF, fCatL, fRepT, fLen, fLenS, fAll, fSum, fMax, fMax2, fTuple, fListF, fListL, fInt, fIsi, tyIs, bName, bPair, bTup2, fAppend, fExtend, yesT, bmL, lcF, lcL, itR3, itZip, augI, fMin2, ckT, fMaxD, joinT, fInQ, fRepr, fInsert, fPopAt, fExtT, tryA, tryB, tryO, clsW, keptX, fIsK, gCs, isKT, kfT, heldX, fIsS, isST, xfT, PySem.W.kitAny, List.map_cons, List.map_nil, List.cons_append, List.nil_append, List.length_cons, List.length_nil, List.replicate, String.reduceEq, if_true, if_false, Bool.false_eq_true, Bool.not_true, Bool.not_false, true_and, and_true, any1, tfB]
  refine iteD (fun c => ?_) (fun c => ?_)
  · have e : l = 0 := by omega
    subst e
    exact h2
  obtain ⟨l, rfl⟩ : ∃ l', l = l' + 1 := ⟨l - 1, by omega⟩
  refine iteD (fun c2 => ?_) (fun c2 => ?_)
  · have e : r = 0 := by omega
    subst e
    exact h2
  obtain ⟨r, rfl⟩ : ∃ r', r = r' + 1 := ⟨r - 1, by omega⟩
  refine ⟨ht, ?_⟩
  rw [roomB] at h2
  cases c3 : tagKids d with
  | false =>
    rw [c3] at h2
    exact h2
  | true =>
    rw [c3, if_pos rfl] at h2
    obtain ⟨a0, ks, rfl⟩ : ∃ a0 ks, d = .tuple [a0, .tuple ks] := by
      unfold tagKids at c3
      split at c3
      · rename_i a b
        cases b with
        | tuple ks => exact ⟨a, ks, rfl⟩
        | _ => simp [isTup] at c3
      · cases c3
    have ht2 : txtAll ks = true := by
      rw [txt, txtAll, txtAll, txt] at ht
      simp only [Bool.and_eq_true] at ht
      exact ht.2.1
    rw [kidsD] at h2
    simp only [whileS, seqS, setS, retS, retN, dropS, ifS, nextS, unpS, setIx, forS, raiseS, breakS, contS, nmT, cT, opT, unT, tbT, andT, orT, notT, andV, orV, notV, ifT, chT, nilA, consA, tupT, lsfT, lstT, slT, noP, someP, rvF, rvT, cbT, callT, callX, frT, itTup, itLst, itStr, itR1, itR2, itEnT, itEnL, slot, put, hide, start0, g1, g2, gI, gS, gB, gT, gL, gD, gR, gW, gDs, gDs_map, gBs, gIs, gSs, gO, gRow, asD, fI, fIc, fAdd, fSub, fMul, fMod, fDiv, fPow, fLt, fLe, fGt, fGe, fNeg, fS, fAddS, fLeS, fRepS, fInS, isN, fIsN, fEqD, eqS, fEqS, fIxT, fIxL, fIxS, fSlT, fSlF, fSlL, fSlS, fCatT, fCatF, fCatL, fRepT, fLen, fLenS, fAll, fSum, fMax, fMax2, fTuple, fListF, fListL, fInt, fIsi, tyIs, bName, bPair, bTup2, fAppend, fExtend, yesT, bmL, lcF, lcL, itR3, itZip, augI, fMin2, ckT, fMaxD, joinT, fInQ, fRepr, fInsert, fPopAt, fExtT, tryA, tryB, tryO, clsW, keptX, fIsK, gCs, isKT, kfT, heldX, fIsS, isST, xfT, PySem.W.kitAny, List.map_cons, List.map_nil, List.cons_append, List.nil_append, List.length_cons, List.length_nil, List.replicate, String.reduceEq, if_true, if_false, Bool.false_eq_true, Bool.not_true, Bool.not_false, true_and, and_true, any1, show atI [a0, PyData.tuple ks] 1 = some (.tuple ks) from atI_nat (j := 1) rfl]
    refine for1 (fun i ρ M' => ∃ (m : Nat) (y : Option W), ρ = [some (.d (.tuple [a0, .tuple ks])), some (.d (.int ((l + 1 : Nat) : Int))), some (.d (.int ((r + 1 : Nat) : Int))), some (.d (.int (m : Int))), y] ∧ M' = M ∧ (ks.take i).foldl (fun o kd => o.bind (roomB l kd)) (some r) = some m)
      ⟨r, none, by rw [show (((r + 1 : Nat) : Int) - 1) = (r : Int) by omega], rfl, rfl⟩ (fun _ _ _ _ _ => trivial) (fun i kd ρ M' N hk p hN => ?_) (fun ρ M' p => ?_)
    · obtain ⟨m, y, rfl, rfl, hm⟩ := p
      have hf : (ks.take (i + 1)).foldl (fun o kd => o.bind (roomB l kd)) (some r) = roomB l kd m := by
        rw [List.take_add_one, hk, List.foldl_append, hm]
        rfl
      simp only [whileS, seqS, setS, retS, retN, dropS, ifS, nextS, unpS, setIx, forS, raiseS, breakS, contS, nmT, cT, opT, unT, tbT, andT, orT, notT, andV, orV, notV, ifT, chT, nilA, consA, tupT, lsfT, lstT, slT, noP, someP, rvF, rvT, cbT, callT, callX, frT, itTup, itLst, itStr, itR1, itR2, itEnT, itEnL, slot, put, hide, start0, g1, g2, gI, gS, gB, gT, gL, gD, gR, gW, gDs, gDs_map, gBs, gIs, gSs, gO, gRow, asD, fI, fIc, fAdd, fSub, fMul, fMod, fDiv, fPow, fLt, fLe, fGt, fGe, fNeg, fS, fAddS, fLeS, fRepS, fInS, isN, fIsN, fEqD, eqS, fEqS, fIxT, fIxL, fIxS, fSlT, fSlF, fSlL, fSlS, fCatT, fCatF, fCatL, fRepT, fLen, fLenS, fAll, fSum, fMax, fMax2, fTuple, fListF, fListL, fInt, fIsi, tyIs, bName, bPair, bTup2, fAppend, fExtend, yesT, bmL, lcF, lcL, itR3, itZip, augI, fMin2, ckT, fMaxD, joinT, fInQ, fRepr, fInsert, fPopAt, fExtT, tryA, tryB, tryO, clsW, keptX, fIsK, gCs, isKT, kfT, heldX, fIsS, isST, xfT, PySem.W.kitAny, List.map_cons, List.map_nil, List.cons_append, List.nil_append, List.length_cons, List.length_nil, List.replicate, String.reduceEq, if_true, if_false, Bool.false_eq_true, Bool.not_true, Bool.not_false, true_and, and_true, any1, tfRoom]
      refine ⟨kd, l, m, by rw [show (((l + 1 : Nat) : Int) - 1) = (l : Int) by omega], txtAll_get ht2 hk, by omega, ?_⟩
      cases hr2 : roomB l kd m with
      | none =>
        rw [hr2] at hf
        have e : ks.foldl (fun o kd => o.bind (roomB l kd)) (some r) = none := by
          rw [← List.take_append_drop (i + 1) ks, List.foldl_append, hf]
          exact fold_none _ _
        rw [e] at h2
        exact h2
      | some m' =>
        simp only [whileS, seqS, setS, retS, retN, dropS, ifS, nextS, unpS, setIx, forS, raiseS, breakS, contS, nmT, cT, opT, unT, tbT, andT, orT, notT, andV, orV, notV, ifT, chT, nilA, consA, tupT, lsfT, lstT, slT, noP, someP, rvF, rvT, cbT, callT, callX, frT, itTup, itLst, itStr, itR1, itR2, itEnT, itEnL, slot, put, hide, start0, g1, g2, gI, gS, gB, gT, gL, gD, gR, gW, gDs, gDs_map, gBs, gIs, gSs, gO, gRow, asD, fI, fIc, fAdd, fSub, fMul, fMod, fDiv, fPow, fLt, fLe, fGt, fGe, fNeg, fS, fAddS, fLeS, fRepS, fInS, isN, fIsN, fEqD, eqS, fEqS, fIxT, fIxL, fIxS, fSlT, fSlF, fSlL, fSlS, fCatT, fCatF, fCatL, fRepT, fLen, fLenS, fAll, fSum, fMax, fMax2, fTuple, fListF, fListL, fInt, fIsi, tyIs, bName, bPair, bTup2, fAppend, fExtend, yesT, bmL, lcF, lcL, itR3, itZip, augI, fMin2, ckT, fMaxD, joinT, fInQ, fRepr, fInsert, fPopAt, fExtT, tryA, tryB, tryO, clsW, keptX, fIsK, gCs, isKT, kfT, heldX, fIsS, isST, xfT, PySem.W.kitAny, List.map_cons, List.map_nil, List.cons_append, List.nil_append, List.length_cons, List.length_nil, List.replicate, String.reduceEq, if_true, if_false, Bool.false_eq_true, Bool.not_true, Bool.not_false, true_and, and_true, any1, optD]
        exact hN _ _ ⟨m', _, rfl, rfl, by rw [hf]; exact hr2⟩
    · obtain ⟨m, y, rfl, rfl, hm⟩ := p
      rw [List.take_length] at hm
      rw [hm] at h2
      exact h2
theorem ok_room {f : Addr} {fd : FuncData} {j : Nat} (F : Fun K "room_behind" "room_behind" sRoom f fd) (mF : mg "room_behind" = some (.ref f)) (Uis_tag_and_kids : Use P w K mg base "is_tag_and_kids" ["thing"] j (spD K 1 (tfB tagKids))) (hj : j ≤ 2) (T : Bl mg) :
    ∀ n, FnOk P w K mg base CX0 (2 + n) f fd ["thing", "levels", "room"] (spD K 3 (tfRoom n))
  | 0 => no0 fun ws M R RX ⟨_, _, _, _, _, h, _⟩ => by omega
  | n + 1 => ok_room1 F ⟨f, fd, ok_room F mF Uis_tag_and_kids hj T n, mF, F.kp, F.binds (ps := ["thing", "levels", "room"]) fun _ _ _ _ _ _ us hl => match us, hl with | [_, _, _], _ => rfl⟩ Uis_tag_and_kids hj T
abbrev sIsTree : Stmt := top 14
theorem scTree : FnScope ["thing"] ["thing"] (defScope sIsTree) := ⟨rfl, rfl, rfl, by decide +kernel, rfl, by decide +kernel, by decide +kernel⟩
theorem ok_tree {f : Addr} {fd : FuncData} {k j : Nat} (F : Fun K "is_tree" "is_tree" sIsTree f fd) (Uroom_behind : Use P w K mg base "room_behind" ["thing", "levels", "room"] j (spD K 3 (tfRoom 13))) (hj : j ≤ k) (C : Cs mg) : FnOk P w K mg base CX0 (k + 1) f fd ["thing"] (spD K 1 (tfB isTreeD)) := by
  refine okD F scTree rfl fun cdv A outer s H E hr => ?_
  refine ⟨_, _, (pss_one (ps_ret (pe_cmpR op_notN (pe_call Uroom_behind.ok (hr.mono (by omega)) rfl Uroom_behind.m Uroom_behind.kp Uroom_behind.b .nil pass0 (pa_cons (pv 0) (pa_cons (c_DEPTH C) (pa_cons (c_SIZE C) pa_nil)))) pe_non (nomark _)))),
    (ss_ret (se_op so_notN (se_call (sa_cons se_nm (sa_cons se_int (sa_cons se_int sa_nil)))) se_non)), fun ws M R RX hl h => ?_⟩
  obtain ⟨x, rfl, h1⟩ := g1_of h
  obtain ⟨d, rfl, ht, h2⟩ := gD_of h1
  simp only [whileS, seqS, setS, retS, retN, dropS, ifS, nextS, unpS, setIx, forS, raiseS, breakS, contS, nmT, cT, opT, unT, tbT, andT, orT, notT, andV, orV, notV, ifT, chT, nilA, consA, tupT, lsfT, lstT, slT, noP, someP, rvF, rvT, cbT, callT, callX, frT, itTup, itLst, itStr, itR1, itR2, itEnT, itEnL, slot, put, hide, start0, g1, g2, gI, gS, gB, gT, gL, gD, gR, gW, gDs, gDs_map, gBs, gIs, gSs, gO, gRow, asD, fI, fIc, fAdd, fSub, fMul, fMod, fDiv, fPow, fLt, fLe, fGt, fGe, fNeg, fS, fAddS, fLeS, fRepS, fInS, isN, fIsN, fEqD, eqS, fEqS, fIxT, fIxL, fIxS, fSlT, fSlF, fSlL, fSlS, fCatT, fCatF, fCatL, fRepT, fLen, fLenS, fAll, fSum, fMax, fMax2, fTuple, fListF, fListL, fInt, fIsi, tyIs, bName, bPair, bTup2, fAppend, fExtend, yesT, bmL, lcF, lcL, itR3, itZip, augI, fMin2, ckT, fMaxD, joinT, fInQ, fRepr, fInsert, fPopAt, fExtT, tryA, tryB, tryO, clsW, keptX, fIsK, gCs, isKT, kfT, heldX, fIsS, isST, xfT, PySem.W.kitAny, List.map_cons, List.map_nil, List.cons_append, List.nil_append, List.length_cons, List.length_nil, List.replicate, String.reduceEq, if_true, if_false, Bool.false_eq_true, Bool.not_true, Bool.not_false, true_and, and_true, any1, tfRoom]
  refine ⟨d, 12, 60, rfl, ht, by omega, ?_⟩
  unfold isTreeD at h2
  cases hr : roomB 12 d 60 <;> rw [hr] at h2 <;> exact h2
abbrev sChkTree : Stmt := top 17
theorem scChkTree : FnScope ["thing"] ["thing"] (defScope sChkTree) := ⟨rfl, rfl, rfl, by decide +kernel, rfl, by decide +kernel, by decide +kernel⟩
theorem ok_chkTree {f C : Addr} {fd : FuncData} {k j : Nat} (F : Fun K "check_tree" "check_tree" sChkTree f fd) (XNoTree : Er K mg "NoTree" C) (Uis_tree : Use P w K mg base "is_tree" ["thing"] j (spD K 1 (tfB isTreeD))) (hj : j ≤ k) :
    FnOk P w K mg base (L2.CX P w) (k + 1) f fd ["thing"] (spD K 1 (tfChk isTreeD C)) := by
  refine okDX F scChkTree rfl fun cdv A outer s H E hr => ?_
  refine ⟨_, fun RE => _, (pss_one (ps_if (pt_not (pt_val (PE.nox (pe_call Uis_tree.ok (hr.mono (by omega)) rfl Uis_tree.m Uis_tree.kp Uis_tree.b .nil pass0 (pa_cons (pv 0) pa_nil))))) (pss_one (ps_raise rfl (takes_of (E := E) rfl rfl rfl rfl) (pmk_own0 PySem.F.excBase_ValueError XNoTree.x XNoTree.g XNoTree.k (raises_own XNoTree.b XNoTree.t) (by exact rfl)))) pss_nil)), fun RE => (ss_if (st_not (st_val (se_call (sa_cons se_nm sa_nil)))) ss_raise0 ss_nil), fun ws M R RX hl h => ?_⟩
  obtain ⟨x, rfl, h1⟩ := g1_of h
  obtain ⟨d, rfl, ht, h2, h3⟩ := gD_of h1
  simp only [whileS, seqS, setS, retS, retN, dropS, ifS, nextS, unpS, setIx, forS, raiseS, breakS, contS, nmT, cT, opT, unT, tbT, andT, orT, notT, andV, orV, notV, ifT, chT, nilA, consA, tupT, lsfT, lstT, slT, noP, someP, rvF, rvT, cbT, callT, callX, frT, itTup, itLst, itStr, itR1, itR2, itEnT, itEnL, slot, put, hide, start0, g1, g2, gI, gS, gB, gT, gL, gD, gR, gW, gDs, gDs_map, gBs, gIs, gSs, gO, gRow, asD, fI, fIc, fAdd, fSub, fMul, fMod, fDiv, fPow, fLt, fLe, fGt, fGe, fNeg, fS, fAddS, fLeS, fRepS, fInS, isN, fIsN, fEqD, eqS, fEqS, fIxT, fIxL, fIxS, fSlT, fSlF, fSlL, fSlS, fCatT, fCatF, fCatL, fRepT, fLen, fLenS, fAll, fSum, fMax, fMax2, fTuple, fListF, fListL, fInt, fIsi, tyIs, bName, bPair, bTup2, fAppend, fExtend, yesT, bmL, lcF, lcL, itR3, itZip, augI, fMin2, ckT, fMaxD, joinT, fInQ, fRepr, fInsert, fPopAt, fExtT, tryA, tryB, tryO, clsW, keptX, fIsK, gCs, isKT, kfT, heldX, fIsS, isST, xfT, PySem.W.kitAny, List.map_cons, List.map_nil, List.cons_append, List.nil_append, List.length_cons, List.length_nil, List.replicate, String.reduceEq, if_true, if_false, Bool.false_eq_true, Bool.not_true, Bool.not_false, true_and, and_true, any1, tfB]
  refine ⟨ht, ?_⟩
  cases c : isTreeD d
  · exact h3 c
  · exact h2 c
end
end Tl

set_option Elab.async false
set_option linter.all false
set_option maxRecDepth 100000
set_option maxHeartbeats 4000000
/-! Flat rows of trees: the row, where parts end, where kids begin, and back. -/
namespace Tl
open PySem L2
abbrev Pr := Int × PyData
def prD (p : Pr) : PyData := .tuple [.int p.1, p.2]
mutual
/-- the flat row of a part whose top stands at level l -/
def rowP : PyData → Int → List Pr
  | .tuple [t, .tuple ks], l => (l, t) :: rowsP ks (l + 1)
  | _, _ => []
def rowsP : List PyData → Int → List Pr
  | [], _ => []
  | k :: ks, l => rowP k l ++ rowsP ks l
end
theorem rowP_node (t : PyData) (ks : List PyData) (l : Int) : rowP (.tuple [t, .tuple ks]) l = (l, t) :: rowsP ks (l + 1) := by rw [rowP]
theorem rowsP_app : ∀ (a b : List PyData) (l : Int), rowsP (a ++ b) l = rowsP a l ++ rowsP b l
  | [], b, l => by rw [List.nil_append, rowsP, List.nil_append]
  | k :: a, b, l => by rw [List.cons_append, rowsP, rowsP, rowsP_app a b, List.append_assoc]
mutual
theorem rowP_len : ∀ {n : Nat} {d : PyData} (l : Int), TrT n d → (rowP d l).length = nn d
  | 0, _, _, t => t.elim
  | n + 1, _, l, ⟨s, ks, rfl, _, h⟩ => by
    rw [rowP_node, List.length_cons, rowsP_len (l + 1) h, nn]
    omega
theorem rowsP_len : ∀ {n : Nat} {ks : List PyData} (l : Int), (∀ k ∈ ks, TrT n k) → (rowsP ks l).length = nnAll ks
  | n, [], l, _ => by rw [rowsP, nnAll]; rfl
  | n, k :: ks, l, h => by rw [rowsP, List.length_append, rowP_len l (h k (.head _)), rowsP_len l (fun x hx => h x (.tail _ hx)), nnAll]
end
mutual
theorem rowP_ge : ∀ {n : Nat} {d : PyData} {l : Int}, TrT n d → ∀ p ∈ rowP d l, l ≤ p.1
  | 0, _, _, t => t.elim
  | n + 1, _, l, ⟨s, ks, rfl, _, h⟩ => fun p hp => by
    rw [rowP_node] at hp
    rcases List.mem_cons.mp hp with rfl | hp
    · exact Int.le_refl _
    · have := rowsP_ge h p hp
      omega
theorem rowsP_ge : ∀ {n : Nat} {ks : List PyData} {l : Int}, (∀ k ∈ ks, TrT n k) → ∀ p ∈ rowsP ks l, l ≤ p.1
  | n, [], l, _ => fun p hp => by rw [rowsP] at hp; exact absurd hp List.not_mem_nil
  | n, k :: ks, l, h => fun p hp => by
    rw [rowsP] at hp
    rcases List.mem_append.mp hp with hp | hp
    · exact rowP_ge (h k (.head _)) p hp
    · exact rowsP_ge (fun x hx => h x (.tail _ hx)) p hp
end
/-- the number behind the part that begins at i -/
def behind (r : List Pr) (i : Nat) (l : Int) : Nat := i + 1 + ((r.drop (i + 1)).takeWhile fun p => decide (l < p.1)).length
/-- what stands behind a part at level l goes on no deeper -/
def Ends0 (post : List Pr) (l : Int) : Prop := ∀ p r, post = p :: r → p.1 ≤ l
theorem takeWhile_app {α : Type} (f : α → Bool) : ∀ (a b : List α), (∀ x ∈ a, f x = true) → (∀ x r, b = x :: r → f x = false) → (a ++ b).takeWhile f = a
  | [], [], _, _ => rfl
  | [], x :: r, _, h => by rw [List.nil_append, List.takeWhile_cons, h x r rfl]; rfl
  | y :: a, b, h1, h2 => by
    rw [List.cons_append, List.takeWhile_cons, h1 y (.head _), if_pos rfl, takeWhile_app f a b (fun x hx => h1 x (.tail _ hx)) h2]
theorem behind_row {n : Nat} {d : PyData} {l : Int} (t : TrT n d) (pre post : List Pr) (he : Ends0 post l) : behind (pre ++ rowP d l ++ post) pre.length l = pre.length + nn d := by
  obtain ⟨s, ks, rfl, _, h⟩ := t.node
  unfold behind
  rw [rowP_node, List.append_assoc, List.cons_append, List.drop_append, List.drop_eq_nil_of_le (by omega), List.nil_append, show pre.length + 1 - pre.length = 1 by omega, List.drop_succ_cons, List.drop_zero,
    takeWhile_app _ _ _ (fun p hp => decide_eq_true (by have := rowsP_ge h p hp; omega)) (fun p r e => decide_eq_false (by have := he p r e; omega)), rowsP_len _ h, nn]
  omega
/-- where the kids begin -/
def kidPos : List PyData → Nat → List Nat
  | [], _ => []
  | k :: ks, s => s :: kidPos ks (s + nn k)
theorem kidPos_app : ∀ (a : List PyData) (k : PyData) (s : Nat), kidPos (a ++ [k]) s = kidPos a s ++ [s + nnAll a]
  | [], k, s => by rw [List.nil_append, kidPos, kidPos, kidPos, nnAll]; rfl
  | b :: a, k, s => by
    rw [List.cons_append, kidPos, kidPos, kidPos_app a k, nnAll, List.cons_append, Nat.add_assoc]
theorem kidPos_len : ∀ (ks : List PyData) (s : Nat), (kidPos ks s).length = ks.length
  | [], _ => rfl
  | k :: ks, s => by rw [kidPos, List.length_cons, kidPos_len ks, List.length_cons]
theorem kidPos_get : ∀ {ks : List PyData} {s j : Nat} {p : Nat}, (kidPos ks s)[j]? = some p → p = s + nnAll (ks.take j)
  | [], _, _, _, h => by simp [kidPos] at h
  | k :: ks, s, 0, p, h => by
    rw [kidPos] at h
    simp at h
    rw [← h, List.take_zero, nnAll]
    rfl
  | k :: ks, s, j + 1, p, h => by
    rw [kidPos] at h
    have := kidPos_get (ks := ks) (s := s + nn k) (j := j) (by simpa using h)
    rw [this, List.take_succ_cons, nnAll]
    omega
/-- the numbers from s on of those that stand at level l -/
def atLev (l : Int) : List Pr → Nat → List Nat
  | [], _ => []
  | p :: r, s => if p.1 = l then s :: atLev l r (s + 1) else atLev l r (s + 1)
theorem atLev_app (l : Int) : ∀ (a b : List Pr) (s : Nat), atLev l (a ++ b) s = atLev l a s ++ atLev l b (s + a.length)
  | [], b, s => rfl
  | p :: a, b, s => by
    rw [List.cons_append, atLev, atLev, atLev_app l a b, List.length_cons, show s + 1 + a.length = s + (a.length + 1) by omega]
    split <;> rfl
theorem atLev_none {l : Int} : ∀ {a : List Pr} {s : Nat}, (∀ p ∈ a, l < p.1) → atLev l a s = []
  | [], _, _ => rfl
  | p :: a, s, h => by
    rw [atLev, if_neg (by have := h p (.head _); omega)]
    exact atLev_none fun x hx => h x (.tail _ hx)
theorem atLev_rows {n : Nat} {l : Int} : ∀ {ks : List PyData} {s : Nat}, (∀ k ∈ ks, TrT n k) → atLev l (rowsP ks l) s = kidPos ks s
  | [], _, _ => by rw [rowsP]; rfl
  | k :: ks, s, h => by
    have hk := h k (.head _)
    rw [rowsP, atLev_app, rowP_len l hk, atLev_rows (s := s + nn k) fun x hx => h x (.tail _ hx), kidPos]
    obtain ⟨s', ks', rfl, _, h'⟩ := hk.node
    rw [rowP_node, atLev, if_pos rfl, atLev_none fun p hp => by have := rowsP_ge h' p hp; omega]
    rfl
/-- the filter that the program runs -/
theorem filter_atLev (r : List Pr) (l : Int) : ∀ (m s : Nat) (seg : List Pr), seg.length = m → (∀ j p, seg[j]? = some p → r[s + j]? = some p) → ((List.range m).filter fun i => match r[s + i]? with | some p => decide (p.1 = l) | none => false).map (s + ·) = atLev l seg s
  | 0, s, seg, hl, _ => by
    rw [List.eq_nil_of_length_eq_zero hl]
    rfl
  | m + 1, s, [], hl, _ => by simp at hl
  | m + 1, s, p :: seg, hl, h => by
    have ih := filter_atLev r l m (s + 1) seg (by simpa using hl) fun j q hq => by
      have := h (j + 1) q (by simpa using hq)
      rw [← this]
      congr 1
      omega
    rw [List.range_succ_eq_map, atLev, List.filter_cons]
    have h0 := h 0 p rfl
    rw [Nat.add_zero] at h0 ⊢
    rw [h0]
    have e2 : ((List.map Nat.succ (List.range m)).filter fun i => match r[s + i]? with | some p => decide (p.1 = l) | none => false).map (s + ·) = atLev l seg (s + 1) := by
      rw [← ih, List.filter_map, List.map_map]
      congr 1
      · funext i
        show s + (i + 1) = s + 1 + i
        omega
      · congr 1
        funext i
        show (match r[s + (i + 1)]? with | some p => decide (p.1 = l) | none => false) = _
        rw [show s + (i + 1) = s + 1 + i by omega]
    dsimp only
    by_cases c : p.1 = l
    · rw [if_pos c, if_pos (decide_eq_true c), List.map_cons, e2]
      rfl
    · rw [if_neg c, if_neg (by rw [decide_eq_false c]; exact Bool.false_ne_true), e2]
theorem tw_mem {α : Type} {f : α → Bool} : ∀ {L : List α} {x : α}, x ∈ L.takeWhile f → f x = true
  | [], _, h => by cases h
  | a :: L, x, h => by
    rw [List.takeWhile_cons] at h
    cases c : f a with
    | true =>
      rw [c, if_pos rfl] at h
      rcases List.mem_cons.mp h with rfl | h
      · exact c
      · exact tw_mem h
    | false =>
      rw [c, if_neg Bool.false_ne_true] at h
      cases h
theorem dw_head {α : Type} {f : α → Bool} : ∀ {L : List α} {x : α} {r : List α}, L.dropWhile f = x :: r → f x = false
  | [], _, _, h => by cases h
  | a :: L, x, r, h => by
    rw [List.dropWhile_cons] at h
    cases c : f a with
    | true =>
      rw [c, if_pos rfl] at h
      exact dw_head h
    | false =>
      rw [c, if_neg Bool.false_ne_true] at h
      cases h
      exact c
/-! ### every flat row is a tree's -/
/-- each level at most one more than the one ahead of it; hi: the most that the first may be -/
def stepOk : Int → List Pr → Prop
  | _, [] => True
  | hi, p :: r => p.1 ≤ hi ∧ stepOk (p.1 + 1) r
theorem stepOk_app : ∀ {a b : List Pr} {hi : Int}, stepOk hi (a ++ b) → stepOk hi a
  | [], _, _, _ => trivial
  | p :: a, b, hi, h => ⟨h.1, stepOk_app h.2⟩
theorem stepOk_drop : ∀ {a b : List Pr} {hi : Int}, stepOk hi (a ++ b) → ∃ hi', stepOk hi' b
  | [], _, hi, h => ⟨hi, h⟩
  | p :: a, b, hi, h => stepOk_drop h.2
def tagOkP (p : Pr) : Prop := isTag p.2 = true
theorem forest : ∀ (m : Nat) (L : List Pr) (l : Nat) (hi : Int), L.length ≤ m → l ≤ 12 → stepOk hi L → (∀ p ∈ L, (l : Int) ≤ p.1 ∧ p.1 ≤ 11 ∧ tagOkP p) → (∀ p r, L = p :: r → p.1 = l) → ∃ ks, (∀ k ∈ ks, TrT (12 - l) k) ∧ rowsP ks l = L
  | _, [], l, hi, _, _, _, _, _ => ⟨[], fun k hk => absurd hk List.not_mem_nil, by rw [rowsP]⟩
  | 0, p :: L, l, hi, hm, _, _, _, _ => by simp at hm
  | m + 1, p :: L, l, hi, hm, hl, hs, ha, h0 => by
    have hp := h0 p L rfl
    obtain ⟨p1, t⟩ := p
    have e1 : p1 = l := hp
    subst e1
    have hpa := ha (↑l, t) (.head _)
    have hm' : L.length ≤ m := by simpa using hm
    -- the part beneath, then what stands beside
    have split : L = L.takeWhile (fun q => decide ((l : Int) < q.1)) ++ L.dropWhile (fun q => decide ((l : Int) < q.1)) := (List.takeWhile_append_dropWhile).symm
    generalize hA : L.takeWhile (fun q => decide ((l : Int) < q.1)) = A at split
    generalize hB : L.dropWhile (fun q => decide ((l : Int) < q.1)) = B at split
    have lenA : A.length ≤ m := by have := congrArg List.length split; rw [List.length_append] at this; omega
    have lenB : B.length ≤ m := by have := congrArg List.length split; rw [List.length_append] at this; omega
    have mA : ∀ q ∈ A, (l : Int) < q.1 := fun q hq => by
      rw [← hA] at hq
      have := tw_mem hq
      exact of_decide_eq_true this
    have sub : ∀ q, q ∈ A ∨ q ∈ B → q ∈ L := fun q hq => by rw [split]; exact List.mem_append.mpr hq
    have hsL : stepOk ((l : Int) + 1) L := hs.2
    have sA : stepOk ((l : Int) + 1) A := by rw [split] at hsL; exact stepOk_app hsL
    obtain ⟨hiB, sB⟩ : ∃ hi', stepOk hi' B := by rw [split] at hsL; exact stepOk_drop hsL
    have l11 : (l : Int) ≤ 11 := hpa.2.1
    obtain ⟨ks1, k1, k2⟩ := forest m A (l + 1) _ lenA (by omega) sA (fun q hq => ⟨by have := mA q hq; omega, (ha q (.tail _ (sub q (.inl hq)))).2⟩) (fun q r e => by
      have h1 := mA q (by rw [e]; exact .head _)
      rw [e] at sA
      have h2 := sA.1
      omega)
    obtain ⟨ks2, k3, k4⟩ := forest m B l hiB lenB hl sB (fun q hq => ha q (.tail _ (sub q (.inr hq)))) (fun q r e => by
      have h1 := (ha q (.tail _ (sub q (.inr (by rw [e]; exact .head _))))).1
      have h2 : ¬ ((l : Int) < q.1) := fun z => by
        rw [e] at hB
        have := dw_head hB
        rw [decide_eq_true z] at this
        cases this
      omega)
    have ht : ∃ s, t = .str s ∧ isTag (.str s) = true := by
      have := hpa.2.2
      unfold tagOkP at this
      cases t with
      | str s => exact ⟨s, rfl, this⟩
      | _ => simp [isTag] at this
    obtain ⟨s, rfl, hs'⟩ := ht
    refine ⟨.tuple [.str s, .tuple ks1] :: ks2, fun k hk => ?_, ?_⟩
    · rcases List.mem_cons.mp hk with rfl | hk
      · obtain ⟨h, hh⟩ : ∃ h, 12 - l = h + 1 := ⟨11 - l, by omega⟩
        rw [hh]
        exact ⟨s, ks1, rfl, hs', fun k hk => by
          have := k1 k hk
          rw [show 12 - (l + 1) = h by omega] at this
          exact this⟩
      · exact k3 k hk
    · have k2' : rowsP ks1 ((l : Int) + 1) = A := k2
      rw [rowsP, rowP_node, k2', k4, List.cons_append, ← split]
/-- a thing is a flat row -/
def flatGo : Int → Int → List PyData → Bool
  | _, _, [] => true
  | lo, hi, .tuple [.int l, t] :: r => isNum 11 (.int l) && isTag t && (decide (lo ≤ l) && decide (l ≤ hi)) && flatGo 1 (l + 1) r
  | _, _, _ :: _ => false
def isFlatD : PyData → Bool
  | .tuple ds => decide (1 ≤ ds.length) && decide (ds.length ≤ 60) && flatGo 0 0 ds
  | _ => false
theorem flatGo_pr : ∀ {ds : List PyData} {lo hi : Int}, flatGo lo hi ds = true → ∃ L : List Pr, ds = L.map prD ∧ stepOk hi L ∧ (∀ p ∈ L, 0 ≤ p.1 ∧ p.1 ≤ 11 ∧ tagOkP p) ∧ (∀ p r, L = p :: r → lo ≤ p.1 ∧ ∀ q ∈ r, 1 ≤ q.1)
  | [], _, _, _ => ⟨[], rfl, trivial, fun p hp => absurd hp List.not_mem_nil, fun p r e => by cases e⟩
  | d :: ds, lo, hi, h => by
    unfold flatGo at h
    split at h
    · rename_i heq
      cases heq
    · rename_i lo' hi' l t r heq
      cases heq
      simp only [Bool.and_eq_true] at h
      obtain ⟨⟨⟨h1, h2⟩, h3, h4⟩, h5⟩ := h
      obtain ⟨L, e1, e2, e3, e4⟩ := flatGo_pr h5
      rw [isNum, Bool.and_eq_true] at h1
      have b1 := of_decide_eq_true h1.1
      have b2 := of_decide_eq_true h1.2
      have b3 := of_decide_eq_true h3
      have b4 := of_decide_eq_true h4
      refine ⟨(l, t) :: L, by rw [e1]; rfl, ⟨b4, e2⟩, fun p hp => ?_, fun p r e => ?_⟩
      · rcases List.mem_cons.mp hp with rfl | hp
        · exact ⟨b1, b2, h2⟩
        · exact e3 p hp
      · cases e
        refine ⟨b3, fun q hq => ?_⟩
        cases L with
        | nil => exact absurd hq List.not_mem_nil
        | cons q' r' =>
          obtain ⟨c1, c2⟩ := e4 q' r' rfl
          rcases List.mem_cons.mp hq with rfl | hq
          · exact c1
          · exact c2 q hq
    · cases h
theorem rowsP_lens : ∀ (ks : List PyData) (l : Int), (∀ k ∈ ks, ∃ n, TrT n k) → (rowsP ks l).length = nnAll ks
  | [], l, _ => by rw [rowsP, nnAll]; rfl
  | k :: ks, l, h => by
    obtain ⟨n, hn⟩ := h k (.head _)
    rw [rowsP, List.length_append, rowP_len l hn, rowsP_lens ks l (fun x hx => h x (.tail _ hx)), nnAll]
/-- each flat row is that of a tree -/
theorem flat_tree {ds : List PyData} (h : isFlatD (.tuple ds) = true) : ∃ t, TrT 12 t ∧ nn t ≤ 60 ∧ ds = (rowP t 0).map prD := by
  rw [isFlatD, Bool.and_eq_true, Bool.and_eq_true] at h
  have n1 := of_decide_eq_true h.1.1
  have n2 := of_decide_eq_true h.1.2
  obtain ⟨L, e1, e2, e3, e4⟩ := flatGo_pr h.2
  have eL : ds.length = L.length := by rw [e1, List.length_map]
  cases L with
  | nil => rw [List.length_nil] at eL; omega
  | cons p L =>
    obtain ⟨c1, c2⟩ := e4 p L rfl
    have p0 : p.1 = 0 := by have := e2.1; omega
    obtain ⟨ks, k1, k2⟩ := forest (L.length + 1) (p :: L) 0 0 (by simp) (by decide) e2 e3 (fun q r e => by cases e; exact p0)
    have k2' : rowsP ks 0 = p :: L := k2
    cases ks with
    | nil => rw [rowsP] at k2'; cases k2'
    | cons k ks =>
      have hk := k1 k (.head _)
      have : ks = [] := by
        cases ks with
        | nil => rfl
        | cons k' ks' =>
          exfalso
          have hk' := k1 k' (.tail _ (.head _))
          obtain ⟨s1, ks1, rfl, _, _⟩ := hk.node
          obtain ⟨s2, ks2, rfl, _, _⟩ := hk'.node
          rw [rowsP, rowsP, rowP_node, rowP_node, List.cons_append] at k2'
          cases k2'
          have := c2 (0, .str s2) (by simp)
          simp at this
      subst this
      rw [rowsP, rowsP, List.append_nil] at k2'
      refine ⟨k, hk, ?_, by rw [k2']; exact e1⟩
      rw [← rowP_len 0 hk, k2', ← eL]
      exact n2
end Tl

set_option Elab.async false
set_option linter.all false
set_option maxRecDepth 100000
set_option maxHeartbeats 4000000
namespace Tl
open PySem L2
def lvTag : PyData → Bool
  | .tuple [a, b] => isNum 11 a && isTag b
  | _ => false
theorem flatGo_cons (lo hi : Int) (d : PyData) (r : List PyData) : flatGo lo hi (d :: r) = (match d with | .tuple [.int l, t] => lvTag d && (decide (lo ≤ l) && decide (l ≤ hi)) && flatGo 1 (l + 1) r | _ => false) := by
  match d with
  | .tuple [.int l, t] => simp only [flatGo, lvTag]
  | .none => simp [flatGo]
  | .bool _ => simp [flatGo]
  | .int _ => simp [flatGo]
  | .str _ => simp [flatGo]
  | .list _ => simp [flatGo]
  | .dict _ => simp [flatGo]
  | .tuple [] => simp [flatGo]
  | .tuple [_] => simp [flatGo]
  | .tuple (_ :: _ :: _ :: _) => simp [flatGo]
  | .tuple [.none, _] => simp [flatGo]
  | .tuple [.bool _, _] => simp [flatGo]
  | .tuple [.str _, _] => simp [flatGo]
  | .tuple [.list _, _] => simp [flatGo]
  | .tuple [.tuple _, _] => simp [flatGo]
  | .tuple [.dict _, _] => simp [flatGo]
theorem lvTag_of {d : PyData} (h : lvTag d = true) : ∃ l t, d = .tuple [.int l, t] ∧ 0 ≤ l ∧ l ≤ 11 ∧ isTag t = true := by
  unfold lvTag at h
  split at h
  · rename_i a b
    rw [Bool.and_eq_true] at h
    cases a with
    | int l =>
      have h1 := h.1
      rw [isNum, Bool.and_eq_true] at h1
      exact ⟨l, b, rfl, of_decide_eq_true h1.1, of_decide_eq_true h1.2, h.2⟩
    | _ => exact absurd h.1 (by simp [isNum])
  · cases h
theorem flatGo_no {lo hi : Int} {d : PyData} {r : List PyData} (h : lvTag d = false) : flatGo lo hi (d :: r) = false := by
  rw [flatGo_cons]
  split
  · rw [h]; rfl
  · rfl
theorem flatGo_yes {lo hi l : Int} {t : PyData} {r : List PyData} (h : lvTag (.tuple [.int l, t]) = true) : flatGo lo hi (.tuple [.int l, t] :: r) = (decide (lo ≤ l) && decide (l ≤ hi) && flatGo 1 (l + 1) r) := by
  rw [flatGo_cons]
  show (lvTag _ && _ && _) = _
  rw [h, Bool.true_and]
mutual
theorem row_flat : ∀ {n : Nat} {d : PyData} {l lo hi : Int} {rest : List PyData}, TrT n d → 0 ≤ l → l + n ≤ 12 → lo ≤ l → l ≤ hi → (∀ hi', l + 1 ≤ hi' → flatGo 1 hi' rest = true) → flatGo lo hi ((rowP d l).map prD ++ rest) = true
  | 0, _, _, _, _, _, t, _, _, _, _, _ => t.elim
  | n + 1, _, l, lo, hi, rest, ⟨s, ks, rfl, hs, hk⟩, h0, hn, h1, h2, hr => by
    rw [rowP_node, List.map_cons, List.cons_append]
    show flatGo lo hi (.tuple [.int l, .str s] :: _) = true
    rw [flatGo_yes (by rw [lvTag, hs, isNum, decide_eq_true h0, decide_eq_true (by omega)]; rfl), decide_eq_true h1, decide_eq_true h2, Bool.true_and, Bool.true_and]
    exact rows_flat hk h0 (by omega) (Int.le_refl _) hr
theorem rows_flat : ∀ {n : Nat} {ks : List PyData} {l hi : Int} {rest : List PyData}, (∀ k ∈ ks, TrT n k) → 0 ≤ l → l + 1 + n ≤ 12 → l + 1 ≤ hi → (∀ hi', l + 1 ≤ hi' → flatGo 1 hi' rest = true) → flatGo 1 hi ((rowsP ks (l + 1)).map prD ++ rest) = true
  | n, [], l, hi, rest, _, _, _, hh, hr => by
    rw [rowsP]
    exact hr hi hh
  | n, k :: ks, l, hi, rest, hk, h0, hn, hh, hr => by
    rw [rowsP, List.map_append, List.append_assoc]
    exact row_flat (hk k (.head _)) (by omega) (by omega) (by omega) hh fun hi' h' => rows_flat (fun x hx => hk x (.tail _ hx)) h0 hn (by omega) hr
end
theorem isFlat_row {t : PyData} (h : TrT 12 t) (hn : nn t ≤ 60) : isFlatD (.tuple ((rowP t 0).map prD)) = true := by
  have hl := rowP_len 0 h
  have hp := nn_pos t
  rw [isFlatD, List.length_map, hl, decide_eq_true (by omega), decide_eq_true hn]
  have := row_flat (lo := 0) (hi := 0) (rest := []) h (Int.le_refl _) (by decide) (Int.le_refl _) (Int.le_refl _) (fun hi' _ => rfl)
  rw [List.append_nil] at this
  rw [this]
  rfl
theorem small_in (c : Nat) : decide (c ∈ ("abcdefghijklmnopqrstuvwxyz" : Str).cps.toList) = small c := by
  have e : ("abcdefghijklmnopqrstuvwxyz" : Str).cps.toList = (List.range 26).map (· + 97) := by decide +kernel
  rw [e]
  unfold small
  by_cases h : 97 ≤ c ∧ c ≤ 122
  · rw [decide_eq_true h.1, decide_eq_true h.2]
    refine decide_eq_true (List.mem_map.mpr ⟨c - 97, List.mem_range.mpr (by omega), by omega⟩)
  · rw [decide_eq_false (fun z => by
      obtain ⟨x, h1, h2⟩ := List.mem_map.mp z
      have := List.mem_range.mp h1
      omega)]
    by_cases h1 : 97 ≤ c
    · rw [decide_eq_true h1, decide_eq_false (by omega)]; rfl
    · rw [decide_eq_false h1]; rfl
theorem eqv_nil (ds : List PyData) : PyData.eqv (.list ds) (.list []) = ds.isEmpty := by
  cases ds with
  | nil => rfl
  | cons a r => rfl
mutual
theorem gd_nd : ∀ d : PyData, gd d = true → d.hasDict = false
  | .none, _ => rfl
  | .bool _, _ => rfl
  | .int _, _ => rfl
  | .str _, _ => rfl
  | .list ds, h => by rw [gd] at h; rw [PyData.hasDict]; exact gds_nd ds h
  | .tuple ds, h => by rw [gd] at h; rw [PyData.hasDict]; exact gds_nd ds h
  | .dict _, h => Bool.noConfusion h
theorem gds_nd : ∀ ds : List PyData, gdAll ds = true → PyData.hasDictAll ds = false
  | [], _ => rfl
  | d :: ds, h => by
    rw [gdAll, Bool.and_eq_true] at h
    rw [PyData.hasDictAll, gd_nd d h.1, gds_nd ds h.2]
    rfl
end
end Tl

set_option Elab.async false
set_option linter.all false
set_option maxRecDepth 100000
set_option maxHeartbeats 4000000
/-! The empty dict; one of some; rows that are good to be shown, cut and put together. -/
namespace Tl
open PySem L2
theorem se_dnew {K : PySem.W.Frag} {Wx : WX} {RE : REx} : SE K Wx RE tDNewK (cT (.d (.dict []))) := fun F H M σ ρ R Q hr hx hs ht k p hp => by
  obtain ⟨h1, h2⟩ := hr.fresh (u := .dK []) hp
  exact k _ _ _ _ _ h1 h2 (.d (.dic upd_same)) ht
theorem at_mem {α : Type} {xs : List α} {r : Int} (h0 : 0 ≤ r) (h1 : r < (xs.length : Nat)) : ∃ x, atI xs r = some x ∧ x ∈ xs := by
  obtain ⟨n, rfl⟩ : ∃ n : Nat, r = (n : Int) := ⟨r.toNat, by omega⟩
  have hn : n < xs.length := by omega
  exact ⟨xs[n], atI_nat (List.getElem?_eq_getElem hn), List.getElem_mem hn⟩
/-- good to be shown, of a weight and a depth -/
def Gk (m k : Nat) (d : PyData) : Prop := gd d = true ∧ wt d ≤ m ∧ d.depth ≤ k
def Gks (m k : Nat) (ds : List PyData) : Prop := gdAll ds = true ∧ wtAll ds ≤ m ∧ PyData.depthAll ds ≤ k
def GdE (d : PyData) : Prop := Gk 1000000 40 d ∨ d = .dict []
theorem Gk.mono {m k m' k' : Nat} {d : PyData} (h : Gk m k d) (h1 : m ≤ m') (h2 : k ≤ k') : Gk m' k' d := ⟨h.1, Nat.le_trans h.2.1 h1, Nat.le_trans h.2.2 h2⟩
theorem Gks.nil {m k : Nat} : Gks m k [] := ⟨rfl, Nat.zero_le _, Nat.zero_le _⟩
theorem Gks.cons {m k m' m'' : Nat} {d : PyData} {ds : List PyData} (h : Gk m k d) (h' : Gks m' k ds) (e : m + 2 + m' ≤ m'') : Gks m'' k (d :: ds) := by
  refine ⟨by rw [gdAll, h.1, h'.1]; rfl, ?_, ?_⟩
  · rw [wtAll]
    have := h.2.1
    have := h'.2.1
    omega
  · rw [PyData.depthAll]
    have := h.2.2
    have := h'.2.2
    omega
theorem Gks.tup {m k m' : Nat} {ds : List PyData} (h : Gks m k ds) (e : 3 + m ≤ m') : Gk m' (k + 1) (.tuple ds) := ⟨by rw [gd]; exact h.1, by rw [wt]; have := h.2.1; omega, by rw [PyData.depth]; have := h.2.2; omega⟩
theorem Gks.lst {m k m' : Nat} {ds : List PyData} (h : Gks m k ds) (e : 3 + m ≤ m') : Gk m' (k + 1) (.list ds) := ⟨by rw [gd]; exact h.1, by rw [wt]; have := h.2.1; omega, by rw [PyData.depth]; have := h.2.2; omega⟩
theorem Gks.app {m k m' m'' : Nat} {a b : List PyData} (h : Gks m k a) (h' : Gks m' k b) (e : m + m' ≤ m'') : Gks m'' k (a ++ b) := by
  refine ⟨by rw [gdAll_app, h.1, h'.1]; rfl, ?_, ?_⟩
  · rw [wtAll_app]
    have := h.2.1
    have := h'.2.1
    omega
  · rw [depthAll_app]
    have := h.2.2
    have := h'.2.2
    omega
theorem Gks.of_app {m k : Nat} {a b : List PyData} (h : Gks m k (a ++ b)) : Gks m k a ∧ Gks m k b := by
  obtain ⟨h1, h2, h3⟩ := h
  rw [gdAll_app, Bool.and_eq_true] at h1
  rw [wtAll_app] at h2
  rw [depthAll_app] at h3
  exact ⟨⟨h1.1, by omega, by omega⟩, h1.2, by omega, by omega⟩
theorem Gks.take {m k : Nat} {ds : List PyData} (h : Gks m k ds) (n : Nat) : Gks m k (ds.take n) := by
  rw [← List.take_append_drop n ds] at h
  exact h.of_app.1
theorem Gks.drop {m k : Nat} {ds : List PyData} (h : Gks m k ds) (n : Nat) : Gks m k (ds.drop n) := by
  rw [← List.take_append_drop n ds] at h
  exact h.of_app.2
theorem Gks.cut {m k : Nat} {ds : List PyData} (h : Gks m k ds) (lo hi : Option Int) : Gks m k (cut ds lo hi) := (h.drop _).take _
theorem Gks.rev {m k : Nat} {ds : List PyData} (h : Gks m k ds) : Gks m k ds.reverse := by
  induction ds generalizing m with
  | nil => exact h
  | cons a r ih =>
    obtain ⟨h1, h2, h3⟩ := h
    rw [gdAll, Bool.and_eq_true] at h1
    rw [wtAll] at h2
    rw [PyData.depthAll] at h3
    rw [List.reverse_cons]
    exact Gks.app (m := wtAll r) (m' := wt a + 2) (ih ⟨h1.2, Nat.le_refl _, by omega⟩) (Gks.cons (m := wt a) (m' := 0) ⟨h1.1, Nat.le_refl _, by omega⟩ Gks.nil (Nat.le_refl _)) (by omega)
theorem Gks.get {m k : Nat} {ds : List PyData} {d : PyData} (h : Gks m k ds) (hd : d ∈ ds) : Gk m k d := by
  obtain ⟨i, hi, rfl⟩ := List.getElem_of_mem hd
  obtain ⟨q1, q2, q3⟩ := gdAll_get h.1 (List.getElem?_eq_getElem hi)
  have := h.2.1
  have := h.2.2
  exact ⟨q1, by omega, by omega⟩
theorem cut_len {α : Type} (xs : List α) (lo hi : Option Int) : (cut xs lo hi).length ≤ xs.length := by
  unfold cut
  rw [List.length_take, List.length_drop]
  omega
theorem gk_int {i : Int} {m k : Nat} (h : i.natAbs < 10 ^ 41) (hm : 1930 ≤ m) : Gk m k (.int i) := ⟨by rw [gd]; exact decide_eq_true h, by rw [wt]; exact hm, Nat.zero_le _⟩
theorem gk_str {s : Str} {m k : Nat} (h : s.length ≤ 1000) (h2 : PyData.strOk s = true) (hm : 10 * s.length + 4 ≤ m) : Gk m k (.str s) := ⟨by rw [gd, decide_eq_true h, h2]; rfl, by rw [wt]; exact hm, Nat.zero_le _⟩
theorem gk_none {m k : Nat} (hm : 4 ≤ m) : Gk m k .none := ⟨rfl, hm, Nat.zero_le _⟩
theorem gk_bool {b : Bool} {m k : Nat} (hm : 5 ≤ m) : Gk m k (.bool b) := ⟨rfl, hm, Nat.zero_le _⟩
theorem cutS_ok {s : Str} (lo hi : Option Int) (h : PyData.strOk s = true) : PyData.strOk (cutS s lo hi) = true ∧ (cutS s lo hi).length ≤ s.length := by
  unfold cutS
  constructor
  · rw [PyData.strOk, ← Array.all_toList, List.all_eq_true] at h ⊢
    intro c hc
    exact h c (List.mem_of_mem_drop (List.mem_of_mem_take hc))
  · show (List.toArray _).size ≤ s.cps.size
    rw [List.size_toArray, List.length_take, List.length_drop, Array.length_toList]
    omega
theorem strOk_app {a b : Str} (h1 : PyData.strOk a = true) (h2 : PyData.strOk b = true) : PyData.strOk (a ++ b) = true ∧ (a ++ b).length = a.length + b.length := by
  refine ⟨?_, strLen_append a b⟩
  rw [PyData.strOk, ← Array.all_toList, List.all_eq_true] at h1 h2 ⊢
  intro c hc
  have e : (a ++ b).cps.toList = a.cps.toList ++ b.cps.toList := by
    show (a.cps ++ b.cps).toList = _
    rw [Array.toList_append]
  rw [e] at hc
  rcases List.mem_append.mp hc with hc | hc
  · exact h1 c hc
  · exact h2 c hc
theorem gO_atD {ds : List PyData} {r : Int} {k : W → Prop} (Pq : PyData → Prop) (h0 : 0 ≤ r) (h1 : r < (ds.length : Nat)) (hp : ∀ d ∈ ds, Pq d) (q : ∀ d, Pq d → k (W.d d)) : gO (atI (ds.map W.d) r) k := by
  obtain ⟨d, e, hm⟩ := at_mem (xs := ds) h0 h1
  refine gO_i (a := W.d d) ?_ (q d (hp d hm))
  rw [atI_map, e]
  rfl
theorem all1 {α : Type} {P : α → Prop} {a : α} {l : List α} (h : P a) (t : ∀ x ∈ l, P x) : ∀ x ∈ a :: l, P x := fun x hx => (List.mem_cons.mp hx).elim (fun z => by rw [z]; exact h) (t x)
theorem all0 {α : Type} {P : α → Prop} : ∀ x ∈ ([] : List α), P x := fun x hx => absurd hx List.not_mem_nil
theorem GdE.txt {d : PyData} (h : GdE d) : txt d = true := by
  rcases h with h | rfl
  · exact gd_txt d h.1
  · rfl
theorem GdE.sh {d : PyData} (h : GdE d) : (d.hasDict = false ∨ d = .dict []) ∧ shOk d := by
  rcases h with h | rfl
  · refine ⟨.inl (gd_nd d h.1), gd_show d h.1, by have := h.2.2; omega, ?_⟩
    have := shown_le d h.1
    have h2 := h.2.1
    exact Nat.le_trans (Nat.le_trans this h2) (by decide)
  · exact ⟨.inr rfl, by decide +kernel, by decide +kernel, by decide +kernel⟩
end Tl

set_option Elab.async false
set_option linter.all false
set_option maxRecDepth 100000
set_option maxHeartbeats 4000000
/-! A def called at one place alone (what stands around it is known), and a law's end by it. -/
namespace Tl
open PySem PySem.Spec PyProof.Rows L2
theorem run_at {P : Program} {w : World} {K : PySem.W.Frag} {mg : Str → Option Value} {base : Heap} {k : Nat} {f : Addr} {fd : FuncData} {x qual : Str} {st : Stmt} {N ps : List Str} {A0 : Around} {outer : List Env} {s : Shared} {H : Hp} {args : Args} {us : List Value} {vs : List V} {Q : VK} {E : XK}
    (F : Fun K x qual st f fd) (S : FnScope N ps (defScope st)) (hr : Room (k + 1) A0) (e0 : Env0 P w K mg base A0 outer s H) (hb : BindsTo s fd args (ps.zip us)) (r : Vals vs us) (hl : vs.length = ps.length)
    (body : ∀ cdv : Value, Room k (A0.deeper (envOfC qual (defScope st) s.heap.objs.size f cdv)) →
      ∃ t, PSs (cxOf CX0 P w K mg base N qual (defScope st) f cdv A0 outer s H E).nox (defBody st) t ∧ t { nx := fun _ H' => Q .non H', rt := Q } (start N vs) H) :
    codeAny (model P w) A0 (.call (.ref f) args) (CR CX0 outer P w H s Q E) s := by
  obtain ⟨oc, od, kV, doc, pm, an, cdv, ct, osl, rfl, lk, hcd⟩ := F.ex
  have keep : ∀ b o, base.get? b = some o → s.heap.get? b = some o := fun b o q => (e0.bs b o q).1
  have KX : K.In s.heap := e0.mod.kin.keeps keep
  have hkind : ∀ y ∈ ps.zip us, (defScope st).names.lookup y.1 = some .local ∨
      ((defScope st).names.lookup y.1 = some .cell ∧ ((cellsFrom (s.heap.objs.size + 1) (defScope st).names []).lookup y.1).isSome = true) := by
    rintro ⟨n, v⟩ hy
    exact (S.par n (List.of_mem_zip hy).1).imp id fun q => ⟨q, PySem.W.cellsFrom_some _ _ _ (.inl q)⟩
  refine codeAny_call_function hr.depth (KX _ _ lk) rfl S.co S.gen rfl
    (PySem.W.codeRec_of KX hcd) (hb _ _ _ _ ?_)
  refine wpAny_newFunctionEnv_cells S.kind hkind fun env he s1 xx => ?_
  subst he
  refine ⟨(e0.mod.nolimit.keeps keep).keeps xx.toInCall.keep, codeAny_func ?_⟩
  obtain ⟨t, ht, hq⟩ := body cdv (hr.deeper _)
  have I := inv_start (CX := CX0) (E := E) S hr.hd e0 hl r xx
  refine wpAny_mono (ht.nox.run [] s1 (start N vs) H _ I hq) (fun fl s' hs => ?_) fun e s' hs => hs
  cases fl with
  | ret u =>
    obtain ⟨v, σ', H', J, rv, q⟩ := hs
    exact ⟨v, H', J.os, J.bare, J.base, J.hok, rv, q⟩
  | next =>
    obtain ⟨σ', H', J, q⟩ := hs
    exact ⟨V.non, H', J.os, J.bare, J.base, J.hok, rfl, q⟩
  | brk =>
    obtain ⟨_, _, _, q⟩ := hs
    exact q.elim
  | cont =>
    obtain ⟨_, _, _, q⟩ := hs
    exact q.elim
/-- what is tracked as a law begins: nothing, or the script alone, locked -/
def onlyAt (a : Addr) (o : Obj) (xs : List V) : Hp := fun b => if b = a then some (.frz o (.lst xs)) else none
theorem end_at {P : Program} {w : World} {K : PySem.W.Frag} {mg mb : Str → Option Value} {fa a : Addr} {s₁ : Shared} {vs : List Value} {ns : List Int}
    (KX : K.In s₁.heap) (hns : s₁.heap.Ns mainGlobals mg) (hmb : s₁.heap.Ns builtinsNs mb) (hbb : ∀ x : Str, x ≠ "__name__" → mb x = bootBuiltins x)
    (hlim : s₁.heap.NoLimit) (hg : s₁.gens = #[]) (ha : s₁.heap.get? a = some { cls := .type "list", data := .seq vs.toArray }) (hi : IntsAre vs ns) (hl : ns.length ≤ sizeLine)
    (run : ∀ (base : Heap) (H : Hp), K.In base → base.Ns mainGlobals mg → SqL K H a (ns.map V.int) → Env0 P w K mg base callerA [] s₁ H →
      codeAny (model P w) callerA (.call (.ref fa) ⟨[.ref a], []⟩) (CR CX0 [] P w H s₁ (fun v _ => v = V.bl true) fun _ _ _ => False) s₁) :
    codeAny (model P w) callerA (.call (.ref fa) ⟨[.ref a], []⟩)
      (fun r s' => r = .ok (.ret (.bool true)) ∧ OldK s₁.heap s'.heap ∧ s'.os = s₁.os ∧ AllBare s'.gens) s₁ := by
  have rv := vals_ints hi
  have go : ∀ H : Hp, (∀ b u, H b = some u → b = a ∧ ∃ o xs, u = .frz o (.lst xs)) → SqL K H a (ns.map V.int) → HOk P w H s₁.heap → (H a ≠ none → K.lookup a = none) →
      codeAny (model P w) callerA (.call (.ref fa) ⟨[.ref a], []⟩)
        (fun r s' => r = .ok (.ret (.bool true)) ∧ OldK s₁.heap s'.heap ∧ s'.os = s₁.os ∧ AllBare s'.gens) s₁ := by
    intro H hO hS hok hK
    have bo : ∀ {b : Addr} {o : Obj}, s₁.heap.get? b = some o → H b = none → (hidT s₁.heap H).get? b = some o := fun q n => hidT_get q n
    have nd : ∀ {b : Addr} {o : Obj} {es : Array DictEntry} {ep : Nat}, s₁.heap.get? b = some o → o.data = .dict es ep → H b = none := by
      intro b o es ep q d
      cases z : H b with
      | none => rfl
      | some u =>
        obtain ⟨rfl, _⟩ := hO b u z
        rw [ha] at q
        cases q
        have d' : Data.seq vs.toArray _ = Data.dict es ep := d
        cases d'
    have nsK : ∀ {b : Addr} {m : Str → Option Value}, s₁.heap.Ns b m → (hidT s₁.heap H).Ns b m := by
      rintro b m ⟨o, es, ep, q, d, r⟩
      exact ⟨o, es, ep, bo q (nd q d), d, r⟩
    have hKb : K.In (hidT s₁.heap H) := fun b o q => bo (KX b o q) (by
      cases z : H b with
      | none => rfl
      | some u =>
        obtain ⟨rfl, _⟩ := hO b u z
        have := hK (by rw [z]; exact fun y => nomatch y)
        rw [this] at q
        cases q)
    obtain ⟨mc, l1, l2⟩ := hlim
    have hM : Mod K mg (hidT s₁.heap H) := ⟨hKb, nsK hns, ⟨mb, nsK hmb, hbb⟩, ⟨mc, nsK l1, l2⟩⟩
    have e0 : Env0 P w K mg (hidT s₁.heap H) callerA [] s₁ H :=
      ⟨rfl, hM, fun b o q => of_hidT q, Nat.le_of_eq (hidT_size _ _), trivial, fun b hb => absurd (show b ∈ ([] : List Addr) from hb) (by simp), hok, .of_eq hg⟩
    refine codeAny_mono (run _ H hKb (nsK hns) hS e0) fun r s' h => ?_
    cases r with
    | error e => exact h.elim
    | ok fl =>
      cases fl with
      | ret u =>
        obtain ⟨v, H', os, bare, un, hok', r', q⟩ := h
        have q' : v = .bl true := q
        subst q'
        obtain rfl : u = Value.bool true := r'
        refine ⟨rfl, OldK.of_keep fun b o e => ?_, os, bare⟩
        cases z : H b with
        | none => exact un.keep b o e z (fun y => absurd (show b ∈ ([] : List Addr) from y) (by simp)) (by simp)
        | some u =>
          obtain ⟨rfl, ob, xs, rfl⟩ := hO b u z
          have z2 := un.frzs b ob _ z
          obtain ⟨e1, _⟩ := hok b _ z
          obtain ⟨e2, _⟩ := hok' b _ z2
          rw [e] at e1
          cases e1
          exact e2
      | next => exact h.elim
      | brk => exact h.elim
      | cont => exact h.elim
  have lenV := hi.length
  cases hk : K.lookup a with
  | some o =>
    have e := KX a o hk
    rw [ha] at e
    cases e
    have no : ∀ (b : Addr) (u : HO), (fun _ : Addr => (none : Option HO)) b = some u → False := fun b u z => by
      have z' : (none : Option HO) = some u := z
      cases z'
    exact go (fun _ => none) (fun b u z => (no b u z).elim) (.inr ⟨_, vs.toArray, _, hk, rfl, rfl, rfl, by rw [List.size_toArray, lenV]; exact hl, by simpa using rv⟩)
      (fun b u z => (no b u z).elim) fun z => absurd rfl z
  | none =>
    have at_a : onlyAt a { cls := .type "list", data := .seq vs.toArray } (ns.map V.int) a = some (.frz { cls := .type "list", data := .seq vs.toArray } (.lst (ns.map V.int))) := if_pos rfl
    have only : ∀ b u, onlyAt a { cls := .type "list", data := .seq vs.toArray } (ns.map V.int) b = some u → b = a ∧ u = .frz { cls := .type "list", data := .seq vs.toArray } (.lst (ns.map V.int)) := fun b u z => by
      unfold onlyAt at z
      by_cases hb : b = a
      · rw [if_pos hb] at z
        exact ⟨hb, (Option.some.inj z).symm⟩
      · rw [if_neg hb] at z
        cases z
    refine go (onlyAt a { cls := .type "list", data := .seq vs.toArray } (ns.map V.int)) (fun b u z => ?_) (.inl (.inr ⟨_, at_a⟩)) (fun b u z => ?_) fun _ => hk
    · obtain ⟨h1, h2⟩ := only b u z
      exact ⟨h1, _, _, h2⟩
    · obtain ⟨rfl, rfl⟩ := only b u z
      exact ⟨ha, by rw [List.length_map]; exact hl, vs, _, rv, ha⟩
theorem walk_at_top {l : PySem.W.OpenLaw} {n : Nat} {q : Program} {loose : List Str} {XP : (Str → Option Value) → Heap → Prop} {YP : World → Heap → Prop} {d : DefRec} {K : Params → PySem.W.Frag}
    (hn : l.most = some n) (hn2 : n ≤ sizeLine) (hdf : d.params.defaults = []) (hY : ∀ (w : World) (h : Heap), YP w h → (K w.params).In h)
    (F : ∀ (w : World) (mg : Str → Option Value) (fa : Addr) (h : Heap), (K w.params).In h → h.Ns mainGlobals mg → mg d.name = some (.ref fa) →
      ∀ (s₁ : Shared) (base : Heap) (H : Hp) (a : Addr) (ns : List Int), ns.length ≤ n → (K w.params).In base → base.Ns mainGlobals mg → SqL (K w.params) H a (ns.map V.int) → Env0 l.prog w (K w.params) mg base callerA [] s₁ H →
        codeAny (model l.prog w) callerA (.call (.ref fa) ⟨[.ref a], []⟩) (CR CX0 [] l.prog w H s₁ (fun v _ => v = V.bl true) fun _ _ _ => False) s₁) :
    PySem.W.WalkO q loose XP YP l.row.toRowW d [] (fun f vs => PySem.call f vs) := by
  refine Att.attach_call hn hdf fun w s₀ s₁ mg mb fa o pm cd doc a vs ns G Y ho hd hcd hmg hobj hints hlen hg => ?_
  have KX := hY w _ Y
  exact end_at KX G.T.g G.T.b G.T.builtins G.T.nolimit hg hobj hints (Nat.le_trans hlen hn2)
    fun base H h1 h2 h3 h4 => F w mg fa _ KX G.T.g hmg s₁ base H a ns hlen h1 h2 h3 h4
end Tl

set_option Elab.async false
set_option linter.all false
set_option maxRecDepth 100000
set_option maxHeartbeats 4000000
/-! Defs that show things: they are run where no text is being made. -/
namespace Tl
open PySem PySem.Spec PyProof.Rows L2
/-- a promise of a def that is kept where nothing is being shown -/
structure FnG (P : Program) (w : World) (K : PySem.W.Frag) (mg : Str → Option Value) (base : Heap) (k : Nat) (f : Addr) (fd : FuncData) (ps : List Str) (sp : Sp) : Prop where
  len : ∀ vs H Q E, sp vs H Q E → vs.length = ps.length
  run : ∀ (A : Around) (st : List Env) (s : Shared) (H : Hp) (args : Args) (us : List Value) (vs : List V) (Q : VK) (E : XK), A.guards = some [] → Room k A → Env0 P w K mg base A st s H → BindsTo s fd args (ps.zip us) → Vals vs us → sp vs H Q E →
    codeAny (model P w) A (.call (.ref f) args) (CR CX0 st P w H s Q E) s
structure UseG (P : Program) (w : World) (K : PySem.W.Frag) (mg : Str → Option Value) (base : Heap) (x : Str) (ps : List Str) (k : Nat) (sp : Sp) where
  f : Addr
  fd : FuncData
  ok : FnG P w K mg base k f fd ps sp
  m : mg x = some (.ref f)
  kp : PySem.W.keepIn K (.ref f) = true
  b : Binds K fd ps []
section
variable {X : Cx} {k : Nat} {f : Addr} {fd : FuncData} {ps : List Str} {sp : Sp} {E : XK} {x : Str} {p pos : Pos} {e : Expr} {es : List Expr} {t : TA}
theorem run_G {pins : List (Addr × Obj)} {σ : L2.St} {H : Hp} {s : Shared} {Q : VK} {us : List Value} {vs : List V} (F : FnG X.prog X.w X.K X.mg X.base k f fd ps sp) (hr : Room k X.A) (g : X.A.guards = some []) (hb : Binds X.K fd ps [])
    (I : Inv X pins σ H s) (r : Vals vs us) (h : sp vs H Q E) : wpAny (model X.prog X.w) X.A (call (.ref f) us) (EP X pins σ Q) X.xe s := by
  have hl : us.length = ps.length := by
    rw [← r.length]
    exact F.len _ _ _ _ h
  have hB := hb s us I.kIn (by rw [List.append_nil]; exact hl)
  rw [List.append_nil] at hB
  refine wpAny_call (codeAny_mono (F.run X.A X.stack s H _ us vs Q E g hr I.env0 hB r h) fun z s' hq => ?_)
  match z, hq with
  | .ok (.ret u), hq => exact I.after hq
theorem pe_callG (F : FnG X.prog X.w X.K X.mg X.base k f fd ps sp) (hr : Room k X.A) (g : X.A.guards = some []) (hg : Gl X x) (hm : X.mg x = some (.ref f)) (hk : PySem.W.keepIn X.K (.ref f) = true) (hb : Binds X.K fd ps [])
    (ha : PA X (e :: es) t) (hdb : (x == ("__debug__" : Str)) = false := by decide) (he : starEach (e :: es) X.env = (false, eval e X.env) :: starEach es X.env := by rfl)
    (hpl : (backTo pos (starEach es X.env)).any (·.1) = false := by rfl) : PE X (.Call (.Name x p) (e :: es) [] pos) (tCall sp [] E t) :=
  ⟨fun pn s σ H Q I h => wpAny_Call_Name_kw (ld_glob I hg hm (PySem.W.callWith_K (h₀ := X.base) I.ok.mod.kin hk
    (thn (ha.run pos pn s σ H _ I h) fun us s1 ⟨vs, H1, I1, r, q⟩ => ⟨I1.kIn, run_G (E := E) F hr g hb I1 r (List.append_nil vs ▸ q)⟩) he hpl) hdb)⟩
end
section
variable {P : Program} {w : World} {K : PySem.W.Frag} {mg : Str → Option Value} {base : Heap}
theorem okDG {f : Addr} {fd : FuncData} {k n : Nat} {x qual : Str} {st : Stmt} {N ps : List Str} {tf : TF} (F : Fun K x qual st f fd) (S : FnScope N ps (defScope st)) (hp : ps.length = n)
    (hb : ∀ (cdv : Value) (A : Around) (outer : List Env) (s : Shared) (H : Hp) (E : XK), (A.deeper (PyProof.Rows.envOfC qual (defScope st) s.heap.objs.size f cdv)).guards = some [] → Room k (A.deeper (PyProof.Rows.envOfC qual (defScope st) s.heap.objs.size f cdv)) →
      ∃ (t : TS) (T : TDS), PSs (cxOf CX0 P w K mg base N qual (defScope st) f cdv A outer s H E).nox (defBody st) t ∧ SSt K (fun _ _ _ _ => False) (fun _ _ _ => False) t T ∧
        ∀ ws M R RX, ws.length = n → tf ws M R RX → T (endD (lax R)) (start0 N.length ws) M) : FnG P w K mg base (k + 1) f fd ps (spD K n tf) := by
  refine ⟨fun vs H Q E h => ?_, fun A outer s H args us vs Q E hg hr e0 hB rv h => ?_⟩
  · obtain ⟨F0, M, ws, R, RX, r, rs, hl, _⟩ := h
    rw [rs.len, hl, hp]
  · obtain ⟨F0, M, ws, R, RX, r, rs, hl, hf, hk, _⟩ := h
    refine run_at F S hr e0 hB rv (by rw [rs.len, hl, hp]) fun cdv hr2 => ?_
    obtain ⟨t, T, h1, h2, h3⟩ := hb cdv A outer s H E hg hr2
    exact ⟨t, h1, h2 F0 H M _ _ _ _ r (fun F' H' M' σ ρ cls d x _ _ _ _ z => z) (rel_start rs) (h3 ws M R RX hl hf) (ek_def (kt_lax hk))⟩
end
end Tl

set_option Elab.async false
set_option linter.all false
set_option maxRecDepth 100000
set_option maxHeartbeats 4000000
/-! A law that makes its source of numbers by its first row. -/
namespace Tl
open PySem PySem.Spec PyProof.Rows L2
/-- a new source of numbers, from a script -/
def spState (K : PySem.W.Frag) : Sp := fun vs H Q _ => ∃ (a : Addr) (ns : List Int), vs = [.ref a] ∧ SqL K H a (ns.map V.int) ∧ ∀ (st c : Addr) (cs : List Int) (z : Int) (H' : Hp), Same H H' → H st = none → H c = none → c ≠ st → H' st = some (.lst [.ref c, .int 0, .int 0, .int z]) → H' c = some (.lst (cs.map V.int)) → 0 < cs.length → cs.length ≤ 63 → 0 ≤ z → z < 2147483647 → Q (.ref st) H'
section
variable {P : Program} {w : World} {K : PySem.W.Frag} {mg : Str → Option Value} {base : Heap}
theorem src_new {H : Hp} {sa c : Addr} {cs : List Int} {z : Int} (n : c ≠ sa) (h1 : H sa = some (.lst [.ref c, .int 0, .int 0, .int z])) (h2 : H c = some (.lst (cs.map V.int))) (l0 : 0 < cs.length) (l1 : cs.length ≤ 63) (z0 : 0 ≤ z) (z1 : z < 2147483647) : ∃ F M, Rl K F H M ∧ M sa = some (.src true) := by
  refine ⟨fun b => if b = c then some (.lst (cs.map V.int)) else none, fun b => if b = sa then some (.src true) else none, ⟨fun b u q => ?_, fun b o q => ?_, fun b o q => ?_⟩, if_pos rfl⟩
  · have q' : (if b = c then some (HO.lst (cs.map V.int)) else none) = some u := q
    split at q'
    · rename_i e
      rw [e, h2]
      exact q'
    · cases q'
  · have q' : (if b = sa then some (MO.src true) else none) = some o := q
    split at q'
    · rename_i e
      exact if_neg (fun z => n (by rw [← z, e]))
    · cases q'
  · have q' : (if b = sa then some (MO.src true) else none) = some o := q
    split at q'
    · rename_i e
      cases q'
      exact ⟨_, by rw [e]; exact h1, _, rfl, c, cs, 0, 0, z, rfl, SqL.of (if_pos rfl), l1, fun _ => l0, by decide, by decide, z0, by rw [if_pos rfl]; exact z1⟩
    · cases q'
theorem law_at {f : Addr} {fd : FuncData} {k : Nat} {st : Stmt} {N : List Str} {s : Shared} {H : Hp} {a : Addr} {ns : List Int} (F : Fun K "law" "law" st f fd) (S : FnScope N ["_law_script"] (defScope st)) (hS : SqL K H a (ns.map V.int)) (e0 : Env0 P w K mg base callerA [] s H) (hk : Room (k + 1) callerA) (hbi : Binds K fd ["_law_script"] [])
    (hb : ∀ cdv : Value, (callerA.deeper (envOfC "law" (defScope st) s.heap.objs.size f cdv)).guards = some [] → Room k (callerA.deeper (envOfC "law" (defScope st) s.heap.objs.size f cdv)) →
      ∃ (E : XK) (t : TS) (T : TDS), PSs (cxOf CX0 P w K mg base N "law" (defScope st) f cdv callerA [] s H (fun _ _ _ => False)).nox (defBody st) (tSeq (tAsg (tCall (spState K) [] E (tCons (tVar 0) tNil)) (gName 1)) t) ∧ SSt K (fun _ _ _ _ => False) (fun _ _ _ => False) t T ∧
        ∀ (sa : Addr) (M : Mem), M sa = some (.src true) → T (endD fun x _ => x = .d (.bool true)) (put (start0 N.length [.o (.ref a)]) 1 (some (.r sa))) M) :
    codeAny (model P w) callerA (.call (.ref f) ⟨[.ref a], []⟩) (CR CX0 [] P w H s (fun v _ => v = V.bl true) fun _ _ _ => False) s := by
  have KX : K.In s.heap := e0.mod.kin.keeps fun b o q => (e0.bs b o q).1
  refine run_at (k := k) (vs := [V.ref a]) (us := [Value.ref a]) F S hk e0 (hbi s [.ref a] KX rfl) (.cons rfl .nil) rfl (fun cdv hr => ?_)
  obtain ⟨E, t, T, h1, h2, h3⟩ := hb cdv rfl hr
  refine ⟨_, h1, ?_⟩
  have hst : L2.start N [V.ref a] = some (V.ref a) :: List.replicate (N.length - 1) none := rfl
  refine ⟨V.ref a, by rw [hst]; rfl, ?_⟩
  refine ⟨a, ns, rfl, hS, fun sa c cs z H' e hsa hc n q1 q2 l0 l1 z0 z1 => ?_⟩
  obtain ⟨F1, M1, r1, hM⟩ := src_new (K := K) n q1 q2 l0 l1 z0 z1
  refine h2 F1 H' M1 _ _ _ _ r1 (fun F' H' M' σ ρ cls d x _ _ _ _ z => z) ?_ (h3 sa M1 hM) ?_
  · exact (rel_start (N := N) (K := K) (F := F1) (.cons (.o (V.ref a)) .nil)).set (.r sa) 1
  · exact ek_def (Q := fun v _ => v = V.bl true) fun v H2 F2 M2 x r g rx q => by
      subst q
      exact rx.bl
end
end Tl

set_option Elab.async false
set_option linter.all false
set_option maxRecDepth 100000
set_option maxHeartbeats 8000000
namespace Tl
open PySem L2 RZ
/-- a number below m from the source at st -/
def tfNext (b : Bool) : TF := fun ws M R _ => g2 ws fun x y => gR x fun st => gI y fun m => (M st = some (.src b) ∧ 1 ≤ m ∧ m ≤ 100000) ∧ ∀ r : Int, 0 ≤ r → r < m → R (.d (.int r)) M
theorem fm_pos (x : Int) {m : Int} (h : 0 < m) : 0 ≤ x.fmod m ∧ x.fmod m < m := ⟨Int.fmod_nonneg_of_pos x h, Int.fmod_lt_of_pos x h⟩
theorem fd_pos {x m : Int} (hx : 0 ≤ x) (h : 0 < m) : 0 ≤ x.fdiv m := by
  rw [Int.fdiv_eq_ediv_of_nonneg _ (Int.le_of_lt h)]
  exact Int.ediv_nonneg hx (Int.le_of_lt h)
theorem cut63 (ns : List Int) : cutV (ns.map V.int) none (some 63) = (ns.take 63).map V.int := by
  unfold cutV
  rw [HT.sIx_none, show HT.sIx (ns.map V.int).length (ns.map V.int).length (some 63) = min 63 (ns.map V.int).length from HT.sIx_nat (ns.map V.int).length (ns.map V.int).length 63, List.length_map]
  rw [Nat.sub_zero, List.drop_zero, List.map_take]
  by_cases h : 63 ≤ ns.length
  · rw [Nat.min_eq_left h]
  · rw [Nat.min_eq_right (by omega), List.take_of_length_le (by simp), List.take_of_length_le (by simp; omega)]
theorem at4 {c : Addr} {i p z : Int} : atI [V.ref c, .int i, .int p, .int z] 0 = some (.ref c) ∧ atI [V.ref c, .int i, .int p, .int z] 1 = some (.int i) ∧ atI [V.ref c, .int i, .int p, .int z] 2 = some (.int p) ∧ atI [V.ref c, .int i, .int p, .int z] 3 = some (.int z) :=
  ⟨atI_nat (j := 0) rfl, atI_nat (j := 1) rfl, atI_nat (j := 2) rfl, atI_nat (j := 3) rfl⟩
theorem nz29 : (2147483629 : Int) ≠ 0 := by decide
theorem nz47 : (2147483647 : Int) ≠ 0 := by decide
section
variable {P : Program} {w : World} {K : PySem.W.Frag} {mg : Str → Option Value} {base : Heap}
/-- the source as it stands, and how it goes on -/
theorem src_at {b : Bool} {F H : Hp} {M : Mem} {st : Addr} {R : W → Mem → Prop} {Q : VK} {m : Int} (hr : Rl K F H M) (hM : M st = some (.src b)) (hk : Kt K F H M R Q) (q : ∀ r : Int, 0 ≤ r → r < m → R (.d (.int r)) M) :
    ∃ (c : Addr) (cs : List Int) (i p z : Int), H st = some (.lst [.ref c, .int i, .int p, .int z]) ∧ SqL K H c (cs.map V.int) ∧ (∀ o, SqL K (upd H st o) c (cs.map V.int)) ∧ cs.length ≤ 63 ∧ (b = true → 0 < cs.length) ∧ 0 ≤ i ∧ 0 ≤ p ∧ 0 ≤ z ∧ z < (if b = true then 2147483647 else 2305843009213693951) ∧
      ∀ r i' p' z' : Int, 0 ≤ r → r < m → 0 ≤ i' → 0 ≤ p' → 0 ≤ z' → z' < (if b = true then 2147483647 else 2305843009213693951) → Q (.int r) (upd H st (.lst [.ref c, .int i', .int p', .int z'])) := by
  obtain ⟨_, h1, _, rfl, c, cs, i, p, z, rfl, hc, hl, hl0, hi, hp, hz0, hz1⟩ := hr.at_ st _ hM
  refine ⟨c, cs, i, p, z, h1, same_l hr.fh hc, fun o => same_l (same_mut hr.fh (hr.mf _ _ hM)) hc, hl, hl0, hi, hp, hz0, hz1, fun r i' p' z' g1 g2 g3 g4 g5 g6 => ?_⟩
  obtain ⟨r2, g⟩ := hr.put (u := .lst [.ref c, .int i', .int p', .int z']) (o := .src b) hM ⟨_, rfl, c, cs, i', p', z', rfl, hc, hl, hl0, g3, g4, g5, g6⟩
  rw [mset_id hM] at r2 g
  exact hk _ _ _ _ _ r2 g (.d (.int _)) (q r g1 g2)
abbrev sNext : Stmt := top 30
theorem scNext : FnScope ["_law_state_here", "_law_below", "_law_cells", "_law_cell", "_law_found"] ["_law_state_here", "_law_below"] (defScope sNext) := ⟨rfl, rfl, rfl, by decide +kernel, rfl, by decide +kernel, by decide +kernel⟩
theorem ok_next {f : Addr} {fd : FuncData} {k : Nat} (F : Fun K "_law_next" "_law_next" sNext f fd) (T : Bl mg) : FnOk P w K mg base CX0 (k + 1) f fd ["_law_state_here", "_law_below"] (spD K 2 (tfNext true)) := by
  refine F.ok scNext (fun vs H Q E h => ?_) (fun cdv A outer s H vs Q E hr h => ?_)
  · obtain ⟨F0, M, ws, R, RX, r, rs, hl, _⟩ := h
    rw [rs.len, hl]
    rfl
  obtain ⟨F0, M, ws, R, RX, hr0, rs, _, hf, hk, _⟩ := h
  obtain ⟨x0, y0, rfl, hf1⟩ := g2_of hf
  obtain ⟨st, rfl, hf2⟩ := gR_of hf1
  obtain ⟨m, rfl, ⟨hM, hm0, hm1⟩, q0⟩ := gI_of hf2
  obtain ⟨v1, v2, rfl, e1, e2⟩ := rs.two
  obtain rfl := e1.ref
  obtain rfl := e2.int
  obtain ⟨c, cs, i, p, z, h1, h2, h3, hl, hl0, hi, hp, hz0, hz1, q⟩ := src_at hr0 hM hk q0
  have hl0 := hl0 rfl
  rw [if_pos rfl] at hz1
  simp only [if_true] at q
  refine ⟨_, (pss_cons (ps_if (pt_cmpR op_gt (pe_ix ix_list (pv 0) pe_int (fun _ _ => rfl)) pe_int (nomark _)) (pss_cons (ps_set (i := 4) scNext.nd rfl (.inl rfl) (pe_op op_modN (pe_ix ix_list (pv 0) pe_int (fun _ _ => rfl)) (pv 1)))
      (pss_cons (ps_asg (pe_op op_fdivN (pe_ix ix_list (pv 0) pe_int (fun _ _ => rfl)) (pv 1)) (pg_sub (pv 0) pe_int set_list))
      (pss_one (ps_ret (pv 4))))) pss_nil)
    (pss_cons (ps_set (i := 2) scNext.nd rfl (.inl rfl) (pe_ix ix_list (pv 0) pe_int (fun _ _ => rfl)))
    (pss_cons (ps_set (i := 3) scNext.nd rfl (.inl rfl) (pe_ix ix_list (pv 2) (pe_op op_modN (pe_ix ix_list (pv 0) pe_int (fun _ _ => rfl)) (pe_callB call_len_seq (by rfl) T.len PySem.boot_len (pa_cons (pv 2) pa_nil))) (fun _ _ => rfl)))
    (pss_cons (ps_asg (pe_op op_add (pe_ix ix_list (pv 0) pe_int (fun _ _ => rfl)) pe_int) (pg_sub (pv 0) pe_int set_list))
    (pss_cons (ps_if (PW.pt (pw_and (pt_cmpR op_ge (pv 3) (pe_op op_pow pe_int pe_int) (nomark _)) (pw_and1 (pt_cmpR op_le (pe_ix ix_list (pv 0) pe_int (fun _ _ => rfl)) (pe_callB call_len_seq (by rfl) T.len PySem.boot_len (pa_cons (pv 2) pa_nil)) (nomark _))))) (pss_cons (ps_asg (pe_op op_fdivN (pv 3) (pv 1)) (pg_sub (pv 0) pe_int set_list))
      (pss_one (ps_ret (pe_op op_modN (pv 3) (pv 1))))) pss_nil)
    (pss_cons (ps_asg (pe_op op_modN (pe_op op_add (pe_op op_add (pe_op op_mul (pe_ix ix_list (pv 0) pe_int (fun _ _ => rfl)) pe_int) (pe_op op_modN (pv 3) pe_int)) (pe_op op_mul pe_int (pe_ix ix_list (pv 0) pe_int (fun _ _ => rfl)))) pe_int) (pg_sub (pv 0) pe_int set_list))
    (pss_one (ps_ret (pe_op op_modN (pe_op op_fdivN (pe_op op_modN (pe_op op_mul (pe_ix ix_list (pv 0) pe_int (fun _ _ => rfl)) pe_int) pe_int) pe_int) (pv 1)))))))))), ?_⟩
  have hm30 : m ≠ 0 ∧ m.natAbs < 1073741824 := ⟨by omega, by omega⟩
  refine ⟨_, rfl, st, _, 2, _, rfl, rfl, SqL.of h1, at4.2.2.1, p, 0, rfl, rfl, _, rfl, ?_⟩
  refine iteD (fun cc => ?_) (fun cc => ?_)
  · refine ⟨_, rfl, st, _, 2, _, rfl, rfl, SqL.of h1, at4.2.2.1, _, rfl, p, m, rfl, rfl, hm30.1, ?_⟩
    refine ⟨_, rfl, st, _, 2, _, rfl, rfl, SqL.of h1, at4.2.2.1, _, rfl, p, m, rfl, rfl, hm30, ?_⟩
    refine ⟨_, rfl, st, _, 2, 2, rfl, rfl, h1, rfl, ?_⟩
    refine ⟨_, rfl, ?_⟩
    exact q _ _ _ _ (fm_pos p (by omega)).1 (fm_pos p (by omega)).2 hi (fd_pos hp (by omega)) hz0 hz1
  · refine ⟨_, rfl, st, _, 0, _, rfl, rfl, SqL.of h1, at4.1, ?_⟩
    have hlen : (cs.map V.int).length = cs.length := List.length_map _
    have hf := fm_pos i (m := ((cs.map V.int).length : Nat)) (by rw [hlen]; omega)
    obtain ⟨j, ej⟩ : ∃ j : Nat, i.fmod ((cs.map V.int).length : Nat) = (j : Int) := ⟨(i.fmod ((cs.map V.int).length : Nat)).toNat, by omega⟩
    have hj : j < cs.length := by rw [hlen] at hf; rw [hlen] at ej; omega
    have hat : atI (cs.map V.int) (i.fmod ((cs.map V.int).length : Nat)) = some (.int cs[j]) := by
      rw [ej]
      exact atI_nat (by rw [List.getElem?_map, List.getElem?_eq_getElem hj]; rfl)
    generalize cs[j] = x at hat
    refine ⟨_, rfl, _, rfl, st, _, 1, _, rfl, rfl, SqL.of h1, at4.2.1, _, rfl, c, _, rfl, .inl h2, i, _, rfl, rfl, by rw [hlen]; omega, c, _, _, _, rfl, rfl, h2, hat, ?_⟩
    refine ⟨_, rfl, st, _, 1, _, rfl, rfl, SqL.of h1, at4.2.1, i, 1, rfl, rfl, _, rfl, st, _, 1, 1, rfl, rfl, h1, rfl, ?_⟩
    have h1' : (upd H st (.lst [V.ref c, .int (i + 1), .int p, .int z])) st = some (.lst [V.ref c, .int (i + 1), .int p, .int z]) := upd_same
    have h2' := h3 (.lst [V.ref c, .int (i + 1), .int p, .int z])
    have fin2 : ∀ (r p' z' : Int), 0 ≤ r → r < m → 0 ≤ p' → 0 ≤ z' → z' < 2147483647 → Q (.int r) (upd (upd H st (.lst [V.ref c, .int (i + 1), .int p, .int z])) st (.lst [V.ref c, .int (i + 1), .int p', .int z'])) := fun r p' z' g1 g2 g3 g4 g5 => by
      rw [upd_upd]
      exact q _ _ _ _ g1 g2 (by omega) g3 g4 g5
    refine ⟨_, rfl, 10, 18, rfl, rfl, ⟨by decide, by decide, by decide⟩, x, _, rfl, rfl, _, rfl, ?_⟩
    have tail : ∀ _ : Unit, _ := fun _ => True.intro
    refine iteD (fun c1 => ?_) (fun c1 => ?_)
    · refine ⟨_, rfl, st, _, 1, _, rfl, rfl, SqL.of h1', at4.2.1, _, rfl, c, _, rfl, .inl h2', _, _, rfl, rfl, _, rfl, ?_⟩
      refine iteD (fun c2 => ?_) (fun c2 => ?_)
      · refine ⟨_, rfl, _, rfl, x, m, rfl, rfl, hm30, _, rfl, st, _, 2, 2, rfl, rfl, h1', rfl, ?_⟩
        refine ⟨_, rfl, _, rfl, x, m, rfl, rfl, hm30.1, ?_⟩
        exact fin2 _ _ _ (fm_pos x (by omega)).1 (fm_pos x (by omega)).2 (fd_pos (Int.le_trans (by decide) c1) (by omega)) hz0 hz1
      · skip
        refine ⟨_, rfl, st, _, 3, _, rfl, rfl, SqL.of h1', at4.2.2.2, z, 48271, rfl, rfl, .inl ⟨by omega, by omega⟩, _, rfl, x, 2147483629, rfl, rfl, nz29, _, _, rfl, rfl, _, rfl, st, _, 1, _, rfl, rfl, SqL.of h1', at4.2.1, 7, _, rfl, rfl, .inl ⟨by decide, by decide⟩, _, _, rfl, rfl, _, 2147483647, rfl, rfl, nz47, _, rfl, st, _, 3, 3, rfl, rfl, h1', rfl, ?_⟩
        have hb := fm_pos (z * 48271 + x.fmod 2147483629 + 7 * (i + 1)) (m := 2147483647) (by decide)
        refine ⟨_, rfl, st, _, 3, _, rfl, rfl, SqL.of upd_same, at4.2.2.2, _, 69621, rfl, rfl, .inl ⟨by omega, by omega⟩, _, 2147483629, rfl, rfl, nz29, _, 64, rfl, rfl, ⟨by decide, by decide⟩, _, rfl, _, m, rfl, rfl, hm30.1, ?_⟩
        exact fin2 _ _ _ (fm_pos _ (by omega)).1 (fm_pos _ (by omega)).2 hp hb.1 hb.2
    · skip
      refine ⟨_, rfl, st, _, 3, _, rfl, rfl, SqL.of h1', at4.2.2.2, z, 48271, rfl, rfl, .inl ⟨by omega, by omega⟩, _, rfl, x, 2147483629, rfl, rfl, nz29, _, _, rfl, rfl, _, rfl, st, _, 1, _, rfl, rfl, SqL.of h1', at4.2.1, 7, _, rfl, rfl, .inl ⟨by decide, by decide⟩, _, _, rfl, rfl, _, 2147483647, rfl, rfl, nz47, _, rfl, st, _, 3, 3, rfl, rfl, h1', rfl, ?_⟩
      have hb := fm_pos (z * 48271 + x.fmod 2147483629 + 7 * (i + 1)) (m := 2147483647) (by decide)
      refine ⟨_, rfl, st, _, 3, _, rfl, rfl, SqL.of upd_same, at4.2.2.2, _, 69621, rfl, rfl, .inl ⟨by omega, by omega⟩, _, 2147483629, rfl, rfl, nz29, _, 64, rfl, rfl, ⟨by decide, by decide⟩, _, rfl, _, m, rfl, rfl, hm30.1, ?_⟩
      exact fin2 _ _ _ (fm_pos _ (by omega)).1 (fm_pos _ (by omega)).2 hp hb.1 hb.2
abbrev sState : Stmt := top 29
theorem scState : FnScope ["_law_script", "_law_cells"] ["_law_script"] (defScope sState) := ⟨rfl, rfl, rfl, by decide +kernel, rfl, by decide +kernel, by decide +kernel⟩
theorem ok_state {f : Addr} {fd : FuncData} {k : Nat} (F : Fun K "_law_state" "_law_state" sState f fd) (T : Bl mg) : FnOk P w K mg base CX0 (k + 1) f fd ["_law_script"] (spState K) := by
  refine F.ok scState (fun vs H Q E h => ?_) (fun cdv A outer s H vs Q E hr h => ?_)
  · obtain ⟨a, ns, rfl, _⟩ := h
    rfl
  obtain ⟨a, ns, rfl, hS, q⟩ := h
  refine ⟨_, (pss_cons (ps_set (i := 1) scState.nd rfl (.inl rfl) (pe_callTy call_list_of (by rfl) T.list PyProof.Rows.boot_list (pa_cons (pe_slice sl_list (pv 0) po_none (po_some pe_int)) pa_nil)))
    (pss_cons (ps_if (pt_cmpR op_eq (pe_callB call_len_seq (by rfl) T.len PySem.boot_len (pa_cons (pv 1) pa_nil)) pe_int (nomark _)) (pss_one (ps_set (i := 1) scState.nd rfl (.inl rfl) (pe_lst (pa_cons pe_int pa_nil)))) pss_nil)
    (pss_one (ps_ret (pe_lst (pa_cons (pv 1) (pa_cons pe_int (pa_cons pe_int (pa_cons pe_int pa_nil))))))))), ?_⟩
  refine ⟨_, rfl, 63, rfl, a, _, rfl, hS, fun p hp => ?_⟩
  have e1 : Same H (upd H p (.lst (cutV (ns.map V.int) none (some 63)))) := same_new hp
  refine ⟨p, _, rfl, .inl (SqL.of upd_same), fun l hl => ?_⟩
  rw [cut63]
  rw [cut63] at hl e1
  generalize hcs : ns.take 63 = cs at hl e1 ⊢
  have hc63 : cs.length ≤ 63 := by rw [← hcs, List.length_take]; omega
  generalize upd H p (.lst (cs.map V.int)) = H1 at hl e1 ⊢
  have e2 : Same H (upd H1 l (.lst (cs.map V.int))) := e1.trans (same_new hl)
  have hl0 := e1.free hl
  refine ⟨_, rfl, l, _, rfl, .inl (SqL.of upd_same), rfl, _, rfl, ?_⟩
  refine iteD (fun c => ?_) (fun c => ?_)
  · refine ⟨by show 1 ≤ sizeLine; decide, fun p2 hp2 => ?_⟩
    refine ⟨_, rfl, by show 4 ≤ sizeLine; decide, fun p3 hp3 => ?_⟩
    have n23 : p2 ≠ p3 := ne_of_none upd_same hp3
    refine q p3 p2 [0] 91 _ ((e2.trans (same_new hp2)).trans (same_new hp3)) ((e2.trans (same_new hp2)).free hp3) (e2.free hp2) n23 upd_same ?_ (by decide) (by decide) (by decide) (by decide)
    rw [upd_ne n23]
    exact upd_same
  · refine ⟨_, rfl, by show 4 ≤ sizeLine; decide, fun p3 hp3 => ?_⟩
    have n23 : l ≠ p3 := ne_of_none upd_same hp3
    refine q p3 l cs 91 _ (e2.trans (same_new hp3)) (e2.free hp3) hl0 n23 upd_same ?_ ?_ hc63 (by decide) (by decide)
    · rw [upd_ne n23]
      exact upd_same
    · rcases Nat.eq_zero_or_pos cs.length with z | z
      · exact absurd (show V.int ((cs.map V.int).length : Nat) = V.int 0 by rw [List.length_map, z]; rfl) c
      · exact z
end
end Tl

set_option Elab.async false
set_option linter.all false
set_option maxRecDepth 100000
set_option maxHeartbeats 8000000
namespace Tl
open PySem L2 RZ
/-- a tree of at most so many places -/
def tfTreeL (b : Bool) : TF := fun ws M R _ => g2 ws fun x y => gR x fun st => gI y fun most => (M st = some (.src b) ∧ 1 ≤ most ∧ most ≤ 100) ∧ ∀ d, TrD 10 d → ((wt d : Nat) : Int) ≤ 98 * most → ((nn d : Nat) : Int) ≤ most → R (.d d) M
def nsW (es : List Nat) : List W := es.map fun (n : Nat) => W.d (.int (n : Int))
theorem nsW_get {es : List Nat} {j e : Nat} (h : es[j]? = some e) : atI (nsW es) (j : Int) = some (.d (.int (e : Int))) := atI_nat (by
  unfold nsW
  rw [List.getElem?_map, h]
  rfl)
theorem nsW_app (es : List Nat) (e : Nat) : nsW es ++ [.d (.int (e : Int))] = nsW (es ++ [e]) := by
  unfold nsW
  rw [List.map_append]
  rfl
theorem nsW_len (es : List Nat) : (nsW es).length = es.length := List.length_map _
section
variable {P : Program} {w : World} {K : PySem.W.Frag} {mg : Str → Option Value} {base : Heap}
abbrev sTreeL : Stmt := top 32
theorem scTreeL : FnScope ["_law_state_here", "_law_most", "_law_tags", "_law_many", "_law_slope", "_law_elders", "_law_levels", "_law_k", "_law_kids", "_law_elder"] ["_law_state_here", "_law_most"] (defScope sTreeL) := ⟨rfl, rfl, rfl, by decide +kernel, rfl, by decide +kernel, by decide +kernel⟩
theorem ok_treeL {f : Addr} {fd : FuncData} {k j : Nat} (F : Fun K "_law_tree" "_law_tree" sTreeL f fd) (U_law_next : Use P w K mg base "_law_next" ["_law_state_here", "_law_below"] j (spD K 2 (tfNext true))) (hj : j ≤ k) (T : Bl mg) : FnOk P w K mg base CX0 (k + 1) f fd ["_law_state_here", "_law_most"] (spD K 2 (tfTreeL true)) := by
  refine okDL F scTreeL rfl fun cdv A outer s H E hr => ?_
  refine ⟨_, _, (pss_cons (ps_set (i := 2) scTreeL.nd rfl (.inl rfl) (pe_lst (pa_cons pe_str (pa_cons pe_str (pa_cons pe_str (pa_cons pe_str (pa_cons pe_str pa_nil)))))))
    (pss_cons (ps_set (i := 3) scTreeL.nd rfl (.inl rfl) (pe_op op_add pe_int (pe_call U_law_next.ok (hr.mono (by omega)) rfl U_law_next.m U_law_next.kp U_law_next.b .nil pass0 (pa_cons (pv 0) (pa_cons (pv 1) pa_nil)))))
    (pss_cons (ps_set (i := 4) scTreeL.nd rfl (.inl rfl) (pe_call U_law_next.ok (hr.mono (by omega)) rfl U_law_next.m U_law_next.kp U_law_next.b .nil pass0 (pa_cons (pv 0) (pa_cons pe_int pa_nil))))
    (pss_cons (ps_set (i := 5) scTreeL.nd rfl (.inl rfl) (pe_lst (pa_cons pe_int pa_nil)))
    (pss_cons (ps_set (i := 6) scTreeL.nd rfl (.inl rfl) (pe_lst (pa_cons pe_int pa_nil)))
    (pss_cons (ps_for PassesOwn.never rfl (pi_range2 (by rfl) T.range (pa_cons pe_int (pa_cons (pv 3) pa_nil))) (pg_name (i := 7) scTreeL.nd rfl (.inl rfl)) (pss_cons (ps_set (i := 9) scTreeL.nd rfl (.inl rfl) (pe_ix ix_list (pe_lst (pa_cons (pe_call U_law_next.ok (hr.mono (by omega)) rfl U_law_next.m U_law_next.kp U_law_next.b .nil pass0 (pa_cons (pv 0) (pa_cons (pv 7) pa_nil))) (pa_cons (pe_op op_sub (pv 7) pe_int) (pa_cons (pe_callB (call_max2 rfl) (by rfl) T.max PyProof.Rows.boot_max (pa_cons pe_int (pa_cons (pe_op op_sub (pe_op op_sub (pv 7) pe_int) (pe_call U_law_next.ok (hr.mono (by omega)) rfl U_law_next.m U_law_next.kp U_law_next.b .nil pass0 (pa_cons (pv 0) (pa_cons pe_int pa_nil)))) pa_nil))) pa_nil)))) (pv 4) (fun _ _ => rfl)))
      (pss_cons (ps_if (pt_cmpR op_gt (pe_ix ix_list (pv 6) (pv 9) (fun _ _ => rfl)) pe_int (nomark _)) (pss_one (ps_set (i := 9) scTreeL.nd rfl (.inl rfl) pe_int)) pss_nil)
      (pss_cons (ps_expr (pe_bm PySem.F.plainAttrs_list PySem.F.slot_list_append PySem.F.type_list_append mt_append (pv 5) (pa_cons (pv 9) pa_nil)))
      (pss_one (ps_expr (pe_bm PySem.F.plainAttrs_list PySem.F.slot_list_append PySem.F.type_list_append mt_append (pv 6) (pa_cons (pe_op op_add (pe_ix ix_list (pv 6) (pv 9) (fun _ _ => rfl)) pe_int) pa_nil))))))))
    (pss_cons (ps_setLc (i := 8) (own := [("_law_k", 7)]) (g := gName 7) (tt := tYes) (by rfl) scTreeL.nd rfl rfl (sw_true rfl rfl rfl (by decide +kernel)) (pi_range1 (by rfl) T.range (pa_cons (pv 3) pa_nil)) (blkOk_by (N := ["_law_state_here", "_law_most", "_law_tags", "_law_many", "_law_slope", "_law_elders", "_law_levels", "_law_k", "_law_kids", "_law_elder"]) (sc := defScope sTreeL) (own := [("_law_k", 7)]) (by decide +kernel)) (fun _ _ _ _ _ => pg_name (i := 7) scTreeL.nd rfl (Or.inl rfl)) (fun _ _ _ _ _ => pts_nil) (fun _ _ _ _ _ => (pe_lst pa_nil)))
    (pss_cons (ps_for PassesOwn.never rfl (pi_range3 (by rfl) T.range (pa_cons (pe_op op_sub (pv 3) pe_int) (pa_cons pe_int (pa_cons (pe_un un_neg pe_int) pa_nil)))) (pg_name (i := 7) scTreeL.nd rfl (.inl rfl)) (pss_one (ps_expr (pe_bm PySem.F.plainAttrs_list PySem.F.slot_list_append PySem.F.type_list_append mt_append (pe_ix ix_list (pv 8) (pe_ix ix_list (pv 5) (pv 7) (fun _ _ => rfl)) (fun _ _ => rfl)) (pa_cons (pe_tup (pa_cons (pe_ix ix_list (pv 2) (pe_call U_law_next.ok (hr.mono (by omega)) rfl U_law_next.m U_law_next.kp U_law_next.b .nil pass0 (pa_cons (pv 0) (pa_cons pe_int pa_nil))) (fun _ _ => rfl)) (pa_cons (pe_callTy call_tuple_of (by rfl) T.tuple PyProof.Rows.boot_tuple (pa_cons (pe_revL (pe_ix ix_list (pv 8) (pv 7) (fun _ _ => rfl))) pa_nil)) pa_nil))) pa_nil)))))
    (pss_one (ps_ret (pe_tup (pa_cons (pe_ix ix_list (pv 2) (pe_call U_law_next.ok (hr.mono (by omega)) rfl U_law_next.m U_law_next.kp U_law_next.b .nil pass0 (pa_cons (pv 0) (pa_cons pe_int pa_nil))) (fun _ _ => rfl)) (pa_cons (pe_callTy call_tuple_of (by rfl) T.tuple PyProof.Rows.boot_tuple (pa_cons (pe_revL (pe_ix ix_list (pv 8) pe_int (fun _ _ => rfl))) pa_nil)) pa_nil))))))))))))),
    (ss_cons (ss_set (se_lsf (sa_cons se_str (sa_cons se_str (sa_cons se_str (sa_cons se_str (sa_cons se_str sa_nil)))))))
    (ss_cons (ss_set (se_op so_add se_int (se_call (sa_cons se_nm (sa_cons se_nm sa_nil)))))
    (ss_cons (ss_set (se_call (sa_cons se_nm (sa_cons se_int sa_nil))))
    (ss_cons (ss_set (se_lst (sa_cons se_int sa_nil)))
    (ss_cons (ss_set (se_lst (sa_cons se_int sa_nil)))
    (ss_cons (ss_for (si_r2 (sa_cons se_int (sa_cons se_nm sa_nil))) sg_name (ss_cons (ss_set (se_op so_ixL (se_lsf (sa_cons (se_call (sa_cons se_nm (sa_cons se_nm sa_nil))) (sa_cons (se_op so_sub se_nm se_int) (sa_cons (se_cb sc_max2 (sa_cons se_int (sa_cons (se_op so_sub (se_op so_sub se_nm se_int) (se_call (sa_cons se_nm (sa_cons se_int sa_nil)))) sa_nil))) sa_nil)))) se_nm))
      (ss_cons (ss_if (st_test (se_op so_gt (se_op so_ixL se_nm se_nm) se_int)) (ss_set se_int) ss_nil)
      (ss_cons (ss_drop (se_bmL sm_append se_nm (sa_cons se_nm sa_nil)))
      (ss_drop (se_bmL sm_append se_nm (sa_cons (se_op so_add (se_op so_ixL se_nm se_nm) se_int) sa_nil)))))))
    (ss_cons (ss_set (se_lcL (si_r1 (sa_cons se_nm sa_nil)) sg_name st_yes (se_lst sa_nil)))
    (ss_cons (ss_for (si_r3 (sa_cons (se_op so_sub se_nm se_int) (sa_cons se_int (sa_cons (se_un su_neg se_int) sa_nil)))) sg_name (ss_drop (se_bmL sm_append (se_op so_ixL se_nm (se_op so_ixL se_nm se_nm)) (sa_cons (se_tup (sa_cons (se_op so_ixL se_nm (se_call (sa_cons se_nm (sa_cons se_int sa_nil)))) (sa_cons (se_cb sc_tuple (sa_cons (se_rvF (se_op so_ixL se_nm se_nm)) sa_nil)) sa_nil))) sa_nil))))
    (ss_ret (se_tup (sa_cons (se_op so_ixL se_nm (se_call (sa_cons se_nm (sa_cons se_int sa_nil)))) (sa_cons (se_cb sc_tuple (sa_cons (se_rvF (se_op so_ixL se_nm se_int)) sa_nil)) sa_nil)))))))))))), fun ws M R RX hl h => ?_⟩
  obtain ⟨x0, y0, rfl, hf1⟩ := g2_of h
  obtain ⟨st, rfl, hf2⟩ := gR_of hf1
  obtain ⟨most, rfl, ⟨hM, hm1, hm2⟩, h3⟩ := gI_of hf2
  clear hf1 hf2 h hl
  simp only [whileS, seqS, setS, retS, retN, dropS, ifS, nextS, unpS, setIx, forS, raiseS, breakS, contS, nmT, cT, opT, unT, tbT, andT, orT, notT, andV, orV, notV, ifT, chT, nilA, consA, tupT, lsfT, lstT, slT, noP, someP, rvF, rvT, cbT, callT, callX, frT, itTup, itLst, itStr, itR1, itR2, itEnT, itEnL, slot, put, hide, start0, g1, g2, gI, gS, gB, gT, gL, gD, gR, gW, gDs, gDs_map, gBs, gIs, gSs, gO, gRow, asD, fI, fIc, fAdd, fSub, fMul, fMod, fDiv, fPow, fLt, fLe, fGt, fGe, fNeg, fS, fAddS, fLeS, fRepS, fInS, isN, fIsN, fEqD, eqS, fEqS, fIxT, fIxL, fIxS, fSlT, fSlF, fSlL, fSlS, fCatT, fCatF, fCatL, fRepT, fLen, fLenS, fAll, fSum, fMax, fMax2, fTuple, fListF, fListL, fInt, fIsi, tyIs, bName, bPair, bTup2, fAppend, fExtend, yesT, bmL, lcF, lcL, itR3, itZip, augI, fMin2, ckT, fMaxD, joinT, fInQ, fRepr, fInsert, fPopAt, fExtT, tryA, tryB, tryO, clsW, keptX, fIsK, gCs, isKT, kfT, heldX, fIsS, isST, xfT, PySem.W.kitAny, List.map_cons, List.map_nil, List.cons_append, List.nil_append, List.length_cons, List.length_nil, List.replicate, String.reduceEq, if_true, if_false, Bool.false_eq_true, Bool.not_true, Bool.not_false, true_and, and_true, any1, tfNext, itR3, fMax2]
  refine ⟨⟨hM, hm1, by omega⟩, fun m0 hm00 hm01 => ⟨⟨hM, by decide, by decide⟩, fun slope hs0 hs1 el hel lv hlv => ?_⟩⟩
  obtain ⟨mn, hmn⟩ : ∃ mn : Nat, 1 + m0 = ((mn + 1 : Nat) : Int) := ⟨m0.toNat, by omega⟩
  have hmn2 : mn + 1 ≤ 100 := by omega
  have nll : lv ≠ el := fun z => by rw [z, mset_same] at hlv; cases hlv
  rw [mset_ne nll] at hlv
  have sel : st ≠ el := fun z => by rw [z, hel] at hM; cases hM
  have slv : st ≠ lv := fun z => by rw [z, hlv] at hM; cases hM
  refine ⟨⟨sm_of (by omega) (by omega), sm_of (by omega) (by omega)⟩, ?_⟩
  refine forR (fun i ρ M' => ∃ (es ls : List Nat) (y7 y9 : Option W), ρ = [some (.r st), some (.d (.int most)), some (.d (.list [.str "a", .str "b", .str "ab", .str "zz", .str "abcdefgh"])), some (.d (.int (1 + m0))), some (.d (.int slope)), some (.r el), some (.r lv), y7, none, y9] ∧ M' = mset (mset M el (.lst (nsW es))) lv (.lst (nsW ls)) ∧ es.length = i + 1 ∧ ls.length = i + 1 ∧ RelEL es ls)
    ⟨[0], [1], none, none, rfl, rfl, rfl, rfl, RelEL.one⟩ (fun _ _ _ _ _ => trivial) (fun i ρ M' N hi p hN => ?_) (fun ρ M' p => ?_)
  · obtain ⟨es, ls, y7, y9, rfl, rfl, le, ll, Rl⟩ := p
    have eM : mset (mset M el (.lst (nsW es))) lv (.lst (nsW ls)) st = some (.src true) := by rw [mset_ne slv, mset_ne sel]; exact hM
    simp only [whileS, seqS, setS, retS, retN, dropS, ifS, nextS, unpS, setIx, forS, raiseS, breakS, contS, nmT, cT, opT, unT, tbT, andT, orT, notT, andV, orV, notV, ifT, chT, nilA, consA, tupT, lsfT, lstT, slT, noP, someP, rvF, rvT, cbT, callT, callX, frT, itTup, itLst, itStr, itR1, itR2, itEnT, itEnL, slot, put, hide, start0, g1, g2, gI, gS, gB, gT, gL, gD, gR, gW, gDs, gDs_map, gBs, gIs, gSs, gO, gRow, asD, fI, fIc, fAdd, fSub, fMul, fMod, fDiv, fPow, fLt, fLe, fGt, fGe, fNeg, fS, fAddS, fLeS, fRepS, fInS, isN, fIsN, fEqD, eqS, fEqS, fIxT, fIxL, fIxS, fSlT, fSlF, fSlL, fSlS, fCatT, fCatF, fCatL, fRepT, fLen, fLenS, fAll, fSum, fMax, fMax2, fTuple, fListF, fListL, fInt, fIsi, tyIs, bName, bPair, bTup2, fAppend, fExtend, yesT, bmL, lcF, lcL, itR3, itZip, augI, fMin2, ckT, fMaxD, joinT, fInQ, fRepr, fInsert, fPopAt, fExtT, tryA, tryB, tryO, clsW, keptX, fIsK, gCs, isKT, kfT, heldX, fIsS, isST, xfT, PySem.W.kitAny, List.map_cons, List.map_nil, List.cons_append, List.nil_append, List.length_cons, List.length_nil, List.replicate, String.reduceEq, if_true, if_false, Bool.false_eq_true, Bool.not_true, Bool.not_false, true_and, and_true, any1, tfNext, fMax2]
    refine ⟨⟨eM, by omega, by omega⟩, fun a1 ha10 ha11 => ⟨⟨eM, by decide, by decide⟩, fun a2 ha20 ha21 => ?_⟩⟩
    obtain ⟨e, hei, hat⟩ : ∃ e : Nat, e ≤ i ∧ atI [W.d (.int a1), W.d (.int (1 + (i : Int) - 1)), W.d (.int (if 1 + (i : Int) - 1 - a2 > 0 then 1 + (i : Int) - 1 - a2 else 0))] slope = some (.d (.int (e : Int))) := by
      rcases (show slope = 0 ∨ slope = 1 ∨ slope = 2 by omega) with rfl | rfl | rfl
      · exact ⟨a1.toNat, by omega, by rw [show ((a1.toNat : Nat) : Int) = a1 by omega]; exact atI_nat (j := 0) rfl⟩
      · exact ⟨i, Nat.le_refl _, (atI_nat (j := 1) rfl).trans (congrArg (fun z => some (W.d (.int z))) (by omega))⟩
      · by_cases c : 1 + (i : Int) - 1 - a2 > 0
        · exact ⟨(1 + (i : Int) - 1 - a2).toNat, by omega, by rw [if_pos c, show (((1 + (i : Int) - 1 - a2).toNat : Nat) : Int) = 1 + (i : Int) - 1 - a2 by omega]; exact atI_nat (j := 2) rfl⟩
        · exact ⟨0, by omega, by rw [if_neg c]; exact atI_nat (j := 2) rfl⟩
    rw [hat]
    obtain ⟨l, hl⟩ : ∃ l, ls[e]? = some l := ⟨ls[e]'(by omega), List.getElem?_eq_getElem _⟩
    have hl10 := Rl.lev e l hl
    have m1 : ∀ {x y : MO}, mset (mset M el x) lv y el = some x := fun {x y} => by rw [mset_ne (Ne.symm nll)]; exact mset_same
    have m2 : ∀ {x y z : MO}, mset (mset (mset M el x) lv y) el z = mset (mset M el z) lv y := fun {x y z} => by
      funext b
      by_cases h1 : b = el
      · subst h1
        rw [mset_same, m1]
      · rw [mset_ne h1]
        by_cases h2 : b = lv
        · subst h2
          rw [mset_same, mset_same]
        · rw [mset_ne h2, mset_ne h2, mset_ne h1, mset_ne h1]
    have lE : (nsW es).length < sizeLine := by rw [nsW_len]; exact small1000 (by omega)
    have lL : (nsW ls).length < sizeLine := by rw [nsW_len]; exact small1000 (by omega)
    have goal : ∀ e' l' : Nat, ls[e']? = some l' → l' ≤ 9 → N [some (.r st), some (.d (.int most)), some (.d (.list [.str "a", .str "b", .str "ab", .str "zz", .str "abcdefgh"])), some (.d (.int (1 + m0))), some (.d (.int slope)), some (.r el), some (.r lv), some (.d (.int (1 + (i : Int)))), none, some (.d (.int (e' : Int)))] (mset (mset M el (.lst (nsW es ++ [.d (.int (e' : Int))]))) lv (.lst (nsW ls ++ [.d (.int ((l' : Int) + 1))]))) := fun e' l' h1 h2 => by
      refine hN _ _ ⟨es ++ [e'], ls ++ [l' + 1], _, _, rfl, ?_, by rw [List.length_append, le]; rfl, by rw [List.length_append, ll]; rfl, Rl.app (by omega) h1 h2⟩
      rw [← nsW_app, ← nsW_app]
      rfl
    refine ⟨_, mset_same, ?_⟩
    simp only [whileS, seqS, setS, retS, retN, dropS, ifS, nextS, unpS, setIx, forS, raiseS, breakS, contS, nmT, cT, opT, unT, tbT, andT, orT, notT, andV, orV, notV, ifT, chT, nilA, consA, tupT, lsfT, lstT, slT, noP, someP, rvF, rvT, cbT, callT, callX, frT, itTup, itLst, itStr, itR1, itR2, itEnT, itEnL, slot, put, hide, start0, g1, g2, gI, gS, gB, gT, gL, gD, gR, gW, gDs, gDs_map, gBs, gIs, gSs, gO, gRow, asD, fI, fIc, fAdd, fSub, fMul, fMod, fDiv, fPow, fLt, fLe, fGt, fGe, fNeg, fS, fAddS, fLeS, fRepS, fInS, isN, fIsN, fEqD, eqS, fEqS, fIxT, fIxL, fIxS, fSlT, fSlF, fSlL, fSlS, fCatT, fCatF, fCatL, fRepT, fLen, fLenS, fAll, fSum, fMax, fMax2, fTuple, fListF, fListL, fInt, fIsi, tyIs, bName, bPair, bTup2, fAppend, fExtend, yesT, bmL, lcF, lcL, itR3, itZip, augI, fMin2, ckT, fMaxD, joinT, fInQ, fRepr, fInsert, fPopAt, fExtT, tryA, tryB, tryO, clsW, keptX, fIsK, gCs, isKT, kfT, heldX, fIsS, isST, xfT, PySem.W.kitAny, List.map_cons, List.map_nil, List.cons_append, List.nil_append, List.length_cons, List.length_nil, List.replicate, String.reduceEq, if_true, if_false, Bool.false_eq_true, Bool.not_true, Bool.not_false, true_and, and_true, any1, nsW_get hl]
    refine iteD (fun c => ?_) (fun c => ?_)
    · refine ⟨⟨_, m1⟩, _, m1, lE, ?_⟩
      rw [m2]
      refine ⟨⟨_, mset_same⟩, _, mset_same, ?_⟩
      rw [show atI (nsW ls) 0 = some (.d (.int ((1 : Nat) : Int))) from nsW_get (j := 0) Rl.first]
      refine ⟨_, mset_same, lL, ?_⟩
      rw [mset_mset]
      exact goal 0 1 Rl.first (by decide)
    · refine ⟨⟨_, m1⟩, _, m1, lE, ?_⟩
      rw [m2]
      refine ⟨⟨_, mset_same⟩, _, mset_same, ?_⟩
      rw [nsW_get hl]
      refine ⟨_, mset_same, lL, ?_⟩
      rw [mset_mset]
      exact goal e l hl (by omega)
  · obtain ⟨es, ls, y7, y9, rfl, rfl, le, ll, Rl⟩ := p
    have hn : (1 + m0 - 1).toNat = mn := by omega
    rw [hn] at le ll
    simp only [whileS, seqS, setS, retS, retN, dropS, ifS, nextS, unpS, setIx, forS, raiseS, breakS, contS, nmT, cT, opT, unT, tbT, andT, orT, notT, andV, orV, notV, ifT, chT, nilA, consA, tupT, lsfT, lstT, slT, noP, someP, rvF, rvT, cbT, callT, callX, frT, itTup, itLst, itStr, itR1, itR2, itEnT, itEnL, slot, put, hide, start0, g1, g2, gI, gS, gB, gT, gL, gD, gR, gW, gDs, gDs_map, gBs, gIs, gSs, gO, gRow, asD, fI, fIc, fAdd, fSub, fMul, fMod, fDiv, fPow, fLt, fLe, fGt, fGe, fNeg, fS, fAddS, fLeS, fRepS, fInS, isN, fIsN, fEqD, eqS, fEqS, fIxT, fIxL, fIxS, fSlT, fSlF, fSlL, fSlS, fCatT, fCatF, fCatL, fRepT, fLen, fLenS, fAll, fSum, fMax, fMax2, fTuple, fListF, fListL, fInt, fIsi, tyIs, bName, bPair, bTup2, fAppend, fExtend, yesT, bmL, lcF, lcL, itR3, itZip, augI, fMin2, ckT, fMaxD, joinT, fInQ, fRepr, fInsert, fPopAt, fExtT, tryA, tryB, tryO, clsW, keptX, fIsK, gCs, isKT, kfT, heldX, fIsS, isST, xfT, PySem.W.kitAny, List.map_cons, List.map_nil, List.cons_append, List.nil_append, List.length_cons, List.length_nil, List.replicate, String.reduceEq, if_true, if_false, Bool.false_eq_true, Bool.not_true, Bool.not_false, true_and, and_true, any1, tfNext, itR3]
    refine ⟨⟨by omega, by omega⟩, ?_⟩
    have sub1 : ∀ a o, M a = some o → mset (mset M el (.lst (nsW es))) lv (.lst (nsW ls)) a = some o := fun a o h => by
      rw [mset_ne (fun z => by rw [z, hlv] at h; cases h), mset_ne (fun z => by rw [z, hel] at h; cases h)]
      exact h
    have e1 : mset (mset M el (.lst (nsW es))) lv (.lst (nsW ls)) el = some (.lst (nsW es)) := by rw [mset_ne (Ne.symm nll)]; exact mset_same
    generalize mset (mset M el (.lst (nsW es))) lv (.lst (nsW ls)) = M1 at sub1 e1
    have hn1 : (rng 0 (1 + m0).toNat).length = mn + 1 := by unfold rng; rw [List.length_map, List.length_range]; omega
    refine lc_new (rng 0 (1 + m0).toNat) [] M1 M1 (by rw [hn1]; exact Nat.le_of_lt (small1000 (by simp; omega))) List.nodup_nil (fun a h => absurd h List.not_mem_nil) (fun b _ => rfl) (fun as M2 l1 l2 l3 l4 D hD => ?_)
    rw [hn1] at l1
    have l1' : as.length = mn + 1 := by rw [l1]; simp
    have nst : ∀ {b : Addr} {o : MO}, M1 b = some o → ¬ b ∈ as := fun h z => by rw [(l3 _ z).1] at h; cases h
    have DnA : ¬ D ∈ as := fun z => by rw [(l3 _ z).2] at hD; cases hD
    have DM1 : M1 D = none := by rw [← l4 D DnA]; exact hD
    have neD : ∀ {b : Addr} {o : MO}, M1 b = some o → b ≠ D := fun h z => by rw [z, DM1] at h; cases h
    refine ⟨_, RgC.neg (by omega) (by omega) (by omega) (by omega), ?_⟩
    have hn2 : (1 + m0 - 1 - 0).toNat = mn := by omega
    rw [hn2]
    have at3 : ∀ {b : Addr} {o : MO}, M1 b = some o → mset M2 D (.lst (as.map W.r)) b = some o := fun {b o} h => by
      rw [mset_ne (neD h), l4 b (nst h)]
      exact h
    refine forRC (fun i ρ M' => ∃ (tss : List (List PyData)) (z7 : Option W), ρ = [some (.r st), some (.d (.int most)), some (.d (.list [.str "a", .str "b", .str "ab", .str "zz", .str "abcdefgh"])), some (.d (.int (1 + m0))), some (.d (.int slope)), some (.r el), some (.r lv), z7, some (.r D), y9] ∧ (∀ b o, M1 b = some o → M' b = some o) ∧ M' D = some (.lst (as.map W.r)) ∧ (∀ (j : Nat) (a : Addr) (ts : List PyData), as[j]? = some a → tss[j]? = some ts → M' a = some (.lst (ts.map W.d))) ∧ tss.length = mn + 1 ∧ sw (mn + 1 - i) tss ≤ 98 * i ∧ sn (mn + 1 - i) tss ≤ i ∧ ∀ (j l : Nat) (ts : List PyData), tss[j]? = some ts → ls[j]? = some l → ∀ t ∈ ts, TrD (10 - l) t)
      ⟨List.replicate (mn + 1) [], y7, rfl, fun b o h => at3 h, mset_same, fun j a ts h1 h2 => ?_, List.length_replicate, by rw [sw_rep]; exact Nat.zero_le _, by rw [sn_rep]; exact Nat.zero_le _, fun j l ts h1 _ t ht => ?_⟩ (fun _ _ _ _ _ => trivial) (fun i ρ M' N hi p hN => ?_) (fun ρ M' p => ?_)
    · rw [(List.mem_replicate.mp (List.mem_of_getElem? h2)).2]
      have ha := List.mem_of_getElem? h1
      rw [mset_ne (fun z => DnA (by rw [← z]; exact ha))]
      exact (l3 a ha).2
    · rw [(List.mem_replicate.mp (List.mem_of_getElem? h1)).2] at ht
      cases ht
    · obtain ⟨tss, z7, rfl, s7, D7, K7, lt7, sw7, sn7, tr7⟩ := p
      obtain ⟨kk, hkk⟩ : ∃ kk : Nat, kk + i = mn := ⟨mn - i, by omega⟩
      have hkv : 1 + m0 - 1 + ((i : Nat) : Int) * -1 = (kk : Int) := by omega
      have hk1 : 1 ≤ kk := by omega
      obtain ⟨e, he⟩ : ∃ e, es[kk]? = some e := ⟨es[kk]'(by omega), List.getElem?_eq_getElem _⟩
      obtain ⟨hek, hlev⟩ := Rl.eld kk e hk1 he
      obtain ⟨ae, hae⟩ : ∃ a, as[e]? = some a := ⟨as[e]'(by omega), List.getElem?_eq_getElem _⟩
      obtain ⟨ak, hak⟩ : ∃ a, as[kk]? = some a := ⟨as[kk]'(by omega), List.getElem?_eq_getElem _⟩
      obtain ⟨te, hte⟩ : ∃ t, tss[e]? = some t := ⟨tss[e]'(by omega), List.getElem?_eq_getElem _⟩
      obtain ⟨tk, htk⟩ : ∃ t, tss[kk]? = some t := ⟨tss[kk]'(by omega), List.getElem?_eq_getElem _⟩
      obtain ⟨le', hle'⟩ : ∃ l, ls[e]? = some l := ⟨ls[e]'(by omega), List.getElem?_eq_getElem _⟩
      obtain ⟨lk, hlk⟩ : ∃ l, ls[kk]? = some l := ⟨ls[kk]'(by omega), List.getElem?_eq_getElem _⟩
      have hll := hlev le' lk hle' hlk
      have hlk10 := Rl.lev kk lk hlk
      have aeA := List.mem_of_getElem? hae
      have atAe : atI (as.map W.r) (e : Int) = some (.r ae) := atI_nat (by rw [List.getElem?_map, hae]; rfl)
      have atAk : atI (as.map W.r) (kk : Int) = some (.r ak) := atI_nat (by rw [List.getElem?_map, hak]; rfl)
      simp only [whileS, seqS, setS, retS, retN, dropS, ifS, nextS, unpS, setIx, forS, raiseS, breakS, contS, nmT, cT, opT, unT, tbT, andT, orT, notT, andV, orV, notV, ifT, chT, nilA, consA, tupT, lsfT, lstT, slT, noP, someP, rvF, rvT, cbT, callT, callX, frT, itTup, itLst, itStr, itR1, itR2, itEnT, itEnL, slot, put, hide, start0, g1, g2, gI, gS, gB, gT, gL, gD, gR, gW, gDs, gDs_map, gBs, gIs, gSs, gO, gRow, asD, fI, fIc, fAdd, fSub, fMul, fMod, fDiv, fPow, fLt, fLe, fGt, fGe, fNeg, fS, fAddS, fLeS, fRepS, fInS, isN, fIsN, fEqD, eqS, fEqS, fIxT, fIxL, fIxS, fSlT, fSlF, fSlL, fSlS, fCatT, fCatF, fCatL, fRepT, fLen, fLenS, fAll, fSum, fMax, fMax2, fTuple, fListF, fListL, fInt, fIsi, tyIs, bName, bPair, bTup2, fAppend, fExtend, yesT, bmL, lcF, lcL, itR3, itZip, augI, fMin2, ckT, fMaxD, joinT, fInQ, fRepr, fInsert, fPopAt, fExtT, tryA, tryB, tryO, clsW, keptX, fIsK, gCs, isKT, kfT, heldX, fIsS, isST, xfT, PySem.W.kitAny, List.map_cons, List.map_nil, List.cons_append, List.nil_append, List.length_cons, List.length_nil, List.replicate, String.reduceEq, if_true, if_false, Bool.false_eq_true, Bool.not_true, Bool.not_false, true_and, and_true, any1, tfNext]
      rw [hkv]
      refine ⟨_, s7 _ _ e1, ?_⟩
      rw [nsW_get he]
      dsimp only
      refine ⟨_, D7, ?_⟩
      rw [atAe]
      dsimp only
      refine ⟨⟨_, K7 e ae te hae hte⟩, ⟨s7 _ _ (sub1 _ _ hM), by decide, by decide⟩, fun r8 hr80 hr81 => ?_⟩
      obtain ⟨tgs, htgs, hat⟩ : ∃ s, s ∈ tags5 ∧ atI [W.d (.str "a"), W.d (.str "b"), W.d (.str "ab"), W.d (.str "zz"), W.d (.str "abcdefgh")] r8 = some (.d (.str s)) := by
        obtain ⟨r, rfl⟩ : ∃ r : Nat, r8 = (r : Int) := ⟨r8.toNat, by omega⟩
        have hr5 : r < tags5.length := by show r < 5; omega
        refine ⟨tags5[r], List.getElem_mem hr5, atI_nat ?_⟩
        show (tags5.map fun s => W.d (.str s))[r]? = _
        rw [List.getElem?_map, List.getElem?_eq_getElem hr5]
        rfl
      have htag := tags5_ok tgs htgs
      rw [hat]
      dsimp only
      refine ⟨_, D7, ?_⟩
      rw [atAk]
      dsimp only
      refine ⟨_, K7 kk ak tk hak htk, ?_⟩
      simp only [whileS, seqS, setS, retS, retN, dropS, ifS, nextS, unpS, setIx, forS, raiseS, breakS, contS, nmT, cT, opT, unT, tbT, andT, orT, notT, andV, orV, notV, ifT, chT, nilA, consA, tupT, lsfT, lstT, slT, noP, someP, rvF, rvT, cbT, callT, callX, frT, itTup, itLst, itStr, itR1, itR2, itEnT, itEnL, slot, put, hide, start0, g1, g2, gI, gS, gB, gT, gL, gD, gR, gW, gDs, gDs_map, gBs, gIs, gSs, gO, gRow, asD, fI, fIc, fAdd, fSub, fMul, fMod, fDiv, fPow, fLt, fLe, fGt, fGe, fNeg, fS, fAddS, fLeS, fRepS, fInS, isN, fIsN, fEqD, eqS, fEqS, fIxT, fIxL, fIxS, fSlT, fSlF, fSlL, fSlS, fCatT, fCatF, fCatL, fRepT, fLen, fLenS, fAll, fSum, fMax, fMax2, fTuple, fListF, fListL, fInt, fIsi, tyIs, bName, bPair, bTup2, fAppend, fExtend, yesT, bmL, lcF, lcL, itR3, itZip, augI, fMin2, ckT, fMaxD, joinT, fInQ, fRepr, fInsert, fPopAt, fExtT, tryA, tryB, tryO, clsW, keptX, fIsK, gCs, isKT, kfT, heldX, fIsS, isST, xfT, PySem.W.kitAny, List.map_cons, List.map_nil, List.cons_append, List.nil_append, List.length_cons, List.length_nil, List.replicate, String.reduceEq, if_true, if_false, Bool.false_eq_true, Bool.not_true, Bool.not_false, true_and, and_true, any1]
      refine ⟨_, K7 e ae te hae hte, ?_, ?_⟩
      · have hlt : wtAll te ≤ sw (mn + 1 - i) tss := wt_sw (by omega) hte
        have hl2 := len_wt te
        rw [List.length_map]
        exact Nat.lt_of_le_of_lt (show te.length ≤ 100000 by omega) (by decide)
      refine hN _ _ ⟨tss.set e (te ++ [.tuple [.str tgs, .tuple tk.reverse]]), _, rfl, fun b o h => ?_, ?_, fun j a ts h1 h2 => ?_, by rw [List.length_set]; exact lt7, ?_, ?_, fun j l ts h1 h2 t ht => ?_⟩
      · rw [mset_ne (fun z => nst h (by rw [z]; exact aeA))]
        exact s7 b o h
      · rw [mset_ne (fun z => DnA (by rw [z]; exact aeA))]
        exact D7
      · by_cases cj : j = e
        · subst cj
          rw [hae] at h1
          cases h1
          rw [List.getElem?_set_self (by omega)] at h2
          cases h2
          rw [mset_same, List.map_append]
          rfl
        · rw [List.getElem?_set_ne (fun z => cj z.symm)] at h2
          rw [mset_ne (fun z => cj (nd_ix l2 h1 (by rw [z]; exact hae)))]
          exact K7 j a ts h1 h2
      · have e1 : mn + 1 - (i + 1) = kk := by omega
        have e2 : mn + 1 - i = kk + 1 := by omega
        rw [e2, sw_succ htk] at sw7
        rw [e1, sw_set hek hte, wt_node, wtAll_rev]
        omega
      · have e1 : mn + 1 - (i + 1) = kk := by omega
        have e2 : mn + 1 - i = kk + 1 := by omega
        rw [e2, sn_succ htk] at sn7
        rw [e1, sn_set hek hte, nn, nnAll_rev]
        omega
      · by_cases cj : j = e
        · subst cj
          rw [List.getElem?_set_self (by omega)] at h1
          cases h1
          rw [hle'] at h2
          cases h2
          rcases List.mem_append.mp ht with ht | ht
          · exact tr7 j _ te hte hle' t ht
          · rw [List.mem_singleton.mp ht]
            refine TrD.mono (show 10 - lk + 1 ≤ 10 - le' by omega) ⟨tgs, _, rfl, htag, fun kd hkd => ?_⟩
            exact tr7 kk lk tk htk hlk kd (List.mem_reverse.mp hkd)
        · rw [List.getElem?_set_ne (fun z => cj z.symm)] at h1
          exact tr7 j l ts h1 h2 t ht
    · obtain ⟨tss, z7, rfl, s7, D7, K7, lt7, sw7, sn7, tr7⟩ := p
      rw [show mn + 1 - mn = 1 by omega] at sw7 sn7
      obtain ⟨ak, hak⟩ : ∃ a, as[0]? = some a := ⟨as[0]'(by omega), List.getElem?_eq_getElem _⟩
      obtain ⟨tk, htk⟩ : ∃ t, tss[0]? = some t := ⟨tss[0]'(by omega), List.getElem?_eq_getElem _⟩
      have atAk : atI (as.map W.r) 0 = some (.r ak) := atI_nat (j := 0) (by rw [List.getElem?_map, hak]; rfl)
      simp only [whileS, seqS, setS, retS, retN, dropS, ifS, nextS, unpS, setIx, forS, raiseS, breakS, contS, nmT, cT, opT, unT, tbT, andT, orT, notT, andV, orV, notV, ifT, chT, nilA, consA, tupT, lsfT, lstT, slT, noP, someP, rvF, rvT, cbT, callT, callX, frT, itTup, itLst, itStr, itR1, itR2, itEnT, itEnL, slot, put, hide, start0, g1, g2, gI, gS, gB, gT, gL, gD, gR, gW, gDs, gDs_map, gBs, gIs, gSs, gO, gRow, asD, fI, fIc, fAdd, fSub, fMul, fMod, fDiv, fPow, fLt, fLe, fGt, fGe, fNeg, fS, fAddS, fLeS, fRepS, fInS, isN, fIsN, fEqD, eqS, fEqS, fIxT, fIxL, fIxS, fSlT, fSlF, fSlL, fSlS, fCatT, fCatF, fCatL, fRepT, fLen, fLenS, fAll, fSum, fMax, fMax2, fTuple, fListF, fListL, fInt, fIsi, tyIs, bName, bPair, bTup2, fAppend, fExtend, yesT, bmL, lcF, lcL, itR3, itZip, augI, fMin2, ckT, fMaxD, joinT, fInQ, fRepr, fInsert, fPopAt, fExtT, tryA, tryB, tryO, clsW, keptX, fIsK, gCs, isKT, kfT, heldX, fIsS, isST, xfT, PySem.W.kitAny, List.map_cons, List.map_nil, List.cons_append, List.nil_append, List.length_cons, List.length_nil, List.replicate, String.reduceEq, if_true, if_false, Bool.false_eq_true, Bool.not_true, Bool.not_false, true_and, and_true, any1, tfNext]
      refine ⟨⟨s7 _ _ (sub1 _ _ hM), by decide, by decide⟩, fun r8 hr80 hr81 => ?_⟩
      obtain ⟨tgs, htgs, hat⟩ : ∃ s, s ∈ tags5 ∧ atI [W.d (.str "a"), W.d (.str "b"), W.d (.str "ab"), W.d (.str "zz"), W.d (.str "abcdefgh")] r8 = some (.d (.str s)) := by
        obtain ⟨r, rfl⟩ : ∃ r : Nat, r8 = (r : Int) := ⟨r8.toNat, by omega⟩
        have hr5 : r < tags5.length := by show r < 5; omega
        refine ⟨tags5[r], List.getElem_mem hr5, atI_nat ?_⟩
        show (tags5.map fun s => W.d (.str s))[r]? = _
        rw [List.getElem?_map, List.getElem?_eq_getElem hr5]
        rfl
      have htag := tags5_ok tgs htgs
      rw [hat]
      dsimp only
      refine ⟨_, D7, ?_⟩
      rw [atAk]
      dsimp only
      refine ⟨_, K7 0 ak tk hak htk, ?_⟩
      simp only [whileS, seqS, setS, retS, retN, dropS, ifS, nextS, unpS, setIx, forS, raiseS, breakS, contS, nmT, cT, opT, unT, tbT, andT, orT, notT, andV, orV, notV, ifT, chT, nilA, consA, tupT, lsfT, lstT, slT, noP, someP, rvF, rvT, cbT, callT, callX, frT, itTup, itLst, itStr, itR1, itR2, itEnT, itEnL, slot, put, hide, start0, g1, g2, gI, gS, gB, gT, gL, gD, gR, gW, gDs, gDs_map, gBs, gIs, gSs, gO, gRow, asD, fI, fIc, fAdd, fSub, fMul, fMod, fDiv, fPow, fLt, fLe, fGt, fGe, fNeg, fS, fAddS, fLeS, fRepS, fInS, isN, fIsN, fEqD, eqS, fEqS, fIxT, fIxL, fIxS, fSlT, fSlF, fSlL, fSlS, fCatT, fCatF, fCatL, fRepT, fLen, fLenS, fAll, fSum, fMax, fMax2, fTuple, fListF, fListL, fInt, fIsi, tyIs, bName, bPair, bTup2, fAppend, fExtend, yesT, bmL, lcF, lcL, itR3, itZip, augI, fMin2, ckT, fMaxD, joinT, fInQ, fRepr, fInsert, fPopAt, fExtT, tryA, tryB, tryO, clsW, keptX, fIsK, gCs, isKT, kfT, heldX, fIsS, isST, xfT, PySem.W.kitAny, List.map_cons, List.map_nil, List.cons_append, List.nil_append, List.length_cons, List.length_nil, List.replicate, String.reduceEq, if_true, if_false, Bool.false_eq_true, Bool.not_true, Bool.not_false, true_and, and_true, any1]
      refine ⟨M, fun a o h => s7 _ _ (sub1 _ _ h), h3 _ ?_ ?_ ?_⟩
      · refine ⟨tgs, _, rfl, htag, fun kd hkd => ?_⟩
        exact tr7 0 1 tk htk Rl.first kd (List.mem_reverse.mp hkd)
      · have hs1 : wtAll tk ≤ sw 1 tss := wt_sw (by omega) htk
        have hwn := wt_node tgs tk.reverse
        rw [wtAll_rev] at hwn
        omega
      · rw [show (1 : Nat) = 0 + 1 from rfl, sn_succ htk] at sn7
        rw [nn, nnAll_rev]
        omega
end
end Tl

set_option Elab.async false
set_option linter.all false
set_option maxRecDepth 100000
set_option maxHeartbeats 8000000
namespace Tl
open PySem L2 RZ
/-- one and the same data twice -/
def tfAlike (n : Nat) : TF := fun ws M R _ => g2 ws fun x y => gD y fun d => (asD M x fun e => e = d) ∧ (d.depth < n ∧ d.hasDict = false ∧ txt d = true) ∧ R (.d (.bool true)) M
theorem depth_get : ∀ {ds : List PyData} {i : Nat} {d : PyData}, ds[i]? = some d → d.depth ≤ PyData.depthAll ds ∧ (PyData.hasDictAll ds = false → d.hasDict = false)
  | [], _, _, e => by simp at e
  | a :: r, 0, d, e => by
    simp at e
    subst e
    rw [PyData.depthAll, PyData.hasDictAll]
    exact ⟨Nat.le_max_left _ _, fun h => by rw [Bool.or_eq_false_iff] at h; exact h.1⟩
  | a :: r, i + 1, d, e => by
    obtain ⟨h1, h2⟩ := depth_get (ds := r) (i := i) (by simpa using e)
    rw [PyData.depthAll, PyData.hasDictAll]
    exact ⟨Nat.le_trans h1 (Nat.le_max_right _ _), fun h => by rw [Bool.or_eq_false_iff] at h; exact h2 h.2⟩
section
variable {P : Program} {w : World} {K : PySem.W.Frag} {mg : Str → Option Value} {base : Heap}
abbrev sAlike : Stmt := top 31
theorem scAlike : FnScope ["_law_found", "_law_due", "_law_one", "_law_other"] ["_law_found", "_law_due"] (defScope sAlike) := ⟨rfl, rfl, rfl, by decide +kernel, rfl, by decide +kernel, by decide +kernel⟩
theorem ok_alike1 {f : Addr} {fd : FuncData} {n : Nat} (F : Fun K "_law_alike" "_law_alike" sAlike f fd) (U_law_alike : Use P w K mg base "_law_alike" ["_law_found", "_law_due"] n (spD K 2 (tfAlike n))) (T : Bl mg) (mz : mg "zip" = none) :
    FnOk P w K mg base CX0 (n + 1) f fd ["_law_found", "_law_due"] (spD K 2 (tfAlike (n + 1))) := by
  refine okD F scAlike rfl fun cdv A outer s H E hr => ?_
  refine ⟨_, _, (pss_cons (ps_if (pt_cmpR op_isN (pv 1) pe_non (nomark _)) (pss_one (ps_ret (pe_cmpR op_isN (pv 0) pe_non (nomark _)))) pss_nil)
    (pss_cons (ps_if (pt_val (pe_callB (r := rIsi K) call_isi (by rfl) T.isi PyProof.Rows.boot_isinstance (pa_cons (pv 1) (pa_cons (b_bool T) pa_nil)))) (pss_one (ps_ret (pe_and (pe_callB (r := rIsi K) call_isi (by rfl) T.isi PyProof.Rows.boot_isinstance (pa_cons (pv 0) (pa_cons (b_bool T) pa_nil))) (pe_one (pe_cmpR op_eq (pv 0) (pv 1) (nomark _)))))) pss_nil)
    (pss_cons (ps_if (pt_val (pe_callB (r := rIsi K) call_isi (by rfl) T.isi PyProof.Rows.boot_isinstance (pa_cons (pv 1) (pa_cons (b_int T) pa_nil)))) (pss_one (ps_ret (pe_and (pe_callB (r := rIsi K) call_isi (by rfl) T.isi PyProof.Rows.boot_isinstance (pa_cons (pv 0) (pa_cons (b_int T) pa_nil))) (pe_and (pe_not (pe_callB (r := rIsi K) call_isi (by rfl) T.isi PyProof.Rows.boot_isinstance (pa_cons (pv 0) (pa_cons (b_bool T) pa_nil)))) (pe_one (pe_cmpR op_eq (pv 0) (pv 1) (nomark _))))))) pss_nil)
    (pss_cons (ps_if (pt_val (pe_callB (r := rIsi K) call_isi (by rfl) T.isi PyProof.Rows.boot_isinstance (pa_cons (pv 1) (pa_cons (b_str T) pa_nil)))) (pss_one (ps_ret (pe_and (pe_callB (r := rIsi K) call_isi (by rfl) T.isi PyProof.Rows.boot_isinstance (pa_cons (pv 0) (pa_cons (b_str T) pa_nil))) (pe_one (pe_cmpR op_eq (pv 0) (pv 1) (nomark _)))))) pss_nil)
    (pss_cons (ps_if (PW.pt (pw_and (pt_val (pe_callB (r := rIsi K) call_isi (by rfl) T.isi PyProof.Rows.boot_isinstance (pa_cons (pv 1) (pa_cons (b_list T) pa_nil)))) (pw_and1 (pt_not (pt_val (pe_callB (r := rIsi K) call_isi (by rfl) T.isi PyProof.Rows.boot_isinstance (pa_cons (pv 0) (pa_cons (b_list T) pa_nil)))))))) (pss_one (ps_ret pe_bl)) pss_nil)
    (pss_cons (ps_if (PW.pt (pw_and (pt_val (pe_callB (r := rIsi K) call_isi (by rfl) T.isi PyProof.Rows.boot_isinstance (pa_cons (pv 1) (pa_cons (b_tuple T) pa_nil)))) (pw_and1 (pt_not (pt_val (pe_callB (r := rIsi K) call_isi (by rfl) T.isi PyProof.Rows.boot_isinstance (pa_cons (pv 0) (pa_cons (b_tuple T) pa_nil)))))))) (pss_one (ps_ret pe_bl)) pss_nil)
    (pss_cons (ps_if (pt_cmpR op_ne (pe_callB call_len_seq (by rfl) T.len PySem.boot_len (pa_cons (pv 0) pa_nil)) (pe_callB call_len_seq (by rfl) T.len PySem.boot_len (pa_cons (pv 1) pa_nil)) (nomark _)) (pss_one (ps_ret pe_bl)) pss_nil)
    (pss_cons (ps_for PassesOwn.never rfl (pi_zipA (by rfl) mz (pa_cons (pv 0) (pa_cons (pv 1) pa_nil))) (pg_tup rfl (pgs_cons (pg_name (i := 2) scAlike.nd rfl (.inl rfl)) (pgs_cons (pg_name (i := 3) scAlike.nd rfl (.inl rfl)) pgs_nil))) (pss_one (ps_if (pt_not (pt_val (pe_call U_law_alike.ok (hr.mono (by omega)) rfl U_law_alike.m U_law_alike.kp U_law_alike.b .nil pass0 (pa_cons (pv 2) (pa_cons (pv 3) pa_nil))))) (pss_one (ps_ret pe_bl)) pss_nil)))
    (pss_one (ps_ret pe_bl)))))))))),
    (ss_cons (ss_if (st_test (se_op so_isN se_nm se_non)) (ss_ret (se_op so_isN se_nm se_non)) ss_nil)
    (ss_cons (ss_if (st_val (se_cb sc_isi (sa_cons se_nm (sa_cons se_o sa_nil)))) (ss_ret (se_and (se_cb sc_isi (sa_cons se_nm (sa_cons se_o sa_nil))) (se_op so_eqS se_nm se_nm))) ss_nil)
    (ss_cons (ss_if (st_val (se_cb sc_isi (sa_cons se_nm (sa_cons se_o sa_nil)))) (ss_ret (se_and (se_cb sc_isi (sa_cons se_nm (sa_cons se_o sa_nil))) (se_and (se_not (se_cb sc_isi (sa_cons se_nm (sa_cons se_o sa_nil)))) (se_op so_eqS se_nm se_nm)))) ss_nil)
    (ss_cons (ss_if (st_val (se_cb sc_isi (sa_cons se_nm (sa_cons se_o sa_nil)))) (ss_ret (se_and (se_cb sc_isi (sa_cons se_nm (sa_cons se_o sa_nil))) (se_op so_eqS se_nm se_nm))) ss_nil)
    (ss_cons (ss_if (st_and (st_val (se_cb sc_isi (sa_cons se_nm (sa_cons se_o sa_nil)))) (st_not (st_val (se_cb sc_isi (sa_cons se_nm (sa_cons se_o sa_nil)))))) (ss_ret se_bl) ss_nil)
    (ss_cons (ss_if (st_and (st_val (se_cb sc_isi (sa_cons se_nm (sa_cons se_o sa_nil)))) (st_not (st_val (se_cb sc_isi (sa_cons se_nm (sa_cons se_o sa_nil)))))) (ss_ret se_bl) ss_nil)
    (ss_cons (ss_if (st_test (se_op so_neS (se_cb sc_len (sa_cons se_nm sa_nil)) (se_cb sc_len (sa_cons se_nm sa_nil)))) (ss_ret se_bl) ss_nil)
    (ss_cons (ss_for (si_zip (sa_cons se_nm (sa_cons se_nm sa_nil))) sg_pair (ss_if (st_not (st_val (se_call (sa_cons se_nm (sa_cons se_nm sa_nil))))) (ss_ret se_bl) ss_nil))
    (ss_ret se_bl))))))))), fun ws M R RX hl h => ?_⟩
  obtain ⟨x, y, rfl, h1⟩ := g2_of h
  obtain ⟨d, rfl, h2, ⟨hd, hh, ht⟩, h3⟩ := gD_of h1
  clear h h1 hl
  have loop : ∀ (ds : List PyData) (x y : W) (keep : Mem → Prop), keep M → PyData.depthAll ds < n → PyData.hasDictAll ds = false → txtAll ds = true →
      forGo (bPair 2 3) keep (ifS (notT (tbT (callT (tfAlike n) (consA (nmT 2) (consA (nmT 3) nilA))))) (retS (cT (W.d (.bool false)))) nextS) { nx := retS (cT (W.d (.bool true))) (endD R), rt := R } (zipR (ds.map W.d) (ds.map W.d)) [some x, some y, none, none] M := fun ds x y keep hk g1 g2 g3 => by
    refine forZ rfl (fun i ρ M' => M' = M ∧ ∃ a b, ρ = [some x, some y, a, b]) ⟨rfl, _, _, rfl⟩ (fun i ρ M' _ p => by rw [p.1]; exact hk) (fun i a c ρ M' N ha hc p hN => ?_) (fun ρ M' p => ?_)
    · obtain ⟨rfl, a', b', rfl⟩ := p
      rw [ha] at hc
      cases hc
      rw [List.getElem?_map] at ha
      obtain ⟨d, hd2, rfl⟩ := Option.map_eq_some_iff.mp ha
      obtain ⟨q1, q2⟩ := depth_get hd2
      simp only [whileS, seqS, setS, retS, retN, dropS, ifS, nextS, unpS, setIx, forS, raiseS, breakS, contS, nmT, cT, opT, unT, tbT, andT, orT, notT, andV, orV, notV, ifT, chT, nilA, consA, tupT, lsfT, lstT, slT, noP, someP, rvF, rvT, cbT, callT, callX, frT, itTup, itLst, itStr, itR1, itR2, itEnT, itEnL, slot, put, hide, start0, g1, g2, gI, gS, gB, gT, gL, gD, gR, gW, gDs, gDs_map, gBs, gIs, gSs, gO, gRow, asD, fI, fIc, fAdd, fSub, fMul, fMod, fDiv, fPow, fLt, fLe, fGt, fGe, fNeg, fS, fAddS, fLeS, fRepS, fInS, isN, fIsN, fEqD, eqS, fEqS, fIxT, fIxL, fIxS, fSlT, fSlF, fSlL, fSlS, fCatT, fCatF, fCatL, fRepT, fLen, fLenS, fAll, fSum, fMax, fMax2, fTuple, fListF, fListL, fInt, fIsi, tyIs, bName, bPair, bTup2, fAppend, fExtend, yesT, bmL, lcF, lcL, itR3, itZip, augI, fMin2, ckT, fMaxD, joinT, fInQ, fRepr, fInsert, fPopAt, fExtT, tryA, tryB, tryO, clsW, keptX, fIsK, gCs, isKT, kfT, heldX, fIsS, isST, xfT, PySem.W.kitAny, List.map_cons, List.map_nil, List.cons_append, List.nil_append, List.length_cons, List.length_nil, List.replicate, String.reduceEq, if_true, if_false, Bool.false_eq_true, Bool.not_true, Bool.not_false, true_and, and_true, any1, tfAlike]
      exact ⟨rfl, ⟨by omega, q2 g2, txtAll_get g3 hd2⟩, hN _ _ ⟨rfl, _, _, rfl⟩⟩
    · obtain ⟨rfl, a', b', rfl⟩ := p
      exact h3
  have small : ∀ (ds : List PyData), PyData.depthAll ds + 1 < n + 1 → PyData.depthAll ds < n := fun ds h => by omega
  cases x with
  | o v => exact h2.elim
  | x a C dd fs => exact h2.elim
  | d e =>
    have e' : e = d := h2
    subst e'
    cases e with
    | none => simp only [whileS, seqS, setS, retS, retN, dropS, ifS, nextS, unpS, setIx, forS, raiseS, breakS, contS, nmT, cT, opT, unT, tbT, andT, orT, notT, andV, orV, notV, ifT, chT, nilA, consA, tupT, lsfT, lstT, slT, noP, someP, rvF, rvT, cbT, callT, callX, frT, itTup, itLst, itStr, itR1, itR2, itEnT, itEnL, slot, put, hide, start0, g1, g2, gI, gS, gB, gT, gL, gD, gR, gW, gDs, gDs_map, gBs, gIs, gSs, gO, gRow, asD, fI, fIc, fAdd, fSub, fMul, fMod, fDiv, fPow, fLt, fLe, fGt, fGe, fNeg, fS, fAddS, fLeS, fRepS, fInS, isN, fIsN, fEqD, eqS, fEqS, fIxT, fIxL, fIxS, fSlT, fSlF, fSlL, fSlS, fCatT, fCatF, fCatL, fRepT, fLen, fLenS, fAll, fSum, fMax, fMax2, fTuple, fListF, fListL, fInt, fIsi, tyIs, bName, bPair, bTup2, fAppend, fExtend, yesT, bmL, lcF, lcL, itR3, itZip, augI, fMin2, ckT, fMaxD, joinT, fInQ, fRepr, fInsert, fPopAt, fExtT, tryA, tryB, tryO, clsW, keptX, fIsK, gCs, isKT, kfT, heldX, fIsS, isST, xfT, PySem.W.kitAny, List.map_cons, List.map_nil, List.cons_append, List.nil_append, List.length_cons, List.length_nil, List.replicate, String.reduceEq, if_true, if_false, Bool.false_eq_true, Bool.not_true, Bool.not_false, true_and, and_true, any1]; exact h3
    | bool b => simp only [whileS, seqS, setS, retS, retN, dropS, ifS, nextS, unpS, setIx, forS, raiseS, breakS, contS, nmT, cT, opT, unT, tbT, andT, orT, notT, andV, orV, notV, ifT, chT, nilA, consA, tupT, lsfT, lstT, slT, noP, someP, rvF, rvT, cbT, callT, callX, frT, itTup, itLst, itStr, itR1, itR2, itEnT, itEnL, slot, put, hide, start0, g1, g2, gI, gS, gB, gT, gL, gD, gR, gW, gDs, gDs_map, gBs, gIs, gSs, gO, gRow, asD, fI, fIc, fAdd, fSub, fMul, fMod, fDiv, fPow, fLt, fLe, fGt, fGe, fNeg, fS, fAddS, fLeS, fRepS, fInS, isN, fIsN, fEqD, eqS, fEqS, fIxT, fIxL, fIxS, fSlT, fSlF, fSlL, fSlS, fCatT, fCatF, fCatL, fRepT, fLen, fLenS, fAll, fSum, fMax, fMax2, fTuple, fListF, fListL, fInt, fIsi, tyIs, bName, bPair, bTup2, fAppend, fExtend, yesT, bmL, lcF, lcL, itR3, itZip, augI, fMin2, ckT, fMaxD, joinT, fInQ, fRepr, fInsert, fPopAt, fExtT, tryA, tryB, tryO, clsW, keptX, fIsK, gCs, isKT, kfT, heldX, fIsS, isST, xfT, PySem.W.kitAny, List.map_cons, List.map_nil, List.cons_append, List.nil_append, List.length_cons, List.length_nil, List.replicate, String.reduceEq, if_true, if_false, Bool.false_eq_true, Bool.not_true, Bool.not_false, true_and, and_true, any1, isBl, isInt, isStr, isTup, isList, decide_true]; exact h3
    | int b => simp only [whileS, seqS, setS, retS, retN, dropS, ifS, nextS, unpS, setIx, forS, raiseS, breakS, contS, nmT, cT, opT, unT, tbT, andT, orT, notT, andV, orV, notV, ifT, chT, nilA, consA, tupT, lsfT, lstT, slT, noP, someP, rvF, rvT, cbT, callT, callX, frT, itTup, itLst, itStr, itR1, itR2, itEnT, itEnL, slot, put, hide, start0, g1, g2, gI, gS, gB, gT, gL, gD, gR, gW, gDs, gDs_map, gBs, gIs, gSs, gO, gRow, asD, fI, fIc, fAdd, fSub, fMul, fMod, fDiv, fPow, fLt, fLe, fGt, fGe, fNeg, fS, fAddS, fLeS, fRepS, fInS, isN, fIsN, fEqD, eqS, fEqS, fIxT, fIxL, fIxS, fSlT, fSlF, fSlL, fSlS, fCatT, fCatF, fCatL, fRepT, fLen, fLenS, fAll, fSum, fMax, fMax2, fTuple, fListF, fListL, fInt, fIsi, tyIs, bName, bPair, bTup2, fAppend, fExtend, yesT, bmL, lcF, lcL, itR3, itZip, augI, fMin2, ckT, fMaxD, joinT, fInQ, fRepr, fInsert, fPopAt, fExtT, tryA, tryB, tryO, clsW, keptX, fIsK, gCs, isKT, kfT, heldX, fIsS, isST, xfT, PySem.W.kitAny, List.map_cons, List.map_nil, List.cons_append, List.nil_append, List.length_cons, List.length_nil, List.replicate, String.reduceEq, if_true, if_false, Bool.false_eq_true, Bool.not_true, Bool.not_false, true_and, and_true, any1, isBl, isInt, isStr, isTup, isList, decide_true]; exact h3
    | str b => simp only [whileS, seqS, setS, retS, retN, dropS, ifS, nextS, unpS, setIx, forS, raiseS, breakS, contS, nmT, cT, opT, unT, tbT, andT, orT, notT, andV, orV, notV, ifT, chT, nilA, consA, tupT, lsfT, lstT, slT, noP, someP, rvF, rvT, cbT, callT, callX, frT, itTup, itLst, itStr, itR1, itR2, itEnT, itEnL, slot, put, hide, start0, g1, g2, gI, gS, gB, gT, gL, gD, gR, gW, gDs, gDs_map, gBs, gIs, gSs, gO, gRow, asD, fI, fIc, fAdd, fSub, fMul, fMod, fDiv, fPow, fLt, fLe, fGt, fGe, fNeg, fS, fAddS, fLeS, fRepS, fInS, isN, fIsN, fEqD, eqS, fEqS, fIxT, fIxL, fIxS, fSlT, fSlF, fSlL, fSlS, fCatT, fCatF, fCatL, fRepT, fLen, fLenS, fAll, fSum, fMax, fMax2, fTuple, fListF, fListL, fInt, fIsi, tyIs, bName, bPair, bTup2, fAppend, fExtend, yesT, bmL, lcF, lcL, itR3, itZip, augI, fMin2, ckT, fMaxD, joinT, fInQ, fRepr, fInsert, fPopAt, fExtT, tryA, tryB, tryO, clsW, keptX, fIsK, gCs, isKT, kfT, heldX, fIsS, isST, xfT, PySem.W.kitAny, List.map_cons, List.map_nil, List.cons_append, List.nil_append, List.length_cons, List.length_nil, List.replicate, String.reduceEq, if_true, if_false, Bool.false_eq_true, Bool.not_true, Bool.not_false, true_and, and_true, any1, isBl, isInt, isStr, isTup, isList, decide_true]; exact h3
    | dict b => rw [PyData.hasDict] at hh; cases hh
    | list ds =>
      rw [PyData.depth] at hd
      rw [PyData.hasDict] at hh
      rw [txt] at ht
      simp only [whileS, seqS, setS, retS, retN, dropS, ifS, nextS, unpS, setIx, forS, raiseS, breakS, contS, nmT, cT, opT, unT, tbT, andT, orT, notT, andV, orV, notV, ifT, chT, nilA, consA, tupT, lsfT, lstT, slT, noP, someP, rvF, rvT, cbT, callT, callX, frT, itTup, itLst, itStr, itR1, itR2, itEnT, itEnL, slot, put, hide, start0, g1, g2, gI, gS, gB, gT, gL, gD, gR, gW, gDs, gDs_map, gBs, gIs, gSs, gO, gRow, asD, fI, fIc, fAdd, fSub, fMul, fMod, fDiv, fPow, fLt, fLe, fGt, fGe, fNeg, fS, fAddS, fLeS, fRepS, fInS, isN, fIsN, fEqD, eqS, fEqS, fIxT, fIxL, fIxS, fSlT, fSlF, fSlL, fSlS, fCatT, fCatF, fCatL, fRepT, fLen, fLenS, fAll, fSum, fMax, fMax2, fTuple, fListF, fListL, fInt, fIsi, tyIs, bName, bPair, bTup2, fAppend, fExtend, yesT, bmL, lcF, lcL, itR3, itZip, augI, fMin2, ckT, fMaxD, joinT, fInQ, fRepr, fInsert, fPopAt, fExtT, tryA, tryB, tryO, clsW, keptX, fIsK, gCs, isKT, kfT, heldX, fIsS, isST, xfT, PySem.W.kitAny, List.map_cons, List.map_nil, List.cons_append, List.nil_append, List.length_cons, List.length_nil, List.replicate, String.reduceEq, if_true, if_false, Bool.false_eq_true, Bool.not_true, Bool.not_false, true_and, and_true, any1, isBl, isInt, isStr, isTup, isList, decide_true, List.length_map]
      exact loop ds _ _ _ trivial (by omega) hh ht
    | tuple ds =>
      rw [PyData.depth] at hd
      rw [PyData.hasDict] at hh
      rw [txt] at ht
      simp only [whileS, seqS, setS, retS, retN, dropS, ifS, nextS, unpS, setIx, forS, raiseS, breakS, contS, nmT, cT, opT, unT, tbT, andT, orT, notT, andV, orV, notV, ifT, chT, nilA, consA, tupT, lsfT, lstT, slT, noP, someP, rvF, rvT, cbT, callT, callX, frT, itTup, itLst, itStr, itR1, itR2, itEnT, itEnL, slot, put, hide, start0, g1, g2, gI, gS, gB, gT, gL, gD, gR, gW, gDs, gDs_map, gBs, gIs, gSs, gO, gRow, asD, fI, fIc, fAdd, fSub, fMul, fMod, fDiv, fPow, fLt, fLe, fGt, fGe, fNeg, fS, fAddS, fLeS, fRepS, fInS, isN, fIsN, fEqD, eqS, fEqS, fIxT, fIxL, fIxS, fSlT, fSlF, fSlL, fSlS, fCatT, fCatF, fCatL, fRepT, fLen, fLenS, fAll, fSum, fMax, fMax2, fTuple, fListF, fListL, fInt, fIsi, tyIs, bName, bPair, bTup2, fAppend, fExtend, yesT, bmL, lcF, lcL, itR3, itZip, augI, fMin2, ckT, fMaxD, joinT, fInQ, fRepr, fInsert, fPopAt, fExtT, tryA, tryB, tryO, clsW, keptX, fIsK, gCs, isKT, kfT, heldX, fIsS, isST, xfT, PySem.W.kitAny, List.map_cons, List.map_nil, List.cons_append, List.nil_append, List.length_cons, List.length_nil, List.replicate, String.reduceEq, if_true, if_false, Bool.false_eq_true, Bool.not_true, Bool.not_false, true_and, and_true, any1, isBl, isInt, isStr, isTup, isList, decide_true, List.length_map]
      exact loop ds _ _ _ trivial (by omega) hh ht
  | r a =>
    obtain ⟨ds, ha, e⟩ := h2
    subst e
    rw [PyData.depth] at hd
    rw [PyData.hasDict] at hh
    rw [txt] at ht
    simp only [whileS, seqS, setS, retS, retN, dropS, ifS, nextS, unpS, setIx, forS, raiseS, breakS, contS, nmT, cT, opT, unT, tbT, andT, orT, notT, andV, orV, notV, ifT, chT, nilA, consA, tupT, lsfT, lstT, slT, noP, someP, rvF, rvT, cbT, callT, callX, frT, itTup, itLst, itStr, itR1, itR2, itEnT, itEnL, slot, put, hide, start0, g1, g2, gI, gS, gB, gT, gL, gD, gR, gW, gDs, gDs_map, gBs, gIs, gSs, gO, gRow, asD, fI, fIc, fAdd, fSub, fMul, fMod, fDiv, fPow, fLt, fLe, fGt, fGe, fNeg, fS, fAddS, fLeS, fRepS, fInS, isN, fIsN, fEqD, eqS, fEqS, fIxT, fIxL, fIxS, fSlT, fSlF, fSlL, fSlS, fCatT, fCatF, fCatL, fRepT, fLen, fLenS, fAll, fSum, fMax, fMax2, fTuple, fListF, fListL, fInt, fIsi, tyIs, bName, bPair, bTup2, fAppend, fExtend, yesT, bmL, lcF, lcL, itR3, itZip, augI, fMin2, ckT, fMaxD, joinT, fInQ, fRepr, fInsert, fPopAt, fExtT, tryA, tryB, tryO, clsW, keptX, fIsK, gCs, isKT, kfT, heldX, fIsS, isST, xfT, PySem.W.kitAny, List.map_cons, List.map_nil, List.cons_append, List.nil_append, List.length_cons, List.length_nil, List.replicate, String.reduceEq, if_true, if_false, Bool.false_eq_true, Bool.not_true, Bool.not_false, true_and, and_true, any1, isBl, isInt, isStr, isTup, isList, decide_true, List.length_map]
    refine ⟨_, ha, _, ha, ?_⟩
    simp only [List.length_map, decide_true, Bool.not_true, Bool.false_eq_true, if_false]
    exact ⟨_, ha, loop ds _ _ _ ha (by omega) hh ht⟩
theorem ok_alike {f : Addr} {fd : FuncData} (F : Fun K "_law_alike" "_law_alike" sAlike f fd) (mF : mg "_law_alike" = some (.ref f)) (T : Bl mg) (mz : mg "zip" = none) : ∀ n, FnOk P w K mg base CX0 n f fd ["_law_found", "_law_due"] (spD K 2 (tfAlike n))
  | 0 => no0 fun ws M R RX h => by
    obtain ⟨x, y, rfl, h1⟩ := g2_of h
    obtain ⟨d, rfl, h2, ⟨hd, _⟩, h3⟩ := gD_of h1
    omega
  | n + 1 => ok_alike1 F ⟨f, fd, ok_alike F mF T mz n, mF, F.kp, F.binds (ps := ["_law_found", "_law_due"]) fun _ _ _ _ _ _ us hl => match us, hl with | [_, _], _ => rfl⟩ T mz
end
end Tl

set_option Elab.async false
set_option linter.all false
set_option maxRecDepth 100000
set_option maxHeartbeats 8000000
namespace Tl
open PySem L2 RZ
/-- the flat row of a part -/
def tfRow (n : Nat) : TF := fun ws M R _ => g2 ws fun x y => gD x fun d => gI y fun l => (TrT n d ∧ nn d ≤ 100) ∧ R (.d (.tuple ((rowP d l).map prD))) M
theorem len_nn : ∀ ks : List PyData, ks.length ≤ nnAll ks
  | [] => Nat.zero_le _
  | k :: ks => by
    have := len_nn ks
    have := nn_pos k
    rw [nnAll, List.length_cons]
    omega
theorem nnAll_take (ks : List PyData) (i : Nat) : nnAll (ks.take i) ≤ nnAll ks := by
  conv => rhs; rw [← List.take_append_drop i ks, nnAll_app]
  omega
theorem nn_mem : ∀ {ks : List PyData} {k : PyData}, k ∈ ks → nn k ≤ nnAll ks
  | k' :: ks, k, h => by
    rw [nnAll]
    rcases List.mem_cons.mp h with rfl | h
    · omega
    · have := nn_mem h
      omega
theorem rowsP_app_one (a : List PyData) (k : PyData) (l : Int) : rowsP (a ++ [k]) l = rowsP a l ++ rowP k l := by rw [rowsP_app, rowsP, rowsP, List.append_nil]
section
variable {P : Program} {w : World} {K : PySem.W.Frag} {mg : Str → Option Value} {base : Heap}
abbrev sRowOf : Stmt := top 19
theorem scRowOf : FnScope ["tree", "level", "row", "kid", "tag", "kids"] ["tree", "level"] (defScope sRowOf) := ⟨rfl, rfl, rfl, by decide +kernel, rfl, by decide +kernel, by decide +kernel⟩
theorem ok_rowOf1 {f : Addr} {fd : FuncData} {n : Nat} (F : Fun K "row_of" "row_of" sRowOf f fd) (Urow_of : Use P w K mg base "row_of" ["tree", "level"] n (spD K 2 (tfRow n))) (T : Bl mg) :
    FnOk P w K mg base CX0 (n + 1) f fd ["tree", "level"] (spD K 2 (tfRow (n + 1))) := by
  refine okDL F scRowOf rfl fun cdv A outer s H E hr => ?_
  refine ⟨_, _, (pss_cons (ps_asg (pv 0) (pg_tup rfl (pgs_cons (pg_name (i := 4) scRowOf.nd rfl (.inl rfl)) (pgs_cons (pg_name (i := 5) scRowOf.nd rfl (.inl rfl)) pgs_nil))))
    (pss_cons (ps_set (i := 2) scRowOf.nd rfl (.inl rfl) (pe_lst (pa_cons (pe_tup (pa_cons (pv 1) (pa_cons (pv 4) pa_nil))) pa_nil)))
    (pss_cons (ps_for PassesOwn.never rfl (pi_tup (pv 5)) (pg_name (i := 3) scRowOf.nd rfl (.inl rfl)) (pss_one (ps_expr (pe_bm PySem.F.plainAttrs_list PySem.F.slot_list_extend PySem.F.type_list_extend mt_extT (pv 2) (pa_cons (pe_call Urow_of.ok (hr.mono (by omega)) rfl Urow_of.m Urow_of.kp Urow_of.b .nil pass0 (pa_cons (pv 3) (pa_cons (pe_op op_add (pv 1) pe_int) pa_nil))) pa_nil)))))
    (pss_one (ps_ret (pe_callTy call_tuple_of (by rfl) T.tuple PyProof.Rows.boot_tuple (pa_cons (pv 2) pa_nil))))))),
    (ss_cons (ss_unp sg_tup2 se_nm)
    (ss_cons (ss_set (se_lst (sa_cons (se_tup (sa_cons se_nm (sa_cons se_nm sa_nil))) sa_nil)))
    (ss_cons (ss_for (si_tup se_nm) sg_name (ss_drop (se_bmL sm_extT se_nm (sa_cons (se_call (sa_cons se_nm (sa_cons (se_op so_add se_nm se_int) sa_nil))) sa_nil))))
    (ss_ret (se_cb sc_tuple (sa_cons se_nm sa_nil)))))), fun ws M R RX hl h => ?_⟩
  obtain ⟨x, y, rfl, h1⟩ := g2_of h
  obtain ⟨d, rfl, h2⟩ := gD_of h1
  obtain ⟨l, rfl, ⟨ht, hn⟩, h3⟩ := gI_of h2
  obtain ⟨s0, ks, rfl, hs, hk⟩ := ht
  rw [rowP_node] at h3
  rw [nn] at hn
  clear h h1 h2 hl
  simp only [whileS, seqS, setS, retS, retN, dropS, ifS, nextS, unpS, setIx, forS, raiseS, breakS, contS, nmT, cT, opT, unT, tbT, andT, orT, notT, andV, orV, notV, ifT, chT, nilA, consA, tupT, lsfT, lstT, slT, noP, someP, rvF, rvT, cbT, callT, callX, frT, itTup, itLst, itStr, itR1, itR2, itEnT, itEnL, slot, put, hide, start0, g1, g2, gI, gS, gB, gT, gL, gD, gR, gW, gDs, gDs_map, gBs, gIs, gSs, gO, gRow, asD, fI, fIc, fAdd, fSub, fMul, fMod, fDiv, fPow, fLt, fLe, fGt, fGe, fNeg, fS, fAddS, fLeS, fRepS, fInS, isN, fIsN, fEqD, eqS, fEqS, fIxT, fIxL, fIxS, fSlT, fSlF, fSlL, fSlS, fCatT, fCatF, fCatL, fRepT, fLen, fLenS, fAll, fSum, fMax, fMax2, fTuple, fListF, fListL, fInt, fIsi, tyIs, bName, bPair, bTup2, fAppend, fExtend, yesT, bmL, lcF, lcL, itR3, itZip, augI, fMin2, ckT, fMaxD, joinT, fInQ, fRepr, fInsert, fPopAt, fExtT, tryA, tryB, tryO, clsW, keptX, fIsK, gCs, isKT, kfT, heldX, fIsS, isST, xfT, PySem.W.kitAny, List.map_cons, List.map_nil, List.cons_append, List.nil_append, List.length_cons, List.length_nil, List.replicate, String.reduceEq, if_true, if_false, Bool.false_eq_true, Bool.not_true, Bool.not_false, true_and, and_true, any1]
  intro p hp
  refine for1 (fun i ρ M' => M' = mset M p (.lst ((((l, PyData.str s0) :: rowsP (ks.take i) (l + 1)).map prD).map W.d)) ∧ ∃ y, ρ = [some (W.d (PyData.tuple [PyData.str s0, PyData.tuple ks])), some (W.d (PyData.int l)), some (W.r p), y, some (W.d (PyData.str s0)), some (W.d (PyData.tuple ks))])
    ⟨rfl, _, rfl⟩ (fun _ _ _ _ _ => trivial) (fun i kd ρ M' N hkd q hN => ?_) (fun ρ M' q => ?_)
  · obtain ⟨rfl, y, rfl⟩ := q
    have hm := List.mem_of_getElem? hkd
    have h1 := nn_mem hm
    have h2 := nnAll_take ks i
    simp only [whileS, seqS, setS, retS, retN, dropS, ifS, nextS, unpS, setIx, forS, raiseS, breakS, contS, nmT, cT, opT, unT, tbT, andT, orT, notT, andV, orV, notV, ifT, chT, nilA, consA, tupT, lsfT, lstT, slT, noP, someP, rvF, rvT, cbT, callT, callX, frT, itTup, itLst, itStr, itR1, itR2, itEnT, itEnL, slot, put, hide, start0, g1, g2, gI, gS, gB, gT, gL, gD, gR, gW, gDs, gDs_map, gBs, gIs, gSs, gO, gRow, asD, fI, fIc, fAdd, fSub, fMul, fMod, fDiv, fPow, fLt, fLe, fGt, fGe, fNeg, fS, fAddS, fLeS, fRepS, fInS, isN, fIsN, fEqD, eqS, fEqS, fIxT, fIxL, fIxS, fSlT, fSlF, fSlL, fSlS, fCatT, fCatF, fCatL, fRepT, fLen, fLenS, fAll, fSum, fMax, fMax2, fTuple, fListF, fListL, fInt, fIsi, tyIs, bName, bPair, bTup2, fAppend, fExtend, yesT, bmL, lcF, lcL, itR3, itZip, augI, fMin2, ckT, fMaxD, joinT, fInQ, fRepr, fInsert, fPopAt, fExtT, tryA, tryB, tryO, clsW, keptX, fIsK, gCs, isKT, kfT, heldX, fIsS, isST, xfT, PySem.W.kitAny, List.map_cons, List.map_nil, List.cons_append, List.nil_append, List.length_cons, List.length_nil, List.replicate, String.reduceEq, if_true, if_false, Bool.false_eq_true, Bool.not_true, Bool.not_false, true_and, and_true, any1, tfRow]
    refine ⟨⟨_, mset_same⟩, ⟨hk kd hm, by omega⟩, _, mset_same, ?_, ?_⟩
    · simp only [List.length_map, List.length_cons, rowsP_len (n := n) _ (fun x hx => hk x (List.mem_of_mem_take hx)), rowP_len (n := n) _ (hk kd hm)]
      exact sz1000 (by omega)
    · rw [mset_mset]
      refine hN _ _ ⟨?_, _, rfl⟩
      simp [List.take_add_one, hkd, rowsP_app_one]
  · obtain ⟨rfl, y, rfl⟩ := q
    rw [List.take_length]
    simp only [whileS, seqS, setS, retS, retN, dropS, ifS, nextS, unpS, setIx, forS, raiseS, breakS, contS, nmT, cT, opT, unT, tbT, andT, orT, notT, andV, orV, notV, ifT, chT, nilA, consA, tupT, lsfT, lstT, slT, noP, someP, rvF, rvT, cbT, callT, callX, frT, itTup, itLst, itStr, itR1, itR2, itEnT, itEnL, slot, put, hide, start0, g1, g2, gI, gS, gB, gT, gL, gD, gR, gW, gDs, gDs_map, gBs, gIs, gSs, gO, gRow, asD, fI, fIc, fAdd, fSub, fMul, fMod, fDiv, fPow, fLt, fLe, fGt, fGe, fNeg, fS, fAddS, fLeS, fRepS, fInS, isN, fIsN, fEqD, eqS, fEqS, fIxT, fIxL, fIxS, fSlT, fSlF, fSlL, fSlS, fCatT, fCatF, fCatL, fRepT, fLen, fLenS, fAll, fSum, fMax, fMax2, fTuple, fListF, fListL, fInt, fIsi, tyIs, bName, bPair, bTup2, fAppend, fExtend, yesT, bmL, lcF, lcL, itR3, itZip, augI, fMin2, ckT, fMaxD, joinT, fInQ, fRepr, fInsert, fPopAt, fExtT, tryA, tryB, tryO, clsW, keptX, fIsK, gCs, isKT, kfT, heldX, fIsS, isST, xfT, PySem.W.kitAny, List.map_cons, List.map_nil, List.cons_append, List.nil_append, List.length_cons, List.length_nil, List.replicate, String.reduceEq, if_true, if_false, Bool.false_eq_true, Bool.not_true, Bool.not_false, true_and, and_true, any1]
    refine ⟨_, mset_same, ?_⟩
    simp only [whileS, seqS, setS, retS, retN, dropS, ifS, nextS, unpS, setIx, forS, raiseS, breakS, contS, nmT, cT, opT, unT, tbT, andT, orT, notT, andV, orV, notV, ifT, chT, nilA, consA, tupT, lsfT, lstT, slT, noP, someP, rvF, rvT, cbT, callT, callX, frT, itTup, itLst, itStr, itR1, itR2, itEnT, itEnL, slot, put, hide, start0, g1, g2, gI, gS, gB, gT, gL, gD, gR, gW, gDs, gDs_map, gBs, gIs, gSs, gO, gRow, asD, fI, fIc, fAdd, fSub, fMul, fMod, fDiv, fPow, fLt, fLe, fGt, fGe, fNeg, fS, fAddS, fLeS, fRepS, fInS, isN, fIsN, fEqD, eqS, fEqS, fIxT, fIxL, fIxS, fSlT, fSlF, fSlL, fSlS, fCatT, fCatF, fCatL, fRepT, fLen, fLenS, fAll, fSum, fMax, fMax2, fTuple, fListF, fListL, fInt, fIsi, tyIs, bName, bPair, bTup2, fAppend, fExtend, yesT, bmL, lcF, lcL, itR3, itZip, augI, fMin2, ckT, fMaxD, joinT, fInQ, fRepr, fInsert, fPopAt, fExtT, tryA, tryB, tryO, clsW, keptX, fIsK, gCs, isKT, kfT, heldX, fIsS, isST, xfT, PySem.W.kitAny, List.map_cons, List.map_nil, List.cons_append, List.nil_append, List.length_cons, List.length_nil, List.replicate, String.reduceEq, if_true, if_false, Bool.false_eq_true, Bool.not_true, Bool.not_false, true_and, and_true, any1]
    exact ⟨M, fun a o h => by rw [mset_ne (fun z => by rw [z, hp] at h; cases h)]; exact h, h3⟩
theorem ok_rowOf {f : Addr} {fd : FuncData} (F : Fun K "row_of" "row_of" sRowOf f fd) (mF : mg "row_of" = some (.ref f)) (T : Bl mg) : ∀ n, FnOk P w K mg base CX0 n f fd ["tree", "level"] (spD K 2 (tfRow n))
  | 0 => no0 fun ws M R RX h => by
    obtain ⟨x, y, rfl, h1⟩ := g2_of h
    obtain ⟨d, rfl, h2⟩ := gD_of h1
    obtain ⟨l, rfl, ⟨ht, hn⟩, h3⟩ := gI_of h2
    exact ht
  | n + 1 => ok_rowOf1 F ⟨f, fd, ok_rowOf F mF T n, mF, F.kp, F.binds (ps := ["tree", "level"]) fun _ _ _ _ _ _ us hl => match us, hl with | [_, _], _ => rfl⟩ T
/-- a row of pairs, and a number within it -/
def gRw (ws : List W) (k : List Pr → Nat → Prop) : Prop := ∃ (r : List Pr) (i : Nat), ws = [.d (.tuple (r.map prD)), .d (.int (i : Nat))] ∧ i < r.length ∧ r.length ≤ 100 ∧ k r i
def tfBehind : TF := fun ws M R _ => gRw ws fun r i => ∀ p, r[i]? = some p → R (.d (.int (behind r i p.1 : Nat))) M
theorem at_pr {r : List Pr} {i : Nat} {p : Pr} (h : r[i]? = some p) : atI (r.map prD) (i : Int) = some (.tuple [.int p.1, p.2]) := atI_nat (by rw [List.getElem?_map, h]; rfl)
theorem at2 {α : Type} {a b : α} : atI [a, b] 0 = some a ∧ atI [a, b] 1 = some b := ⟨atI_nat (j := 0) rfl, atI_nat (j := 1) rfl⟩
theorem behind_go {r : List Pr} {l : Int} {i b : Nat} (h1 : i + 1 ≤ b) (h2 : b ≤ r.length) (h3 : ∀ j q, i + 1 ≤ j → j < b → r[j]? = some q → l < q.1) (h4 : ∀ q, r[b]? = some q → ¬ l < q.1) : behind r i l = b := by
  unfold behind
  have e : r.drop (i + 1) = (r.drop (i + 1)).take (b - (i + 1)) ++ r.drop b := by
    rw [show r.drop b = (r.drop (i + 1)).drop (b - (i + 1)) by rw [List.drop_drop]; congr 1; omega]
    exact (List.take_append_drop _ _).symm
  rw [e, takeWhile_app]
  · rw [List.length_take, List.length_drop]
    omega
  · intro q hq
    obtain ⟨j, hj, rfl⟩ := List.getElem_of_mem hq
    rw [List.length_take, List.length_drop] at hj
    refine decide_eq_true (h3 (i + 1 + j) _ (by omega) (by omega) ?_)
    rw [List.getElem_take, List.getElem_drop, List.getElem?_eq_getElem (by omega)]
  · intro q r' e
    refine decide_eq_false (h4 q ?_)
    rw [← Nat.add_zero b, ← List.getElem?_drop, e]
    rfl
abbrev sBehind : Stmt := top 21
theorem scBehind : FnScope ["row", "first", "behind"] ["row", "first"] (defScope sBehind) := ⟨rfl, rfl, rfl, by decide +kernel, rfl, by decide +kernel, by decide +kernel⟩
theorem ok_behind {f : Addr} {fd : FuncData} {k : Nat} (F : Fun K "behind_part" "behind_part" sBehind f fd) (T : Bl mg) : FnOk P w K mg base CX0 (k + 1) f fd ["row", "first"] (spD K 2 tfBehind) := by
  refine okD F scBehind rfl fun cdv A outer s H E hr => ?_
  refine ⟨_, _, (pss_cons (ps_set (i := 2) scBehind.nd rfl (.inl rfl) (pe_op op_add (pv 1) pe_int))
    (pss_cons (ps_while PassesOwn.never (PW.pt (pw_and (pt_cmpR op_lt (pv 2) (pe_callB call_len_seq (by rfl) T.len PySem.boot_len (pa_cons (pv 0) pa_nil)) (nomark _)) (pw_and1 (pt_cmpR op_gt (pe_ix ix_tup (pe_ix ix_tup (pv 0) (pv 2) (fun _ _ => rfl)) pe_int (fun _ _ => rfl)) (pe_ix ix_tup (pe_ix ix_tup (pv 0) (pv 1) (fun _ _ => rfl)) pe_int (fun _ _ => rfl)) (nomark _))))) (pss_one (ps_aug (i := 2) scBehind.nd rfl (.inl rfl) pe_int ip_add)))
    (pss_one (ps_ret (pv 2))))),
    (ss_cons (ss_set (se_op so_add se_nm se_int))
    (ss_cons (ss_while (st_and (st_test (se_op so_lt se_nm (se_cb sc_len (sa_cons se_nm sa_nil)))) (st_test (se_op so_gt (se_op so_ixT (se_op so_ixT se_nm se_nm) se_int) (se_op so_ixT (se_op so_ixT se_nm se_nm) se_int)))) (ss_augI se_int))
    (ss_ret se_nm))), fun ws M R RX hl h => ?_⟩
  obtain ⟨r, i, rfl, hi, hr2, h3⟩ := h
  obtain ⟨p, hp⟩ : ∃ p, r[i]? = some p := ⟨r[i], List.getElem?_eq_getElem hi⟩
  have h4 := h3 p hp
  simp only [whileS, seqS, setS, retS, retN, dropS, ifS, nextS, unpS, setIx, forS, raiseS, breakS, contS, nmT, cT, opT, unT, tbT, andT, orT, notT, andV, orV, notV, ifT, chT, nilA, consA, tupT, lsfT, lstT, slT, noP, someP, rvF, rvT, cbT, callT, callX, frT, itTup, itLst, itStr, itR1, itR2, itEnT, itEnL, slot, put, hide, start0, g1, g2, gI, gS, gB, gT, gL, gD, gR, gW, gDs, gDs_map, gBs, gIs, gSs, gO, gRow, asD, fI, fIc, fAdd, fSub, fMul, fMod, fDiv, fPow, fLt, fLe, fGt, fGe, fNeg, fS, fAddS, fLeS, fRepS, fInS, isN, fIsN, fEqD, eqS, fEqS, fIxT, fIxL, fIxS, fSlT, fSlF, fSlL, fSlS, fCatT, fCatF, fCatL, fRepT, fLen, fLenS, fAll, fSum, fMax, fMax2, fTuple, fListF, fListL, fInt, fIsi, tyIs, bName, bPair, bTup2, fAppend, fExtend, yesT, bmL, lcF, lcL, itR3, itZip, augI, fMin2, ckT, fMaxD, joinT, fInQ, fRepr, fInsert, fPopAt, fExtT, tryA, tryB, tryO, clsW, keptX, fIsK, gCs, isKT, kfT, heldX, fIsS, isST, xfT, PySem.W.kitAny, List.map_cons, List.map_nil, List.cons_append, List.nil_append, List.length_cons, List.length_nil, List.replicate, String.reduceEq, if_true, if_false, Bool.false_eq_true, Bool.not_true, Bool.not_false, true_and, and_true, any1]
  refine ⟨fun m ρ M' => ∃ b : Nat, ρ = [some (.d (.tuple (r.map prD))), some (.d (.int (i : Nat))), some (.d (.int (b : Nat)))] ∧ M' = M ∧ i + 1 ≤ b ∧ b ≤ r.length ∧ m = r.length - b ∧ ∀ j q, i + 1 ≤ j → j < b → r[j]? = some q → p.1 < q.1,
    ⟨_, i + 1, rfl, rfl, Nat.le_refl _, hi, rfl, fun j q h1 h2 => by omega⟩, fun m ρ M' q => ?_⟩
  obtain ⟨b, rfl, rfl, b1, b2, rfl, b3⟩ := q
  simp only [whileS, seqS, setS, retS, retN, dropS, ifS, nextS, unpS, setIx, forS, raiseS, breakS, contS, nmT, cT, opT, unT, tbT, andT, orT, notT, andV, orV, notV, ifT, chT, nilA, consA, tupT, lsfT, lstT, slT, noP, someP, rvF, rvT, cbT, callT, callX, frT, itTup, itLst, itStr, itR1, itR2, itEnT, itEnL, slot, put, hide, start0, g1, g2, gI, gS, gB, gT, gL, gD, gR, gW, gDs, gDs_map, gBs, gIs, gSs, gO, gRow, asD, fI, fIc, fAdd, fSub, fMul, fMod, fDiv, fPow, fLt, fLe, fGt, fGe, fNeg, fS, fAddS, fLeS, fRepS, fInS, isN, fIsN, fEqD, eqS, fEqS, fIxT, fIxL, fIxS, fSlT, fSlF, fSlL, fSlS, fCatT, fCatF, fCatL, fRepT, fLen, fLenS, fAll, fSum, fMax, fMax2, fTuple, fListF, fListL, fInt, fIsi, tyIs, bName, bPair, bTup2, fAppend, fExtend, yesT, bmL, lcF, lcL, itR3, itZip, augI, fMin2, ckT, fMaxD, joinT, fInQ, fRepr, fInsert, fPopAt, fExtT, tryA, tryB, tryO, clsW, keptX, fIsK, gCs, isKT, kfT, heldX, fIsS, isST, xfT, PySem.W.kitAny, List.map_cons, List.map_nil, List.cons_append, List.nil_append, List.length_cons, List.length_nil, List.replicate, String.reduceEq, if_true, if_false, Bool.false_eq_true, Bool.not_true, Bool.not_false, true_and, and_true, any1, at_pr hp, at2.1, List.length_map]
  refine iteD (fun c => ?_) (fun c => ?_)
  · have hb : b < r.length := by omega
    obtain ⟨q, hq⟩ : ∃ q, r[b]? = some q := ⟨r[b], List.getElem?_eq_getElem hb⟩
    simp only [whileS, seqS, setS, retS, retN, dropS, ifS, nextS, unpS, setIx, forS, raiseS, breakS, contS, nmT, cT, opT, unT, tbT, andT, orT, notT, andV, orV, notV, ifT, chT, nilA, consA, tupT, lsfT, lstT, slT, noP, someP, rvF, rvT, cbT, callT, callX, frT, itTup, itLst, itStr, itR1, itR2, itEnT, itEnL, slot, put, hide, start0, g1, g2, gI, gS, gB, gT, gL, gD, gR, gW, gDs, gDs_map, gBs, gIs, gSs, gO, gRow, asD, fI, fIc, fAdd, fSub, fMul, fMod, fDiv, fPow, fLt, fLe, fGt, fGe, fNeg, fS, fAddS, fLeS, fRepS, fInS, isN, fIsN, fEqD, eqS, fEqS, fIxT, fIxL, fIxS, fSlT, fSlF, fSlL, fSlS, fCatT, fCatF, fCatL, fRepT, fLen, fLenS, fAll, fSum, fMax, fMax2, fTuple, fListF, fListL, fInt, fIsi, tyIs, bName, bPair, bTup2, fAppend, fExtend, yesT, bmL, lcF, lcL, itR3, itZip, augI, fMin2, ckT, fMaxD, joinT, fInQ, fRepr, fInsert, fPopAt, fExtT, tryA, tryB, tryO, clsW, keptX, fIsK, gCs, isKT, kfT, heldX, fIsS, isST, xfT, PySem.W.kitAny, List.map_cons, List.map_nil, List.cons_append, List.nil_append, List.length_cons, List.length_nil, List.replicate, String.reduceEq, if_true, if_false, Bool.false_eq_true, Bool.not_true, Bool.not_false, true_and, and_true, any1, at_pr hq, at2.1]
    refine iteD (fun c2 => ?_) (fun c2 => ?_)
    · refine ⟨r.length - (b + 1), by omega, b + 1, by rw [show ((b : Int) + 1) = ((b + 1 : Nat) : Int) by omega], by omega, by omega, rfl, fun j q' h1 h2 h5 => ?_⟩
      by_cases z : j = b
      · subst z
        rw [hq] at h5
        cases h5
        exact c2
      · exact b3 j q' h1 (by omega) h5
    · rw [behind_go b1 b2 b3 (fun q' h5 => by rw [hq] at h5; cases h5; exact c2)] at h4
      exact h4
  · rw [behind_go b1 b2 b3 (fun q' h5 => by rw [List.getElem?_eq_none (by omega)] at h5; cases h5)] at h4
    exact h4
/-- the numbers of a place's kids -/
def kidsIx (r : List Pr) (i : Nat) (l : Int) : List Nat := ((List.range (behind r i l - (i + 1))).filter fun j => match r[i + 1 + j]? with | some p => decide (p.1 = l + 1) | none => false).map (i + 1 + ·)
def tfKids : TF := fun ws M R _ => gRw ws fun r i => ∀ p, r[i]? = some p → R (.d (.list ((kidsIx r i p.1).map fun n : Nat => .int (n : Int)))) M
theorem behind_le {r : List Pr} {i : Nat} {l : Int} (h : i < r.length) : i + 1 ≤ behind r i l ∧ behind r i l ≤ r.length := by
  unfold behind
  have := (List.takeWhile_sublist (p := fun p : Pr => decide (l < p.1)) (l := r.drop (i + 1))).length_le
  rw [List.length_drop] at this
  omega
abbrev sKidsIn : Stmt := top 22
theorem scKidsIn : FnScope ["row", "first", "level", "number"] ["row", "first"] (defScope sKidsIn) := ⟨rfl, rfl, rfl, by decide +kernel, rfl, by decide +kernel, by decide +kernel⟩
theorem ok_kidsIn {f : Addr} {fd : FuncData} {k j : Nat} (F : Fun K "kids_in" "kids_in" sKidsIn f fd) (Ubehind_part : Use P w K mg base "behind_part" ["row", "first"] j (spD K 2 tfBehind)) (hj : j ≤ k) (T : Bl mg) : FnOk P w K mg base CX0 (k + 1) f fd ["row", "first"] (spD K 2 tfKids) := by
  refine okD F scKidsIn rfl fun cdv A outer s H E hr => ?_
  refine ⟨_, _, (pss_cons (ps_set (i := 2) scKidsIn.nd rfl (.inr rfl) (pe_op op_add (pe_ix ix_tup (pe_ix ix_tup (pv 0) (pv 1) (fun _ _ => rfl)) pe_int (fun _ _ => rfl)) pe_int))
    (pss_one (ps_ret (pe_lc (own := [("number", 3)]) (g := gName 3) (by rfl) scKidsIn.nd (pi_range2 (by rfl) T.range (pa_cons (pe_op op_add (pv 1) pe_int) (pa_cons (pe_call Ubehind_part.ok (hr.mono (by omega)) rfl Ubehind_part.m Ubehind_part.kp Ubehind_part.b .nil pass0 (pa_cons (pv 0) (pa_cons (pv 1) pa_nil))) pa_nil))) (blkOk_by (N := ["row", "first", "level", "number"]) (sc := defScope sKidsIn) (own := [("number", 3)]) (by decide +kernel)) (fun _ _ _ _ _ => pg_name (i := 3) scKidsIn.nd rfl (Or.inl rfl)) (fun _ _ _ _ _ => (pts_one (pt_cmpR op_eq (pe_ix ix_tup (pe_ix ix_tup (pv 0) (pv 3) (fun _ _ => rfl)) pe_int (fun _ _ => rfl)) (pv 2) (nomark _)))) (fun _ _ _ _ _ => (pv 3)))))),
    (ss_cons (ss_set (se_op so_add (se_op so_ixT (se_op so_ixT se_nm se_nm) se_int) se_int))
    (ss_ret (se_lcF (si_r2 (sa_cons (se_op so_add se_nm se_int) (sa_cons (se_call (sa_cons se_nm (sa_cons se_nm sa_nil))) sa_nil))) sg_name (st_test (se_op so_eqS (se_op so_ixT (se_op so_ixT se_nm se_nm) se_int) se_nm)) se_nm))), fun ws M R RX hl h => ?_⟩
  obtain ⟨r, i, rfl, hi, hr2, h3⟩ := h
  obtain ⟨p, hp⟩ : ∃ p, r[i]? = some p := ⟨r[i], List.getElem?_eq_getElem hi⟩
  have h4 := h3 p hp
  obtain ⟨b1, b2⟩ := behind_le (l := p.1) hi
  simp only [whileS, seqS, setS, retS, retN, dropS, ifS, nextS, unpS, setIx, forS, raiseS, breakS, contS, nmT, cT, opT, unT, tbT, andT, orT, notT, andV, orV, notV, ifT, chT, nilA, consA, tupT, lsfT, lstT, slT, noP, someP, rvF, rvT, cbT, callT, callX, frT, itTup, itLst, itStr, itR1, itR2, itEnT, itEnL, slot, put, hide, start0, g1, g2, gI, gS, gB, gT, gL, gD, gR, gW, gDs, gDs_map, gBs, gIs, gSs, gO, gRow, asD, fI, fIc, fAdd, fSub, fMul, fMod, fDiv, fPow, fLt, fLe, fGt, fGe, fNeg, fS, fAddS, fLeS, fRepS, fInS, isN, fIsN, fEqD, eqS, fEqS, fIxT, fIxL, fIxS, fSlT, fSlF, fSlL, fSlS, fCatT, fCatF, fCatL, fRepT, fLen, fLenS, fAll, fSum, fMax, fMax2, fTuple, fListF, fListL, fInt, fIsi, tyIs, bName, bPair, bTup2, fAppend, fExtend, yesT, bmL, lcF, lcL, itR3, itZip, augI, fMin2, ckT, fMaxD, joinT, fInQ, fRepr, fInsert, fPopAt, fExtT, tryA, tryB, tryO, clsW, keptX, fIsK, gCs, isKT, kfT, heldX, fIsS, isST, xfT, PySem.W.kitAny, List.map_cons, List.map_nil, List.cons_append, List.nil_append, List.length_cons, List.length_nil, List.replicate, String.reduceEq, if_true, if_false, Bool.false_eq_true, Bool.not_true, Bool.not_false, true_and, and_true, any1]
  rw [at_pr hp]
  dsimp only
  rw [at2.1]
  dsimp only
  unfold tfBehind
  refine ⟨r, i, rfl, hi, hr2, fun q hq => ?_⟩
  rw [hp] at hq
  cases hq
  refine ⟨⟨sm_of (by omega) (by omega), sm_of (by omega) (by omega)⟩, ?_⟩
  unfold rng
  have e : (((behind r i p.1 : Nat) : Int) - ((i : Int) + 1)).toNat = behind r i p.1 - (i + 1) := by omega
  rw [e]
  refine lc1f (fun j => match r[i + 1 + j]? with | some p' => decide (p'.1 = p.1 + 1) | none => false) (fun j => .d (.int ((i + 1 + j : Nat) : Int))) trivial (fun j hj Rk Rn q1 q2 => ?_) (by rw [List.length_range]; exact sz1000 (by omega)) ?_
  · have hj2 := List.mem_range.mp hj
    obtain ⟨q, hq⟩ : ∃ q, r[i + 1 + j]? = some q := ⟨r[i + 1 + j]'(by omega), List.getElem?_eq_getElem _⟩
    rw [hq] at q1 q2
    have ev : ((i : Int) + 1 + (j : Int)) = ((i + 1 + j : Nat) : Int) := by omega
    simp only [whileS, seqS, setS, retS, retN, dropS, ifS, nextS, unpS, setIx, forS, raiseS, breakS, contS, nmT, cT, opT, unT, tbT, andT, orT, notT, andV, orV, notV, ifT, chT, nilA, consA, tupT, lsfT, lstT, slT, noP, someP, rvF, rvT, cbT, callT, callX, frT, itTup, itLst, itStr, itR1, itR2, itEnT, itEnL, slot, put, hide, start0, g1, g2, gI, gS, gB, gT, gL, gD, gR, gW, gDs, gDs_map, gBs, gIs, gSs, gO, gRow, asD, fI, fIc, fAdd, fSub, fMul, fMod, fDiv, fPow, fLt, fLe, fGt, fGe, fNeg, fS, fAddS, fLeS, fRepS, fInS, isN, fIsN, fEqD, eqS, fEqS, fIxT, fIxL, fIxS, fSlT, fSlF, fSlL, fSlS, fCatT, fCatF, fCatL, fRepT, fLen, fLenS, fAll, fSum, fMax, fMax2, fTuple, fListF, fListL, fInt, fIsi, tyIs, bName, bPair, bTup2, fAppend, fExtend, yesT, bmL, lcF, lcL, itR3, itZip, augI, fMin2, ckT, fMaxD, joinT, fInQ, fRepr, fInsert, fPopAt, fExtT, tryA, tryB, tryO, clsW, keptX, fIsK, gCs, isKT, kfT, heldX, fIsS, isST, xfT, PySem.W.kitAny, List.map_cons, List.map_nil, List.cons_append, List.nil_append, List.length_cons, List.length_nil, List.replicate, String.reduceEq, if_true, if_false, Bool.false_eq_true, Bool.not_true, Bool.not_false, true_and, and_true, any1]
    rw [ev]
    simp only [whileS, seqS, setS, retS, retN, dropS, ifS, nextS, unpS, setIx, forS, raiseS, breakS, contS, nmT, cT, opT, unT, tbT, andT, orT, notT, andV, orV, notV, ifT, chT, nilA, consA, tupT, lsfT, lstT, slT, noP, someP, rvF, rvT, cbT, callT, callX, frT, itTup, itLst, itStr, itR1, itR2, itEnT, itEnL, slot, put, hide, start0, g1, g2, gI, gS, gB, gT, gL, gD, gR, gW, gDs, gDs_map, gBs, gIs, gSs, gO, gRow, asD, fI, fIc, fAdd, fSub, fMul, fMod, fDiv, fPow, fLt, fLe, fGt, fGe, fNeg, fS, fAddS, fLeS, fRepS, fInS, isN, fIsN, fEqD, eqS, fEqS, fIxT, fIxL, fIxS, fSlT, fSlF, fSlL, fSlS, fCatT, fCatF, fCatL, fRepT, fLen, fLenS, fAll, fSum, fMax, fMax2, fTuple, fListF, fListL, fInt, fIsi, tyIs, bName, bPair, bTup2, fAppend, fExtend, yesT, bmL, lcF, lcL, itR3, itZip, augI, fMin2, ckT, fMaxD, joinT, fInQ, fRepr, fInsert, fPopAt, fExtT, tryA, tryB, tryO, clsW, keptX, fIsK, gCs, isKT, kfT, heldX, fIsS, isST, xfT, PySem.W.kitAny, List.map_cons, List.map_nil, List.cons_append, List.nil_append, List.length_cons, List.length_nil, List.replicate, String.reduceEq, if_true, if_false, Bool.false_eq_true, Bool.not_true, Bool.not_false, true_and, and_true, any1, at_pr hq, at2.1]
    refine iteD (fun c => ?_) (fun c => ?_)
    · exact q1 (decide_eq_true c)
    · exact q2 (decide_eq_false c)
  · have e2 : ∀ l : List Nat, l.map (fun j => W.d (.int ((i + 1 + j : Nat) : Int))) = ((l.map (i + 1 + ·)).map fun n : Nat => PyData.int (n : Int)).map W.d := fun l => by rw [List.map_map, List.map_map]; rfl
    rw [e2, gDs_map]
    exact h4
/-- a part is read back -/
def tfPart (n : Nat) : TF := fun ws M R _ => ∃ (pre post : List Pr) (l : Int) (d : PyData), ws = [.d (.tuple ((pre ++ rowP d l ++ post).map prD)), .d (.int (pre.length : Nat))] ∧ TrT n d ∧ Ends0 post l ∧ (pre ++ rowP d l ++ post).length ≤ 100 ∧ R (.d d) M
theorem kidsIx_row {n : Nat} {s : PyData} {ks : List PyData} {l : Int} (pre post : List Pr) (hk : ∀ k ∈ ks, TrT n k) (he : Ends0 post l) (hb : behind (pre ++ rowP (.tuple [s, .tuple ks]) l ++ post) pre.length l = pre.length + (1 + nnAll ks)) : kidsIx (pre ++ rowP (.tuple [s, .tuple ks]) l ++ post) pre.length l = kidPos ks (pre.length + 1) := by
  unfold kidsIx
  rw [hb]
  have := filter_atLev (pre ++ rowP (.tuple [s, .tuple ks]) l ++ post) (l + 1) (pre.length + (1 + nnAll ks) - (pre.length + 1)) (pre.length + 1) (rowsP ks (l + 1)) (by rw [rowsP_len _ hk]; omega) (fun j q hq => by
    have hj := (List.getElem?_eq_some_iff.mp hq).1
    rw [rowP_node, List.append_assoc, List.getElem?_append_right (by omega), show pre.length + 1 + j - pre.length = j + 1 by omega, List.cons_append, List.getElem?_cons_succ, List.getElem?_append_left hj]
    exact hq)
  exact this.trans (atLev_rows hk)
/-- the row around a kid -/
theorem row_kid {s : PyData} {ks : List PyData} {l : Int} {pre post : List Pr} {j : Nat} {k : PyData} (hj : ks[j]? = some k) : pre ++ rowP (.tuple [s, .tuple ks]) l ++ post = (pre ++ [(l, s)] ++ rowsP (ks.take j) (l + 1)) ++ rowP k (l + 1) ++ (rowsP (ks.drop (j + 1)) (l + 1) ++ post) := by
  have e : ks = ks.take j ++ [k] ++ ks.drop (j + 1) := by
    have h1 := (List.getElem?_eq_some_iff.mp hj).1
    have h2 := (List.getElem?_eq_some_iff.mp hj).2
    rw [List.append_assoc]
    conv => lhs; rw [← List.take_append_drop j ks, List.drop_eq_getElem_cons h1, h2]
    rfl
  rw [rowP_node]
  conv => lhs; rw [e, rowsP_app, rowsP_app]
  rw [show rowsP [k] (l + 1) = rowP k (l + 1) by rw [rowsP, rowsP, List.append_nil]]
  simp
theorem ends_kid {n : Nat} {ks : List PyData} {l : Int} {post : List Pr} (hk : ∀ k ∈ ks, TrT n k) (he : Ends0 post l) : Ends0 (rowsP ks (l + 1) ++ post) (l + 1) := by
  intro p r e
  cases ks with
  | nil =>
    rw [rowsP, List.nil_append] at e
    have := he p r e
    omega
  | cons k ks =>
    obtain ⟨s, ks', rfl, _, _⟩ := (hk k (.head _)).node
    rw [rowsP, rowP_node] at e
    cases e
    exact Int.le_refl _
abbrev sPartIn : Stmt := top 20
theorem scPartIn : FnScope ["row", "first", "kid"] ["row", "first"] (defScope sPartIn) := ⟨rfl, rfl, rfl, by decide +kernel, rfl, by decide +kernel, by decide +kernel⟩
theorem ok_partIn1 {f : Addr} {fd : FuncData} {n j : Nat} (F : Fun K "part_in" "part_in" sPartIn f fd) (Upart_in : Use P w K mg base "part_in" ["row", "first"] (j + n) (spD K 2 (tfPart n))) (Ukids_in : Use P w K mg base "kids_in" ["row", "first"] j (spD K 2 tfKids)) (T : Bl mg) :
    FnOk P w K mg base CX0 (j + n + 1) f fd ["row", "first"] (spD K 2 (tfPart (n + 1))) := by
  refine okD F scPartIn rfl fun cdv A outer s H E hr => ?_
  refine ⟨_, _, (pss_one (ps_ret (pe_tup (pa_cons (pe_ix ix_tup (pe_ix ix_tup (pv 0) (pv 1) (fun _ _ => rfl)) pe_int (fun _ _ => rfl)) (pa_cons (pe_callTy call_tuple_of (by rfl) T.tuple PyProof.Rows.boot_tuple (pa_cons (pe_lc (own := [("kid", 2)]) (g := gName 2) (tt := tYes) (by rfl) scPartIn.nd (pi_list (pe_call Ukids_in.ok (hr.mono (by omega)) rfl Ukids_in.m Ukids_in.kp Ukids_in.b .nil pass0 (pa_cons (pv 0) (pa_cons (pv 1) pa_nil)))) (blkOk_by (N := ["row", "first", "kid"]) (sc := defScope sPartIn) (own := [("kid", 2)]) (by decide +kernel)) (fun _ _ _ _ _ => pg_name (i := 2) scPartIn.nd rfl (Or.inl rfl)) (fun _ _ _ _ _ => pts_nil) (fun _ _ _ _ _ => (pe_call Upart_in.ok (hr.mono (by omega)) rfl Upart_in.m Upart_in.kp Upart_in.b .nil pass0 (pa_cons (pv 0) (pa_cons (pv 2) pa_nil))))) pa_nil)) pa_nil))))),
    (ss_ret (se_tup (sa_cons (se_op so_ixT (se_op so_ixT se_nm se_nm) se_int) (sa_cons (se_cb sc_tuple (sa_cons (se_lcF (si_lst (se_call (sa_cons se_nm (sa_cons se_nm sa_nil)))) sg_name st_yes (se_call (sa_cons se_nm (sa_cons se_nm sa_nil)))) sa_nil)) sa_nil)))), fun ws M R RX hl h => ?_⟩
  obtain ⟨pre, post, l, d, rfl, ⟨s0, ks, rfl, hs, hk⟩, he, hlen, h3⟩ := h
  have hb := behind_row (n := n + 1) ⟨s0, ks, rfl, hs, hk⟩ pre post he
  rw [nn] at hb
  have hkx := kidsIx_row (s := .str s0) pre post hk he hb
  have hp : (pre ++ rowP (.tuple [.str s0, .tuple ks]) l ++ post)[pre.length]? = some (l, .str s0) := by
    rw [rowP_node, List.append_assoc, List.getElem?_append_right (Nat.le_refl _), Nat.sub_self]
    rfl
  have hi := (List.getElem?_eq_some_iff.mp hp).1
  simp only [whileS, seqS, setS, retS, retN, dropS, ifS, nextS, unpS, setIx, forS, raiseS, breakS, contS, nmT, cT, opT, unT, tbT, andT, orT, notT, andV, orV, notV, ifT, chT, nilA, consA, tupT, lsfT, lstT, slT, noP, someP, rvF, rvT, cbT, callT, callX, frT, itTup, itLst, itStr, itR1, itR2, itEnT, itEnL, slot, put, hide, start0, g1, g2, gI, gS, gB, gT, gL, gD, gR, gW, gDs, gDs_map, gBs, gIs, gSs, gO, gRow, asD, fI, fIc, fAdd, fSub, fMul, fMod, fDiv, fPow, fLt, fLe, fGt, fGe, fNeg, fS, fAddS, fLeS, fRepS, fInS, isN, fIsN, fEqD, eqS, fEqS, fIxT, fIxL, fIxS, fSlT, fSlF, fSlL, fSlS, fCatT, fCatF, fCatL, fRepT, fLen, fLenS, fAll, fSum, fMax, fMax2, fTuple, fListF, fListL, fInt, fIsi, tyIs, bName, bPair, bTup2, fAppend, fExtend, yesT, bmL, lcF, lcL, itR3, itZip, augI, fMin2, ckT, fMaxD, joinT, fInQ, fRepr, fInsert, fPopAt, fExtT, tryA, tryB, tryO, clsW, keptX, fIsK, gCs, isKT, kfT, heldX, fIsS, isST, xfT, PySem.W.kitAny, List.map_cons, List.map_nil, List.cons_append, List.nil_append, List.length_cons, List.length_nil, List.replicate, String.reduceEq, if_true, if_false, Bool.false_eq_true, Bool.not_true, Bool.not_false, true_and, and_true, any1, at_pr hp, at2.2, tfKids]
  refine ⟨_, pre.length, rfl, hi, hlen, fun q hq => ?_⟩
  rw [hp] at hq
  cases hq
  rw [hkx, List.map_map]
  have nl : ks.length ≤ 100 := by
    have := len_nn ks
    have e := rowsP_len (l + 1) hk
    rw [rowP_node, List.length_append, List.length_append, List.length_cons, e] at hlen
    omega
  refine lc_ix (ks.map W.d) (by rw [kidPos_len, List.length_map]) trivial (fun j p y h1 h2 Rk q => ?_) (by rw [kidPos_len]; exact sz1000 (by omega)) ?_
  · rw [List.getElem?_map] at h2
    obtain ⟨k, hkj, rfl⟩ := Option.map_eq_some_iff.mp h2
    have hpos := kidPos_get h1
    subst hpos
    simp only [whileS, seqS, setS, retS, retN, dropS, ifS, nextS, unpS, setIx, forS, raiseS, breakS, contS, nmT, cT, opT, unT, tbT, andT, orT, notT, andV, orV, notV, ifT, chT, nilA, consA, tupT, lsfT, lstT, slT, noP, someP, rvF, rvT, cbT, callT, callX, frT, itTup, itLst, itStr, itR1, itR2, itEnT, itEnL, slot, put, hide, start0, g1, g2, gI, gS, gB, gT, gL, gD, gR, gW, gDs, gDs_map, gBs, gIs, gSs, gO, gRow, asD, fI, fIc, fAdd, fSub, fMul, fMod, fDiv, fPow, fLt, fLe, fGt, fGe, fNeg, fS, fAddS, fLeS, fRepS, fInS, isN, fIsN, fEqD, eqS, fEqS, fIxT, fIxL, fIxS, fSlT, fSlF, fSlL, fSlS, fCatT, fCatF, fCatL, fRepT, fLen, fLenS, fAll, fSum, fMax, fMax2, fTuple, fListF, fListL, fInt, fIsi, tyIs, bName, bPair, bTup2, fAppend, fExtend, yesT, bmL, lcF, lcL, itR3, itZip, augI, fMin2, ckT, fMaxD, joinT, fInQ, fRepr, fInsert, fPopAt, fExtT, tryA, tryB, tryO, clsW, keptX, fIsK, gCs, isKT, kfT, heldX, fIsS, isST, xfT, PySem.W.kitAny, List.map_cons, List.map_nil, List.cons_append, List.nil_append, List.length_cons, List.length_nil, List.replicate, String.reduceEq, if_true, if_false, Bool.false_eq_true, Bool.not_true, Bool.not_false, true_and, and_true, any1, tfPart]
    refine ⟨pre ++ [(l, .str s0)] ++ rowsP (ks.take j) (l + 1), rowsP (ks.drop (j + 1)) (l + 1) ++ post, l + 1, k, ?_, hk k (List.mem_of_getElem? hkj), ends_kid (fun x hx => hk x (List.mem_of_mem_drop hx)) he, by rw [← row_kid hkj]; exact hlen, q⟩
    rw [← row_kid hkj, List.length_append, List.length_append, rowsP_len (n := n) _ (fun x hx => hk x (List.mem_of_mem_take hx))]
    rfl
  · rw [gDs_map]
    exact h3
theorem ok_partIn {f : Addr} {fd : FuncData} {j : Nat} (F : Fun K "part_in" "part_in" sPartIn f fd) (mF : mg "part_in" = some (.ref f)) (Ukids_in : Use P w K mg base "kids_in" ["row", "first"] j (spD K 2 tfKids)) (T : Bl mg) : ∀ n, FnOk P w K mg base CX0 (j + n) f fd ["row", "first"] (spD K 2 (tfPart n))
  | 0 => no0 fun ws M R RX h => by
    obtain ⟨pre, post, l, d, rfl, ht, _⟩ := h
    exact ht
  | n + 1 => ok_partIn1 F ⟨f, fd, ok_partIn F mF Ukids_in T n, mF, F.kp, F.binds (ps := ["row", "first"]) fun _ _ _ _ _ _ us hl => match us, hl with | [_, _], _ => rfl⟩ Ukids_in T
end
end Tl

set_option Elab.async false
set_option linter.all false
set_option maxRecDepth 100000
set_option maxHeartbeats 8000000
namespace Tl
open PySem L2 RZ
section
variable {P : Program} {w : World} {K : PySem.W.Frag} {mg : Str → Option Value} {base : Heap}
abbrev sLvTag : Stmt := top 25
theorem scLvTag : FnScope ["thing"] ["thing"] (defScope sLvTag) := ⟨rfl, rfl, rfl, by decide +kernel, rfl, by decide +kernel, by decide +kernel⟩
theorem ok_lvTag {f : Addr} {fd : FuncData} {k j j2 : Nat} (F : Fun K "is_level_and_tag" "is_level_and_tag" sLvTag f fd) (Uis_number : Use P w K mg base "is_number" ["thing", "most"] j (spD K 2 (tfB2 isNum))) (Uis_tag : Use P w K mg base "is_tag" ["thing"] j2 (spD K 1 (tfB isTag))) (hj : j ≤ k) (hj2 : j2 ≤ k) (T : Bl mg) (C : Cs mg) : FnOk P w K mg base CX0 (k + 1) f fd ["thing"] (spD K 1 (tfB lvTag)) := by
  refine okD F scLvTag rfl fun cdv A outer s H E hr => ?_
  refine ⟨_, _, (pss_one (ps_ret (pe_and (pe_callB (r := rIsi K) call_isi (by rfl) T.isi PyProof.Rows.boot_isinstance (pa_cons (pv 0) (pa_cons (b_tuple T) pa_nil))) (pe_and (pe_cmpR op_eq (pe_callB call_len_seq (by rfl) T.len PySem.boot_len (pa_cons (pv 0) pa_nil)) pe_int (nomark _)) (pe_and (pe_call Uis_number.ok (hr.mono (by omega)) rfl Uis_number.m Uis_number.kp Uis_number.b .nil pass0 (pa_cons (pe_ix ix_tup (pv 0) pe_int (fun _ _ => rfl)) (pa_cons (pe_op op_sub (c_DEPTH C) pe_int) pa_nil))) (pe_one (pe_call Uis_tag.ok (hr.mono (by omega)) rfl Uis_tag.m Uis_tag.kp Uis_tag.b .nil pass0 (pa_cons (pe_ix ix_tup (pv 0) pe_int (fun _ _ => rfl)) pa_nil)))))))),
    (ss_ret (se_and (se_cb sc_isi (sa_cons se_nm (sa_cons se_o sa_nil))) (se_and (se_op so_eqS (se_cb sc_len (sa_cons se_nm sa_nil)) se_int) (se_and (se_call (sa_cons (se_op so_ixT se_nm se_int) (sa_cons (se_op so_sub se_int se_int) sa_nil))) (se_call (sa_cons (se_op so_ixT se_nm se_int) sa_nil)))))), fun ws M R RX hl h => ?_⟩
  obtain ⟨x, rfl, h1⟩ := g1_of h
  obtain ⟨d, rfl, ht, h2⟩ := gD_of h1
  cases d with
  | tuple ds =>
    simp only [whileS, seqS, setS, retS, retN, dropS, ifS, nextS, unpS, setIx, forS, raiseS, breakS, contS, nmT, cT, opT, unT, tbT, andT, orT, notT, andV, orV, notV, ifT, chT, nilA, consA, tupT, lsfT, lstT, slT, noP, someP, rvF, rvT, cbT, callT, callX, frT, itTup, itLst, itStr, itR1, itR2, itEnT, itEnL, slot, put, hide, start0, g1, g2, gI, gS, gB, gT, gL, gD, gR, gW, gDs, gDs_map, gBs, gIs, gSs, gO, gRow, asD, fI, fIc, fAdd, fSub, fMul, fMod, fDiv, fPow, fLt, fLe, fGt, fGe, fNeg, fS, fAddS, fLeS, fRepS, fInS, isN, fIsN, fEqD, eqS, fEqS, fIxT, fIxL, fIxS, fSlT, fSlF, fSlL, fSlS, fCatT, fCatF, fCatL, fRepT, fLen, fLenS, fAll, fSum, fMax, fMax2, fTuple, fListF, fListL, fInt, fIsi, tyIs, bName, bPair, bTup2, fAppend, fExtend, yesT, bmL, lcF, lcL, itR3, itZip, augI, fMin2, ckT, fMaxD, joinT, fInQ, fRepr, fInsert, fPopAt, fExtT, tryA, tryB, tryO, clsW, keptX, fIsK, gCs, isKT, kfT, heldX, fIsS, isST, xfT, PySem.W.kitAny, List.map_cons, List.map_nil, List.cons_append, List.nil_append, List.length_cons, List.length_nil, List.replicate, String.reduceEq, if_true, if_false, Bool.false_eq_true, Bool.not_true, Bool.not_false, true_and, and_true, any1, isTup, tfB, tfB2]
    match ds with
    | [] => exact h2
    | [_] => exact h2
    | _ :: _ :: _ :: _ => exact h2
    | [a, b] =>
      have hta : txt a = true := by rw [txt] at ht; exact txtAll_get (i := 0) ht rfl
      have htb : txt b = true := by rw [txt] at ht; exact txtAll_get (i := 1) ht rfl
      rw [lvTag] at h2
      simp only [whileS, seqS, setS, retS, retN, dropS, ifS, nextS, unpS, setIx, forS, raiseS, breakS, contS, nmT, cT, opT, unT, tbT, andT, orT, notT, andV, orV, notV, ifT, chT, nilA, consA, tupT, lsfT, lstT, slT, noP, someP, rvF, rvT, cbT, callT, callX, frT, itTup, itLst, itStr, itR1, itR2, itEnT, itEnL, slot, put, hide, start0, g1, g2, gI, gS, gB, gT, gL, gD, gR, gW, gDs, gDs_map, gBs, gIs, gSs, gO, gRow, asD, fI, fIc, fAdd, fSub, fMul, fMod, fDiv, fPow, fLt, fLe, fGt, fGe, fNeg, fS, fAddS, fLeS, fRepS, fInS, isN, fIsN, fEqD, eqS, fEqS, fIxT, fIxL, fIxS, fSlT, fSlF, fSlL, fSlS, fCatT, fCatF, fCatL, fRepT, fLen, fLenS, fAll, fSum, fMax, fMax2, fTuple, fListF, fListL, fInt, fIsi, tyIs, bName, bPair, bTup2, fAppend, fExtend, yesT, bmL, lcF, lcL, itR3, itZip, augI, fMin2, ckT, fMaxD, joinT, fInQ, fRepr, fInsert, fPopAt, fExtT, tryA, tryB, tryO, clsW, keptX, fIsK, gCs, isKT, kfT, heldX, fIsS, isST, xfT, PySem.W.kitAny, List.map_cons, List.map_nil, List.cons_append, List.nil_append, List.length_cons, List.length_nil, List.replicate, String.reduceEq, if_true, if_false, Bool.false_eq_true, Bool.not_true, Bool.not_false, true_and, and_true, any1, at2.1, at2.2]
      refine ⟨hta, ?_⟩
      rw [show ((12 : Int) - 1) = 11 from rfl]
      cases c : isNum 11 a
      · rw [c] at h2; exact h2
      · rw [c] at h2
        rw [if_pos rfl]
        exact ⟨htb, h2⟩
  | _ => simp only [whileS, seqS, setS, retS, retN, dropS, ifS, nextS, unpS, setIx, forS, raiseS, breakS, contS, nmT, cT, opT, unT, tbT, andT, orT, notT, andV, orV, notV, ifT, chT, nilA, consA, tupT, lsfT, lstT, slT, noP, someP, rvF, rvT, cbT, callT, callX, frT, itTup, itLst, itStr, itR1, itR2, itEnT, itEnL, slot, put, hide, start0, g1, g2, gI, gS, gB, gT, gL, gD, gR, gW, gDs, gDs_map, gBs, gIs, gSs, gO, gRow, asD, fI, fIc, fAdd, fSub, fMul, fMod, fDiv, fPow, fLt, fLe, fGt, fGe, fNeg, fS, fAddS, fLeS, fRepS, fInS, isN, fIsN, fEqD, eqS, fEqS, fIxT, fIxL, fIxS, fSlT, fSlF, fSlL, fSlS, fCatT, fCatF, fCatL, fRepT, fLen, fLenS, fAll, fSum, fMax, fMax2, fTuple, fListF, fListL, fInt, fIsi, tyIs, bName, bPair, bTup2, fAppend, fExtend, yesT, bmL, lcF, lcL, itR3, itZip, augI, fMin2, ckT, fMaxD, joinT, fInQ, fRepr, fInsert, fPopAt, fExtT, tryA, tryB, tryO, clsW, keptX, fIsK, gCs, isKT, kfT, heldX, fIsS, isST, xfT, PySem.W.kitAny, List.map_cons, List.map_nil, List.cons_append, List.nil_append, List.length_cons, List.length_nil, List.replicate, String.reduceEq, if_true, if_false, Bool.false_eq_true, Bool.not_true, Bool.not_false, true_and, and_true, any1, isTup]; exact h2
abbrev sIsFlat : Stmt := top 24
theorem scIsFlat : FnScope ["thing", "low", "high", "pair"] ["thing"] (defScope sIsFlat) := ⟨rfl, rfl, rfl, by decide +kernel, rfl, by decide +kernel, by decide +kernel⟩
theorem ok_isFlat {f : Addr} {fd : FuncData} {k j : Nat} (F : Fun K "is_flat" "is_flat" sIsFlat f fd) (Uis_level_and_tag : Use P w K mg base "is_level_and_tag" ["thing"] j (spD K 1 (tfB lvTag))) (hj : j ≤ k) (T : Bl mg) (C : Cs mg) : FnOk P w K mg base CX0 (k + 1) f fd ["thing"] (spD K 1 (tfB isFlatD)) := by
  refine okD F scIsFlat rfl fun cdv A outer s H E hr => ?_
  refine ⟨_, _, (pss_cons (ps_if (PW.pt (pw_or (pt_not (pt_val (pe_callB (r := rIsi K) call_isi (by rfl) T.isi PyProof.Rows.boot_isinstance (pa_cons (pv 0) (pa_cons (b_tuple T) pa_nil))))) (pw_or1 (pt_not (pt_chain op_le op_le pe_int (pe_callB call_len_seq (by rfl) T.len PySem.boot_len (pa_cons (pv 0) pa_nil)) (c_SIZE C)))))) (pss_one (ps_ret pe_bl)) pss_nil)
    (pss_cons (ps_set (i := 1) scIsFlat.nd rfl (.inl rfl) pe_int)
    (pss_cons (ps_set (i := 2) scIsFlat.nd rfl (.inl rfl) pe_int)
    (pss_cons (ps_for PassesOwn.never rfl (pi_tup (pv 0)) (pg_name (i := 3) scIsFlat.nd rfl (.inl rfl)) (pss_cons (ps_if (PW.pt (pw_or (pt_not (pt_val (pe_call Uis_level_and_tag.ok (hr.mono (by omega)) rfl Uis_level_and_tag.m Uis_level_and_tag.kp Uis_level_and_tag.b .nil pass0 (pa_cons (pv 3) pa_nil)))) (pw_or1 (pt_not (pt_chain op_le op_le (pv 1) (pe_ix ix_tup (pv 3) pe_int (fun _ _ => rfl)) (pv 2)))))) (pss_one (ps_ret pe_bl)) pss_nil)
      (pss_cons (ps_set (i := 1) scIsFlat.nd rfl (.inl rfl) pe_int)
      (pss_one (ps_set (i := 2) scIsFlat.nd rfl (.inl rfl) (pe_op op_add (pe_ix ix_tup (pv 3) pe_int (fun _ _ => rfl)) pe_int))))))
    (pss_one (ps_ret pe_bl)))))),
    (ss_cons (ss_if (st_or (st_not (st_val (se_cb sc_isi (sa_cons se_nm (sa_cons se_o sa_nil))))) (st_not (st_test (se_chain so_le so_le se_int (se_cb sc_len (sa_cons se_nm sa_nil)) se_int)))) (ss_ret se_bl) ss_nil)
    (ss_cons (ss_set se_int)
    (ss_cons (ss_set se_int)
    (ss_cons (ss_for (si_tup se_nm) sg_name (ss_cons (ss_if (st_or (st_not (st_val (se_call (sa_cons se_nm sa_nil)))) (st_not (st_test (se_chain so_le so_le se_nm (se_op so_ixT se_nm se_int) se_nm)))) (ss_ret se_bl) ss_nil)
      (ss_cons (ss_set se_int)
      (ss_set (se_op so_add (se_op so_ixT se_nm se_int) se_int)))))
    (ss_ret se_bl))))), fun ws M R RX hl h => ?_⟩
  obtain ⟨x, rfl, h1⟩ := g1_of h
  obtain ⟨d, rfl, ht, h2⟩ := gD_of h1
  cases d with
  | tuple ds =>
    rw [txt] at ht
    rw [isFlatD] at h2
    simp only [whileS, seqS, setS, retS, retN, dropS, ifS, nextS, unpS, setIx, forS, raiseS, breakS, contS, nmT, cT, opT, unT, tbT, andT, orT, notT, andV, orV, notV, ifT, chT, nilA, consA, tupT, lsfT, lstT, slT, noP, someP, rvF, rvT, cbT, callT, callX, frT, itTup, itLst, itStr, itR1, itR2, itEnT, itEnL, slot, put, hide, start0, g1, g2, gI, gS, gB, gT, gL, gD, gR, gW, gDs, gDs_map, gBs, gIs, gSs, gO, gRow, asD, fI, fIc, fAdd, fSub, fMul, fMod, fDiv, fPow, fLt, fLe, fGt, fGe, fNeg, fS, fAddS, fLeS, fRepS, fInS, isN, fIsN, fEqD, eqS, fEqS, fIxT, fIxL, fIxS, fSlT, fSlF, fSlL, fSlS, fCatT, fCatF, fCatL, fRepT, fLen, fLenS, fAll, fSum, fMax, fMax2, fTuple, fListF, fListL, fInt, fIsi, tyIs, bName, bPair, bTup2, fAppend, fExtend, yesT, bmL, lcF, lcL, itR3, itZip, augI, fMin2, ckT, fMaxD, joinT, fInQ, fRepr, fInsert, fPopAt, fExtT, tryA, tryB, tryO, clsW, keptX, fIsK, gCs, isKT, kfT, heldX, fIsS, isST, xfT, PySem.W.kitAny, List.map_cons, List.map_nil, List.cons_append, List.nil_append, List.length_cons, List.length_nil, List.replicate, String.reduceEq, if_true, if_false, Bool.false_eq_true, Bool.not_true, Bool.not_false, true_and, and_true, any1, isTup]
    refine iteD (fun c1 => iteN (fun c2 => ?_) (fun c2 => ?_)) (fun c1 => ?_)
    · rw [decide_eq_false (p := ds.length ≤ 60) (by omega), Bool.and_false, Bool.false_and] at h2
      exact h2
    · rw [decide_eq_true (p := 1 ≤ ds.length) (by omega), decide_eq_true (p := ds.length ≤ 60) (by omega), Bool.true_and, Bool.true_and] at h2
      refine for1 (fun i ρ M' => ∃ (lo hi : Int) (y : Option W), ρ = [some (.d (.tuple ds)), some (.d (.int lo)), some (.d (.int hi)), y] ∧ M' = M ∧ flatGo lo hi (ds.drop i) = flatGo 0 0 ds)
        ⟨0, 0, none, rfl, rfl, rfl⟩ (fun _ _ _ _ _ => trivial) (fun i kd ρ M' N hk p hN => ?_) (fun ρ M' p => ?_)
      · obtain ⟨lo, hi, y, rfl, rfl, hm⟩ := p
        have hi2 := (List.getElem?_eq_some_iff.mp hk).1
        have e : ds.drop i = kd :: ds.drop (i + 1) := by rw [List.drop_eq_getElem_cons hi2, (List.getElem?_eq_some_iff.mp hk).2]
        rw [e] at hm
        simp only [whileS, seqS, setS, retS, retN, dropS, ifS, nextS, unpS, setIx, forS, raiseS, breakS, contS, nmT, cT, opT, unT, tbT, andT, orT, notT, andV, orV, notV, ifT, chT, nilA, consA, tupT, lsfT, lstT, slT, noP, someP, rvF, rvT, cbT, callT, callX, frT, itTup, itLst, itStr, itR1, itR2, itEnT, itEnL, slot, put, hide, start0, g1, g2, gI, gS, gB, gT, gL, gD, gR, gW, gDs, gDs_map, gBs, gIs, gSs, gO, gRow, asD, fI, fIc, fAdd, fSub, fMul, fMod, fDiv, fPow, fLt, fLe, fGt, fGe, fNeg, fS, fAddS, fLeS, fRepS, fInS, isN, fIsN, fEqD, eqS, fEqS, fIxT, fIxL, fIxS, fSlT, fSlF, fSlL, fSlS, fCatT, fCatF, fCatL, fRepT, fLen, fLenS, fAll, fSum, fMax, fMax2, fTuple, fListF, fListL, fInt, fIsi, tyIs, bName, bPair, bTup2, fAppend, fExtend, yesT, bmL, lcF, lcL, itR3, itZip, augI, fMin2, ckT, fMaxD, joinT, fInQ, fRepr, fInsert, fPopAt, fExtT, tryA, tryB, tryO, clsW, keptX, fIsK, gCs, isKT, kfT, heldX, fIsS, isST, xfT, PySem.W.kitAny, List.map_cons, List.map_nil, List.cons_append, List.nil_append, List.length_cons, List.length_nil, List.replicate, String.reduceEq, if_true, if_false, Bool.false_eq_true, Bool.not_true, Bool.not_false, true_and, and_true, any1, tfB]
        refine ⟨txtAll_get ht hk, ?_⟩
        cases c : lvTag kd with
        | false =>
          rw [flatGo_no c] at hm
          rw [← hm] at h2
          exact h2
        | true =>
          obtain ⟨l, t, rfl, l0, l1, htag⟩ := lvTag_of c
          rw [flatGo_yes c] at hm
          simp only [whileS, seqS, setS, retS, retN, dropS, ifS, nextS, unpS, setIx, forS, raiseS, breakS, contS, nmT, cT, opT, unT, tbT, andT, orT, notT, andV, orV, notV, ifT, chT, nilA, consA, tupT, lsfT, lstT, slT, noP, someP, rvF, rvT, cbT, callT, callX, frT, itTup, itLst, itStr, itR1, itR2, itEnT, itEnL, slot, put, hide, start0, g1, g2, gI, gS, gB, gT, gL, gD, gR, gW, gDs, gDs_map, gBs, gIs, gSs, gO, gRow, asD, fI, fIc, fAdd, fSub, fMul, fMod, fDiv, fPow, fLt, fLe, fGt, fGe, fNeg, fS, fAddS, fLeS, fRepS, fInS, isN, fIsN, fEqD, eqS, fEqS, fIxT, fIxL, fIxS, fSlT, fSlF, fSlL, fSlS, fCatT, fCatF, fCatL, fRepT, fLen, fLenS, fAll, fSum, fMax, fMax2, fTuple, fListF, fListL, fInt, fIsi, tyIs, bName, bPair, bTup2, fAppend, fExtend, yesT, bmL, lcF, lcL, itR3, itZip, augI, fMin2, ckT, fMaxD, joinT, fInQ, fRepr, fInsert, fPopAt, fExtT, tryA, tryB, tryO, clsW, keptX, fIsK, gCs, isKT, kfT, heldX, fIsS, isST, xfT, PySem.W.kitAny, List.map_cons, List.map_nil, List.cons_append, List.nil_append, List.length_cons, List.length_nil, List.replicate, String.reduceEq, if_true, if_false, Bool.false_eq_true, Bool.not_true, Bool.not_false, true_and, and_true, any1, at2.1]
          refine iteD (fun c1 => iteN (fun c2 => ?_) (fun c2 => ?_)) (fun c1 => ?_)
          · rw [decide_eq_true c1, decide_eq_false c2, Bool.true_and, Bool.false_and] at hm
            rw [← hm] at h2
            exact h2
          · rw [decide_eq_true c1, decide_eq_true c2, Bool.true_and, Bool.true_and] at hm
            exact hN _ _ ⟨1, l + 1, _, rfl, rfl, hm⟩
          · rw [decide_eq_false c1, Bool.false_and, Bool.false_and] at hm
            rw [← hm] at h2
            exact h2
      · obtain ⟨lo, hi, y, rfl, rfl, hm⟩ := p
        rw [List.drop_length, flatGo] at hm
        rw [← hm] at h2
        exact h2
    · rw [decide_eq_false (p := 1 ≤ ds.length) (by omega), Bool.false_and, Bool.false_and] at h2
      exact h2
  | _ => simp only [whileS, seqS, setS, retS, retN, dropS, ifS, nextS, unpS, setIx, forS, raiseS, breakS, contS, nmT, cT, opT, unT, tbT, andT, orT, notT, andV, orV, notV, ifT, chT, nilA, consA, tupT, lsfT, lstT, slT, noP, someP, rvF, rvT, cbT, callT, callX, frT, itTup, itLst, itStr, itR1, itR2, itEnT, itEnL, slot, put, hide, start0, g1, g2, gI, gS, gB, gT, gL, gD, gR, gW, gDs, gDs_map, gBs, gIs, gSs, gO, gRow, asD, fI, fIc, fAdd, fSub, fMul, fMod, fDiv, fPow, fLt, fLe, fGt, fGe, fNeg, fS, fAddS, fLeS, fRepS, fInS, isN, fIsN, fEqD, eqS, fEqS, fIxT, fIxL, fIxS, fSlT, fSlF, fSlL, fSlS, fCatT, fCatF, fCatL, fRepT, fLen, fLenS, fAll, fSum, fMax, fMax2, fTuple, fListF, fListL, fInt, fIsi, tyIs, bName, bPair, bTup2, fAppend, fExtend, yesT, bmL, lcF, lcL, itR3, itZip, augI, fMin2, ckT, fMaxD, joinT, fInQ, fRepr, fInsert, fPopAt, fExtT, tryA, tryB, tryO, clsW, keptX, fIsK, gCs, isKT, kfT, heldX, fIsS, isST, xfT, PySem.W.kitAny, List.map_cons, List.map_nil, List.cons_append, List.nil_append, List.length_cons, List.length_nil, List.replicate, String.reduceEq, if_true, if_false, Bool.false_eq_true, Bool.not_true, Bool.not_false, true_and, and_true, any1, isTup]; exact h2
/-- the flat row of a tree, or NoTree -/
def tfFlatOf (C : Addr) : TF := fun ws M R RX => g1 ws fun x => gD x fun d => txt d = true ∧ (isTreeD d = true → R (.d (.tuple ((rowP d 0).map prD))) M) ∧ (isTreeD d = false → RX ⟨.ref C, []⟩ M)
abbrev sFlatOf : Stmt := top 26
theorem scFlatOf : FnScope ["tree"] ["tree"] (defScope sFlatOf) := ⟨rfl, rfl, rfl, by decide +kernel, rfl, by decide +kernel, by decide +kernel⟩
theorem ok_flatOf {f C : Addr} {fd : FuncData} {k j j2 n : Nat} (F : Fun K "flat_of" "flat_of" sFlatOf f fd) (Ucheck_tree : UseX P w K mg base "check_tree" ["thing"] j (spD K 1 (tfChk isTreeD C))) (Urow_of : Use P w K mg base "row_of" ["tree", "level"] j2 (spD K 2 (tfRow (12 + n)))) (hj : j ≤ k) (hj2 : j2 ≤ k) :
    FnOk P w K mg base (L2.CX P w) (k + 1) f fd ["tree"] (spD K 1 (tfFlatOf C)) := by
  refine okDX F scFlatOf rfl fun cdv A outer s H E hr => ?_
  refine ⟨_, fun RE => _, (pss_cons (ps_expr (pe_callS Ucheck_tree.ok (hr.mono (by omega)) rfl Ucheck_tree.m Ucheck_tree.kp Ucheck_tree.b (fun σ => passAt (takes_of (E := E) rfl rfl rfl rfl) σ) (pa_cons (pv 0) pa_nil)))
    (pss_one (ps_ret (PE.nox (pe_call Urow_of.ok (hr.mono (by omega)) rfl Urow_of.m Urow_of.kp Urow_of.b .nil pass0 (pa_cons (pv 0) (pa_cons pe_int pa_nil))))))), fun RE => (ss_cons (ss_drop (se_callX (sa_cons se_nm sa_nil)))
    (ss_ret (se_call (sa_cons se_nm (sa_cons se_int sa_nil))))), fun ws M R RX hl h => ?_⟩
  obtain ⟨x, rfl, h1⟩ := g1_of h
  obtain ⟨d, rfl, ht, h2, h3⟩ := gD_of h1
  simp only [whileS, seqS, setS, retS, retN, dropS, ifS, nextS, unpS, setIx, forS, raiseS, breakS, contS, nmT, cT, opT, unT, tbT, andT, orT, notT, andV, orV, notV, ifT, chT, nilA, consA, tupT, lsfT, lstT, slT, noP, someP, rvF, rvT, cbT, callT, callX, frT, itTup, itLst, itStr, itR1, itR2, itEnT, itEnL, slot, put, hide, start0, g1, g2, gI, gS, gB, gT, gL, gD, gR, gW, gDs, gDs_map, gBs, gIs, gSs, gO, gRow, asD, fI, fIc, fAdd, fSub, fMul, fMod, fDiv, fPow, fLt, fLe, fGt, fGe, fNeg, fS, fAddS, fLeS, fRepS, fInS, isN, fIsN, fEqD, eqS, fEqS, fIxT, fIxL, fIxS, fSlT, fSlF, fSlL, fSlS, fCatT, fCatF, fCatL, fRepT, fLen, fLenS, fAll, fSum, fMax, fMax2, fTuple, fListF, fListL, fInt, fIsi, tyIs, bName, bPair, bTup2, fAppend, fExtend, yesT, bmL, lcF, lcL, itR3, itZip, augI, fMin2, ckT, fMaxD, joinT, fInQ, fRepr, fInsert, fPopAt, fExtT, tryA, tryB, tryO, clsW, keptX, fIsK, gCs, isKT, kfT, heldX, fIsS, isST, xfT, PySem.W.kitAny, List.map_cons, List.map_nil, List.cons_append, List.nil_append, List.length_cons, List.length_nil, List.replicate, String.reduceEq, if_true, if_false, Bool.false_eq_true, Bool.not_true, Bool.not_false, true_and, and_true, any1, tfChk, tfRow]
  refine ⟨ht, fun c => ?_, h3⟩
  obtain ⟨t1, t2⟩ := tree_iff.mp c
  exact ⟨⟨t1.mono (by omega), by omega⟩, h2 c⟩
/-- the tree of a flat row, or NoFlat -/
def tfOfFlat (C : Addr) : TF := fun ws M R RX => g1 ws fun x => gD x fun d => txt d = true ∧ ((∃ t, TrT 12 t ∧ nn t ≤ 60 ∧ d = .tuple ((rowP t 0).map prD) ∧ R (.d t) M) ∨ (isFlatD d = false ∧ RX ⟨.ref C, []⟩ M))
abbrev sOfFlat : Stmt := top 27
theorem scOfFlat : FnScope ["flat"] ["flat"] (defScope sOfFlat) := ⟨rfl, rfl, rfl, by decide +kernel, rfl, by decide +kernel, by decide +kernel⟩
theorem ok_ofFlat {f C : Addr} {fd : FuncData} {k j j2 n : Nat} (F : Fun K "tree_of_flat" "tree_of_flat" sOfFlat f fd) (XNoFlat : Er K mg "NoFlat" C) (Uis_flat : Use P w K mg base "is_flat" ["thing"] j (spD K 1 (tfB isFlatD))) (Upart_in : Use P w K mg base "part_in" ["row", "first"] j2 (spD K 2 (tfPart (12 + n)))) (hj : j ≤ k) (hj2 : j2 ≤ k) :
    FnOk P w K mg base (L2.CX P w) (k + 1) f fd ["flat"] (spD K 1 (tfOfFlat C)) := by
  refine okDX F scOfFlat rfl fun cdv A outer s H E hr => ?_
  refine ⟨_, fun RE => _, (pss_cons (ps_if (pt_not (pt_val (PE.nox (pe_call Uis_flat.ok (hr.mono (by omega)) rfl Uis_flat.m Uis_flat.kp Uis_flat.b .nil pass0 (pa_cons (pv 0) pa_nil))))) (pss_one (ps_raise rfl (takes_of (E := E) rfl rfl rfl rfl) (pmk_own0 PySem.F.excBase_ValueError XNoFlat.x XNoFlat.g XNoFlat.k (raises_own XNoFlat.b XNoFlat.t) (by exact rfl)))) pss_nil)
    (pss_one (ps_ret (PE.nox (pe_call Upart_in.ok (hr.mono (by omega)) rfl Upart_in.m Upart_in.kp Upart_in.b .nil pass0 (pa_cons (pv 0) (pa_cons pe_int pa_nil))))))), fun RE => (ss_cons (ss_if (st_not (st_val (se_call (sa_cons se_nm sa_nil)))) ss_raise0 ss_nil)
    (ss_ret (se_call (sa_cons se_nm (sa_cons se_int sa_nil))))), fun ws M R RX hl h => ?_⟩
  obtain ⟨x, rfl, h1⟩ := g1_of h
  obtain ⟨d, rfl, ht, h2⟩ := gD_of h1
  simp only [whileS, seqS, setS, retS, retN, dropS, ifS, nextS, unpS, setIx, forS, raiseS, breakS, contS, nmT, cT, opT, unT, tbT, andT, orT, notT, andV, orV, notV, ifT, chT, nilA, consA, tupT, lsfT, lstT, slT, noP, someP, rvF, rvT, cbT, callT, callX, frT, itTup, itLst, itStr, itR1, itR2, itEnT, itEnL, slot, put, hide, start0, g1, g2, gI, gS, gB, gT, gL, gD, gR, gW, gDs, gDs_map, gBs, gIs, gSs, gO, gRow, asD, fI, fIc, fAdd, fSub, fMul, fMod, fDiv, fPow, fLt, fLe, fGt, fGe, fNeg, fS, fAddS, fLeS, fRepS, fInS, isN, fIsN, fEqD, eqS, fEqS, fIxT, fIxL, fIxS, fSlT, fSlF, fSlL, fSlS, fCatT, fCatF, fCatL, fRepT, fLen, fLenS, fAll, fSum, fMax, fMax2, fTuple, fListF, fListL, fInt, fIsi, tyIs, bName, bPair, bTup2, fAppend, fExtend, yesT, bmL, lcF, lcL, itR3, itZip, augI, fMin2, ckT, fMaxD, joinT, fInQ, fRepr, fInsert, fPopAt, fExtT, tryA, tryB, tryO, clsW, keptX, fIsK, gCs, isKT, kfT, heldX, fIsS, isST, xfT, PySem.W.kitAny, List.map_cons, List.map_nil, List.cons_append, List.nil_append, List.length_cons, List.length_nil, List.replicate, String.reduceEq, if_true, if_false, Bool.false_eq_true, Bool.not_true, Bool.not_false, true_and, and_true, any1, tfB, tfPart]
  refine ⟨ht, ?_⟩
  rcases h2 with ⟨t, t1, t2, rfl, h2⟩ | ⟨c, h2⟩
  · rw [isFlat_row t1 t2]
    simp only [Bool.not_true, Bool.false_eq_true, if_false]
    refine ⟨[], [], 0, t, ?_, t1.mono (by omega), (fun p r e => by cases e), ?_, h2⟩
    · simp
    · rw [List.nil_append, List.append_nil, rowP_len 0 t1]
      omega
  · rw [c]
    exact h2
/-- the law's own row -/
def tfLFlat (n : Nat) : TF := fun ws M R _ => g2 ws fun x y => gD x fun d => gI y fun l => (TrT n d ∧ nn d ≤ 100) ∧ R (.d (.list ((rowP d l).map prD))) M
abbrev sLFlat : Stmt := top 33
theorem scLFlat : FnScope ["_law_tree_here", "_law_level", "_law_found", "_law_kid"] ["_law_tree_here", "_law_level"] (defScope sLFlat) := ⟨rfl, rfl, rfl, by decide +kernel, rfl, by decide +kernel, by decide +kernel⟩
theorem ok_lflat1 {f : Addr} {fd : FuncData} {n : Nat} (F : Fun K "_law_flat" "_law_flat" sLFlat f fd) (U_law_flat : Use P w K mg base "_law_flat" ["_law_tree_here", "_law_level"] n (spD K 2 (tfLFlat n))) (T : Bl mg) :
    FnOk P w K mg base CX0 (n + 1) f fd ["_law_tree_here", "_law_level"] (spD K 2 (tfLFlat (n + 1))) := by
  refine okD F scLFlat rfl fun cdv A outer s H E hr => ?_
  refine ⟨_, _, (pss_cons (ps_set (i := 2) scLFlat.nd rfl (.inl rfl) (pe_lst (pa_cons (pe_tup (pa_cons (pv 1) (pa_cons (pe_ix ix_tup (pv 0) pe_int (fun _ _ => rfl)) pa_nil))) pa_nil)))
    (pss_cons (ps_for PassesOwn.never rfl (pi_tup (pe_ix ix_tup (pv 0) pe_int (fun _ _ => rfl))) (pg_name (i := 3) scLFlat.nd rfl (.inl rfl)) (pss_one (ps_set (i := 2) scLFlat.nd rfl (.inl rfl) (pe_op op_cat (pv 2) (pe_call U_law_flat.ok (hr.mono (by omega)) rfl U_law_flat.m U_law_flat.kp U_law_flat.b .nil pass0 (pa_cons (pv 3) (pa_cons (pe_op op_add (pv 1) pe_int) pa_nil)))))))
    (pss_one (ps_ret (pv 2))))),
    (ss_cons (ss_set (se_lsf (sa_cons (se_tup (sa_cons se_nm (sa_cons (se_op so_ixT se_nm se_int) sa_nil))) sa_nil)))
    (ss_cons (ss_for (si_tup (se_op so_ixT se_nm se_int)) sg_name (ss_set (se_op so_catF se_nm (se_call (sa_cons se_nm (sa_cons (se_op so_add se_nm se_int) sa_nil))))))
    (ss_ret se_nm))), fun ws M R RX hl h => ?_⟩
  obtain ⟨x, y, rfl, h1⟩ := g2_of h
  obtain ⟨d, rfl, h2⟩ := gD_of h1
  obtain ⟨l, rfl, ⟨ht, hn⟩, h3⟩ := gI_of h2
  obtain ⟨s0, ks, rfl, hs, hk⟩ := ht
  rw [rowP_node] at h3
  rw [nn] at hn
  clear h h1 h2 hl
  simp only [whileS, seqS, setS, retS, retN, dropS, ifS, nextS, unpS, setIx, forS, raiseS, breakS, contS, nmT, cT, opT, unT, tbT, andT, orT, notT, andV, orV, notV, ifT, chT, nilA, consA, tupT, lsfT, lstT, slT, noP, someP, rvF, rvT, cbT, callT, callX, frT, itTup, itLst, itStr, itR1, itR2, itEnT, itEnL, slot, put, hide, start0, g1, g2, gI, gS, gB, gT, gL, gD, gR, gW, gDs, gDs_map, gBs, gIs, gSs, gO, gRow, asD, fI, fIc, fAdd, fSub, fMul, fMod, fDiv, fPow, fLt, fLe, fGt, fGe, fNeg, fS, fAddS, fLeS, fRepS, fInS, isN, fIsN, fEqD, eqS, fEqS, fIxT, fIxL, fIxS, fSlT, fSlF, fSlL, fSlS, fCatT, fCatF, fCatL, fRepT, fLen, fLenS, fAll, fSum, fMax, fMax2, fTuple, fListF, fListL, fInt, fIsi, tyIs, bName, bPair, bTup2, fAppend, fExtend, yesT, bmL, lcF, lcL, itR3, itZip, augI, fMin2, ckT, fMaxD, joinT, fInQ, fRepr, fInsert, fPopAt, fExtT, tryA, tryB, tryO, clsW, keptX, fIsK, gCs, isKT, kfT, heldX, fIsS, isST, xfT, PySem.W.kitAny, List.map_cons, List.map_nil, List.cons_append, List.nil_append, List.length_cons, List.length_nil, List.replicate, String.reduceEq, if_true, if_false, Bool.false_eq_true, Bool.not_true, Bool.not_false, true_and, and_true, any1, at2.1, at2.2]
  refine for1 (fun i ρ M' => M' = M ∧ ∃ y, ρ = [some (W.d (PyData.tuple [PyData.str s0, PyData.tuple ks])), some (W.d (PyData.int l)), some (W.d (.list (((l, PyData.str s0) :: rowsP (ks.take i) (l + 1)).map prD))), y])
    ⟨rfl, _, rfl⟩ (fun _ _ _ _ _ => trivial) (fun i kd ρ M' N hkd q hN => ?_) (fun ρ M' q => ?_)
  · obtain ⟨rfl, y, rfl⟩ := q
    have hm := List.mem_of_getElem? hkd
    have h1 := nn_mem hm
    have h2 := nnAll_take ks i
    simp only [whileS, seqS, setS, retS, retN, dropS, ifS, nextS, unpS, setIx, forS, raiseS, breakS, contS, nmT, cT, opT, unT, tbT, andT, orT, notT, andV, orV, notV, ifT, chT, nilA, consA, tupT, lsfT, lstT, slT, noP, someP, rvF, rvT, cbT, callT, callX, frT, itTup, itLst, itStr, itR1, itR2, itEnT, itEnL, slot, put, hide, start0, g1, g2, gI, gS, gB, gT, gL, gD, gR, gW, gDs, gDs_map, gBs, gIs, gSs, gO, gRow, asD, fI, fIc, fAdd, fSub, fMul, fMod, fDiv, fPow, fLt, fLe, fGt, fGe, fNeg, fS, fAddS, fLeS, fRepS, fInS, isN, fIsN, fEqD, eqS, fEqS, fIxT, fIxL, fIxS, fSlT, fSlF, fSlL, fSlS, fCatT, fCatF, fCatL, fRepT, fLen, fLenS, fAll, fSum, fMax, fMax2, fTuple, fListF, fListL, fInt, fIsi, tyIs, bName, bPair, bTup2, fAppend, fExtend, yesT, bmL, lcF, lcL, itR3, itZip, augI, fMin2, ckT, fMaxD, joinT, fInQ, fRepr, fInsert, fPopAt, fExtT, tryA, tryB, tryO, clsW, keptX, fIsK, gCs, isKT, kfT, heldX, fIsS, isST, xfT, PySem.W.kitAny, List.map_cons, List.map_nil, List.cons_append, List.nil_append, List.length_cons, List.length_nil, List.replicate, String.reduceEq, if_true, if_false, Bool.false_eq_true, Bool.not_true, Bool.not_false, true_and, and_true, any1, tfLFlat]
    refine ⟨⟨hk kd hm, by omega⟩, ?_, ?_⟩
    · simp only [List.length_map, List.length_cons, rowsP_len (n := n) _ (fun x hx => hk x (List.mem_of_mem_take hx)), rowP_len (n := n) _ (hk kd hm)]
      exact sz1000 (by omega)
    · refine hN _ _ ⟨rfl, some (W.d kd), ?_⟩
      simp [List.take_add_one, hkd, rowsP_app_one]
  · obtain ⟨rfl, y, rfl⟩ := q
    rw [List.take_length]
    exact h3
theorem ok_lflat {f : Addr} {fd : FuncData} (F : Fun K "_law_flat" "_law_flat" sLFlat f fd) (mF : mg "_law_flat" = some (.ref f)) (T : Bl mg) : ∀ n, FnOk P w K mg base CX0 n f fd ["_law_tree_here", "_law_level"] (spD K 2 (tfLFlat n))
  | 0 => no0 fun ws M R RX h => by
    obtain ⟨x, y, rfl, h1⟩ := g2_of h
    obtain ⟨d, rfl, h2⟩ := gD_of h1
    obtain ⟨l, rfl, ⟨ht, hn⟩, h3⟩ := gI_of h2
    exact ht
  | n + 1 => ok_lflat1 F ⟨f, fd, ok_lflat F mF T n, mF, F.kp, F.binds (ps := ["_law_tree_here", "_law_level"]) fun _ _ _ _ _ _ us hl => match us, hl with | [_, _], _ => rfl⟩ T
end
end Tl

set_option Elab.async false
set_option linter.all false
set_option maxRecDepth 100000
set_option maxHeartbeats 8000000
namespace Tl
open PySem L2 RZ
theorem fil_small (cs : List Nat) : (cs.filter fun c => !small c).isEmpty = cs.all small := by
  induction cs with
  | nil => rfl
  | cons c r ih =>
    rw [List.filter_cons, List.all_cons]
    cases small c
    · rfl
    · rw [Bool.not_true, if_neg Bool.false_ne_true, ih, Bool.true_and]
theorem nd_signs : ∀ (cs : List Nat), PyData.hasDictAll (cs.map fun c => PyData.str ⟨#[c]⟩) = false
  | [] => rfl
  | c :: r => by rw [List.map_cons, PyData.hasDictAll, nd_signs r]; rfl
theorem eqOk_signs {s : Str} (h : PyData.strOk s = true) (p : Nat → Bool) : eqOk (.list ((s.cps.toList.filter p).map fun c => PyData.str ⟨#[c]⟩)) = true := by
  unfold eqOk
  rw [flat_shaped, PyData.hasDict, nd_signs]
  · rfl
  · rw [List.all_map, List.all_eq_true]
    intro c hc
    have hm := (List.mem_filter.mp hc).1
    rw [PyData.strOk, ← Array.all_toList, List.all_eq_true] at h
    have := h c hm
    show PyData.strOk ⟨#[c]⟩ = true
    rw [PyData.strOk, ← Array.all_toList, List.all_eq_true]
    intro x hx
    rw [List.mem_singleton.mp (show x ∈ [c] from hx)]
    exact this
section
variable {P : Program} {w : World} {K : PySem.W.Frag} {mg : Str → Option Value} {base : Heap}
abbrev sLIsFlat : Stmt := top 34
theorem scLIsFlat : FnScope ["_law_thing", "_law_last", "_law_pair", "_law_sign"] ["_law_thing"] (defScope sLIsFlat) := ⟨rfl, rfl, rfl, by decide +kernel, rfl, by decide +kernel, by decide +kernel⟩
theorem ok_lisFlat {f : Addr} {fd : FuncData} {k : Nat} (F : Fun K "_law_is_flat" "_law_is_flat" sLIsFlat f fd) (T : Bl mg) : FnOk P w K mg base CX0 (k + 1) f fd ["_law_thing"] (spD K 1 (tfB isFlatD)) := by
  refine okD F scLIsFlat rfl fun cdv A outer s H E hr => ?_
  refine ⟨_, _, (pss_cons (ps_if (PW.pt (pw_or (pt_not (pt_val (pe_callB (r := rIsi K) call_isi (by rfl) T.isi PyProof.Rows.boot_isinstance (pa_cons (pv 0) (pa_cons (b_tuple T) pa_nil))))) (pw_or (pt_cmpR op_eq (pe_callB call_len_seq (by rfl) T.len PySem.boot_len (pa_cons (pv 0) pa_nil)) pe_int (nomark _)) (pw_or1 (pt_cmpR op_gt (pe_callB call_len_seq (by rfl) T.len PySem.boot_len (pa_cons (pv 0) pa_nil)) pe_int (nomark _)))))) (pss_one (ps_ret pe_bl)) pss_nil)
    (pss_cons (ps_set (i := 1) scLIsFlat.nd rfl (.inl rfl) (pe_un un_neg pe_int))
    (pss_cons (ps_for PassesOwn.never rfl (pi_tup (pv 0)) (pg_name (i := 2) scLIsFlat.nd rfl (.inl rfl)) (pss_cons (ps_if (PW.pt (pw_or (pt_not (pt_val (pe_callB (r := rIsi K) call_isi (by rfl) T.isi PyProof.Rows.boot_isinstance (pa_cons (pv 2) (pa_cons (b_tuple T) pa_nil))))) (pw_or (pt_cmpR op_ne (pe_callB call_len_seq (by rfl) T.len PySem.boot_len (pa_cons (pv 2) pa_nil)) pe_int (nomark _)) (pw_or (pt_not (pt_val (pe_callB (r := rIsi K) call_isi (by rfl) T.isi PyProof.Rows.boot_isinstance (pa_cons (pe_ix ix_tup (pv 2) pe_int (fun _ _ => rfl)) (pa_cons (b_int T) pa_nil))))) (pw_or1 (pt_val (pe_callB (r := rIsi K) call_isi (by rfl) T.isi PyProof.Rows.boot_isinstance (pa_cons (pe_ix ix_tup (pv 2) pe_int (fun _ _ => rfl)) (pa_cons (b_bool T) pa_nil))))))))) (pss_one (ps_ret pe_bl)) pss_nil)
      (pss_cons (ps_if (PW.pt (pw_or (pt_not (pt_val (pe_callB (r := rIsi K) call_isi (by rfl) T.isi PyProof.Rows.boot_isinstance (pa_cons (pe_ix ix_tup (pv 2) pe_int (fun _ _ => rfl)) (pa_cons (b_str T) pa_nil))))) (pw_or1 (pt_not (pt_chain op_le op_le pe_int (pe_callB call_len_str (by rfl) T.len PySem.boot_len (pa_cons (pe_ix ix_tup (pv 2) pe_int (fun _ _ => rfl)) pa_nil)) pe_int))))) (pss_one (ps_ret pe_bl)) pss_nil)
      (pss_cons (ps_if (pt_cmpR (op_neD hr.units) (pe_lc (own := [("_law_sign", 3)]) (g := gName 3) (by rfl) scLIsFlat.nd (pi_str (pe_ix ix_tup (pv 2) pe_int (fun _ _ => rfl))) (blkOk_by (N := ["_law_thing", "_law_last", "_law_pair", "_law_sign"]) (sc := defScope sLIsFlat) (own := [("_law_sign", 3)]) (by decide +kernel)) (fun _ _ _ _ _ => pg_name (i := 3) scLIsFlat.nd rfl (Or.inl rfl)) (fun _ _ _ _ _ => (pts_one (pt_cmpR op_notIn_sign (pv 3) pe_str (by rfl)))) (fun _ _ _ _ _ => (pv 3))) (pe_lst pa_nil) (nomark _)) (pss_one (ps_ret pe_bl)) pss_nil)
      (pss_cons (ps_if (PW.pt (pw_or (pt_cmpR op_gt (pe_ix ix_tup (pv 2) pe_int (fun _ _ => rfl)) (pe_op op_add (pv 1) pe_int) (nomark _)) (pw_or (pt_cmpR op_gt (pe_ix ix_tup (pv 2) pe_int (fun _ _ => rfl)) pe_int (nomark _)) (pw_or1 (pt_cmpR op_lt (pe_ix ix_tup (pv 2) pe_int (fun _ _ => rfl)) (pe_callTy call_int1 (by rfl) T.int PyProof.Rows.boot_int (pa_cons (pe_cmpR op_ge (pv 1) pe_int (nomark _)) pa_nil)) (nomark _)))))) (pss_one (ps_ret pe_bl)) pss_nil)
      (pss_one (ps_set (i := 1) scLIsFlat.nd rfl (.inl rfl) (pe_ix ix_tup (pv 2) pe_int (fun _ _ => rfl)))))))))
    (pss_one (ps_ret pe_bl))))),
    (ss_cons (ss_if (st_or (st_not (st_val (se_cb sc_isi (sa_cons se_nm (sa_cons se_o sa_nil))))) (st_or (st_test (se_op so_eqS (se_cb sc_len (sa_cons se_nm sa_nil)) se_int)) (st_test (se_op so_gt (se_cb sc_len (sa_cons se_nm sa_nil)) se_int)))) (ss_ret se_bl) ss_nil)
    (ss_cons (ss_set (se_un su_neg se_int))
    (ss_cons (ss_for (si_tup se_nm) sg_name (ss_cons (ss_if (st_or (st_not (st_val (se_cb sc_isi (sa_cons se_nm (sa_cons se_o sa_nil))))) (st_or (st_test (se_op so_neS (se_cb sc_len (sa_cons se_nm sa_nil)) se_int)) (st_or (st_not (st_val (se_cb sc_isi (sa_cons (se_op so_ixT se_nm se_int) (sa_cons se_o sa_nil))))) (st_val (se_cb sc_isi (sa_cons (se_op so_ixT se_nm se_int) (sa_cons se_o sa_nil))))))) (ss_ret se_bl) ss_nil)
      (ss_cons (ss_if (st_or (st_not (st_val (se_cb sc_isi (sa_cons (se_op so_ixT se_nm se_int) (sa_cons se_o sa_nil))))) (st_not (st_test (se_chain so_le so_le se_int (se_cb sc_lenS (sa_cons (se_op so_ixT se_nm se_int) sa_nil)) se_int)))) (ss_ret se_bl) ss_nil)
      (ss_cons (ss_if (st_test (se_op so_neD (se_lcF (si_str (se_op so_ixT se_nm se_int)) sg_name (st_test (se_op so_ninS se_nm se_str)) se_nm) (se_lsf sa_nil))) (ss_ret se_bl) ss_nil)
      (ss_cons (ss_if (st_or (st_test (se_op so_gt (se_op so_ixT se_nm se_int) (se_op so_add se_nm se_int))) (st_or (st_test (se_op so_gt (se_op so_ixT se_nm se_int) se_int)) (st_test (se_op so_lt (se_op so_ixT se_nm se_int) (se_cb sc_int (sa_cons (se_op so_ge se_nm se_int) sa_nil)))))) (ss_ret se_bl) ss_nil)
      (ss_set (se_op so_ixT se_nm se_int)))))))
    (ss_ret se_bl)))), fun ws M R RX hl h => ?_⟩
  obtain ⟨x, rfl, h1⟩ := g1_of h
  obtain ⟨d, rfl, ht, h2⟩ := gD_of h1
  cases d with
  | tuple ds =>
    rw [txt] at ht
    rw [isFlatD] at h2
    simp only [whileS, seqS, setS, retS, retN, dropS, ifS, nextS, unpS, setIx, forS, raiseS, breakS, contS, nmT, cT, opT, unT, tbT, andT, orT, notT, andV, orV, notV, ifT, chT, nilA, consA, tupT, lsfT, lstT, slT, noP, someP, rvF, rvT, cbT, callT, callX, frT, itTup, itLst, itStr, itR1, itR2, itEnT, itEnL, slot, put, hide, start0, g1, g2, gI, gS, gB, gT, gL, gD, gR, gW, gDs, gDs_map, gBs, gIs, gSs, gO, gRow, asD, fI, fIc, fAdd, fSub, fMul, fMod, fDiv, fPow, fLt, fLe, fGt, fGe, fNeg, fS, fAddS, fLeS, fRepS, fInS, isN, fIsN, fEqD, eqS, fEqS, fIxT, fIxL, fIxS, fSlT, fSlF, fSlL, fSlS, fCatT, fCatF, fCatL, fRepT, fLen, fLenS, fAll, fSum, fMax, fMax2, fTuple, fListF, fListL, fInt, fIsi, tyIs, bName, bPair, bTup2, fAppend, fExtend, yesT, bmL, lcF, lcL, itR3, itZip, augI, fMin2, ckT, fMaxD, joinT, fInQ, fRepr, fInsert, fPopAt, fExtT, tryA, tryB, tryO, clsW, keptX, fIsK, gCs, isKT, kfT, heldX, fIsS, isST, xfT, PySem.W.kitAny, List.map_cons, List.map_nil, List.cons_append, List.nil_append, List.length_cons, List.length_nil, List.replicate, String.reduceEq, if_true, if_false, Bool.false_eq_true, Bool.not_true, Bool.not_false, true_and, and_true, any1, isTup]
    refine iteD (fun c1 => ?_) (fun c1 => iteD (fun c2 => ?_) (fun c2 => ?_))
    · rw [decide_eq_false (p := 1 ≤ ds.length) (by omega), Bool.false_and, Bool.false_and] at h2
      exact h2
    · rw [decide_eq_false (p := ds.length ≤ 60) (by omega), Bool.and_false, Bool.false_and] at h2
      exact h2
    · rw [decide_eq_true (p := 1 ≤ ds.length) (by omega), decide_eq_true (p := ds.length ≤ 60) (by omega), Bool.true_and, Bool.true_and] at h2
      refine for1 (fun i ρ M' => ∃ (la : Int) (y z : Option W), ρ = [some (.d (.tuple ds)), some (.d (.int la)), y, z] ∧ M' = M ∧ flatGo (if 0 ≤ la then 1 else 0) (la + 1) (ds.drop i) = flatGo 0 0 ds)
        ⟨-1, none, none, rfl, rfl, rfl⟩ (fun _ _ _ _ _ => trivial) (fun i kd ρ M' N hk p hN => ?_) (fun ρ M' p => ?_)
      · obtain ⟨la, y, z, rfl, rfl, hm⟩ := p
        have hi2 := (List.getElem?_eq_some_iff.mp hk).1
        have e : ds.drop i = kd :: ds.drop (i + 1) := by rw [List.drop_eq_getElem_cons hi2, (List.getElem?_eq_some_iff.mp hk).2]
        have htk := txtAll_get ht hk
        rw [e] at hm
        have no : lvTag kd = false → R (W.d (.bool false)) M' := fun c => by
          rw [flatGo_no c] at hm
          rw [← hm] at h2
          exact h2
        simp only [whileS, seqS, setS, retS, retN, dropS, ifS, nextS, unpS, setIx, forS, raiseS, breakS, contS, nmT, cT, opT, unT, tbT, andT, orT, notT, andV, orV, notV, ifT, chT, nilA, consA, tupT, lsfT, lstT, slT, noP, someP, rvF, rvT, cbT, callT, callX, frT, itTup, itLst, itStr, itR1, itR2, itEnT, itEnL, slot, put, hide, start0, g1, g2, gI, gS, gB, gT, gL, gD, gR, gW, gDs, gDs_map, gBs, gIs, gSs, gO, gRow, asD, fI, fIc, fAdd, fSub, fMul, fMod, fDiv, fPow, fLt, fLe, fGt, fGe, fNeg, fS, fAddS, fLeS, fRepS, fInS, isN, fIsN, fEqD, eqS, fEqS, fIxT, fIxL, fIxS, fSlT, fSlF, fSlL, fSlS, fCatT, fCatF, fCatL, fRepT, fLen, fLenS, fAll, fSum, fMax, fMax2, fTuple, fListF, fListL, fInt, fIsi, tyIs, bName, bPair, bTup2, fAppend, fExtend, yesT, bmL, lcF, lcL, itR3, itZip, augI, fMin2, ckT, fMaxD, joinT, fInQ, fRepr, fInsert, fPopAt, fExtT, tryA, tryB, tryO, clsW, keptX, fIsK, gCs, isKT, kfT, heldX, fIsS, isST, xfT, PySem.W.kitAny, List.map_cons, List.map_nil, List.cons_append, List.nil_append, List.length_cons, List.length_nil, List.replicate, String.reduceEq, if_true, if_false, Bool.false_eq_true, Bool.not_true, Bool.not_false, true_and, and_true, any1]
        cases kd with
        | tuple es =>
          simp only [whileS, seqS, setS, retS, retN, dropS, ifS, nextS, unpS, setIx, forS, raiseS, breakS, contS, nmT, cT, opT, unT, tbT, andT, orT, notT, andV, orV, notV, ifT, chT, nilA, consA, tupT, lsfT, lstT, slT, noP, someP, rvF, rvT, cbT, callT, callX, frT, itTup, itLst, itStr, itR1, itR2, itEnT, itEnL, slot, put, hide, start0, g1, g2, gI, gS, gB, gT, gL, gD, gR, gW, gDs, gDs_map, gBs, gIs, gSs, gO, gRow, asD, fI, fIc, fAdd, fSub, fMul, fMod, fDiv, fPow, fLt, fLe, fGt, fGe, fNeg, fS, fAddS, fLeS, fRepS, fInS, isN, fIsN, fEqD, eqS, fEqS, fIxT, fIxL, fIxS, fSlT, fSlF, fSlL, fSlS, fCatT, fCatF, fCatL, fRepT, fLen, fLenS, fAll, fSum, fMax, fMax2, fTuple, fListF, fListL, fInt, fIsi, tyIs, bName, bPair, bTup2, fAppend, fExtend, yesT, bmL, lcF, lcL, itR3, itZip, augI, fMin2, ckT, fMaxD, joinT, fInQ, fRepr, fInsert, fPopAt, fExtT, tryA, tryB, tryO, clsW, keptX, fIsK, gCs, isKT, kfT, heldX, fIsS, isST, xfT, PySem.W.kitAny, List.map_cons, List.map_nil, List.cons_append, List.nil_append, List.length_cons, List.length_nil, List.replicate, String.reduceEq, if_true, if_false, Bool.false_eq_true, Bool.not_true, Bool.not_false, true_and, and_true, any1, isTup]
          match es with
          | [] => exact no rfl
          | [_] => exact no rfl
          | _ :: _ :: _ :: _ => exact no rfl
          | [a, b] =>
            simp only [whileS, seqS, setS, retS, retN, dropS, ifS, nextS, unpS, setIx, forS, raiseS, breakS, contS, nmT, cT, opT, unT, tbT, andT, orT, notT, andV, orV, notV, ifT, chT, nilA, consA, tupT, lsfT, lstT, slT, noP, someP, rvF, rvT, cbT, callT, callX, frT, itTup, itLst, itStr, itR1, itR2, itEnT, itEnL, slot, put, hide, start0, g1, g2, gI, gS, gB, gT, gL, gD, gR, gW, gDs, gDs_map, gBs, gIs, gSs, gO, gRow, asD, fI, fIc, fAdd, fSub, fMul, fMod, fDiv, fPow, fLt, fLe, fGt, fGe, fNeg, fS, fAddS, fLeS, fRepS, fInS, isN, fIsN, fEqD, eqS, fEqS, fIxT, fIxL, fIxS, fSlT, fSlF, fSlL, fSlS, fCatT, fCatF, fCatL, fRepT, fLen, fLenS, fAll, fSum, fMax, fMax2, fTuple, fListF, fListL, fInt, fIsi, tyIs, bName, bPair, bTup2, fAppend, fExtend, yesT, bmL, lcF, lcL, itR3, itZip, augI, fMin2, ckT, fMaxD, joinT, fInQ, fRepr, fInsert, fPopAt, fExtT, tryA, tryB, tryO, clsW, keptX, fIsK, gCs, isKT, kfT, heldX, fIsS, isST, xfT, PySem.W.kitAny, List.map_cons, List.map_nil, List.cons_append, List.nil_append, List.length_cons, List.length_nil, List.replicate, String.reduceEq, if_true, if_false, Bool.false_eq_true, Bool.not_true, Bool.not_false, true_and, and_true, any1, at2.1, at2.2]
            cases a with
            | int l =>
              simp only [whileS, seqS, setS, retS, retN, dropS, ifS, nextS, unpS, setIx, forS, raiseS, breakS, contS, nmT, cT, opT, unT, tbT, andT, orT, notT, andV, orV, notV, ifT, chT, nilA, consA, tupT, lsfT, lstT, slT, noP, someP, rvF, rvT, cbT, callT, callX, frT, itTup, itLst, itStr, itR1, itR2, itEnT, itEnL, slot, put, hide, start0, g1, g2, gI, gS, gB, gT, gL, gD, gR, gW, gDs, gDs_map, gBs, gIs, gSs, gO, gRow, asD, fI, fIc, fAdd, fSub, fMul, fMod, fDiv, fPow, fLt, fLe, fGt, fGe, fNeg, fS, fAddS, fLeS, fRepS, fInS, isN, fIsN, fEqD, eqS, fEqS, fIxT, fIxL, fIxS, fSlT, fSlF, fSlL, fSlS, fCatT, fCatF, fCatL, fRepT, fLen, fLenS, fAll, fSum, fMax, fMax2, fTuple, fListF, fListL, fInt, fIsi, tyIs, bName, bPair, bTup2, fAppend, fExtend, yesT, bmL, lcF, lcL, itR3, itZip, augI, fMin2, ckT, fMaxD, joinT, fInQ, fRepr, fInsert, fPopAt, fExtT, tryA, tryB, tryO, clsW, keptX, fIsK, gCs, isKT, kfT, heldX, fIsS, isST, xfT, PySem.W.kitAny, List.map_cons, List.map_nil, List.cons_append, List.nil_append, List.length_cons, List.length_nil, List.replicate, String.reduceEq, if_true, if_false, Bool.false_eq_true, Bool.not_true, Bool.not_false, true_and, and_true, any1, isInt, isBl]
              cases b with
              | str s0 =>
                obtain ⟨htb, hok⟩ : s0.length ≤ 1000 ∧ PyData.strOk s0 = true := txt_str (by rw [txt] at htk; exact txtAll_get (i := 1) htk rfl)
                simp only [whileS, seqS, setS, retS, retN, dropS, ifS, nextS, unpS, setIx, forS, raiseS, breakS, contS, nmT, cT, opT, unT, tbT, andT, orT, notT, andV, orV, notV, ifT, chT, nilA, consA, tupT, lsfT, lstT, slT, noP, someP, rvF, rvT, cbT, callT, callX, frT, itTup, itLst, itStr, itR1, itR2, itEnT, itEnL, slot, put, hide, start0, g1, g2, gI, gS, gB, gT, gL, gD, gR, gW, gDs, gDs_map, gBs, gIs, gSs, gO, gRow, asD, fI, fIc, fAdd, fSub, fMul, fMod, fDiv, fPow, fLt, fLe, fGt, fGe, fNeg, fS, fAddS, fLeS, fRepS, fInS, isN, fIsN, fEqD, eqS, fEqS, fIxT, fIxL, fIxS, fSlT, fSlF, fSlL, fSlS, fCatT, fCatF, fCatL, fRepT, fLen, fLenS, fAll, fSum, fMax, fMax2, fTuple, fListF, fListL, fInt, fIsi, tyIs, bName, bPair, bTup2, fAppend, fExtend, yesT, bmL, lcF, lcL, itR3, itZip, augI, fMin2, ckT, fMaxD, joinT, fInQ, fRepr, fInsert, fPopAt, fExtT, tryA, tryB, tryO, clsW, keptX, fIsK, gCs, isKT, kfT, heldX, fIsS, isST, xfT, PySem.W.kitAny, List.map_cons, List.map_nil, List.cons_append, List.nil_append, List.length_cons, List.length_nil, List.replicate, String.reduceEq, if_true, if_false, Bool.false_eq_true, Bool.not_true, Bool.not_false, true_and, and_true, any1, isStr]
                refine ⟨sz1000 htb, ?_⟩
                refine iteD (fun c1 => iteN (fun c2 => ?_) (fun c2 => ?_)) (fun c1 => ?_)
                · exact no (by rw [lvTag, isTag, decide_eq_false (p := s0.length ≤ 8) (by omega), Bool.and_false, Bool.false_and, Bool.and_false])
                · unfold signs
                  refine lc1f (fun c => !small c) (fun c => .d (.str ⟨#[c]⟩)) trivial (fun c _ Rk Rn q1 q2 => ?_) (sz1000 (by show s0.length ≤ 1000; omega)) ?_
                  · simp only [whileS, seqS, setS, retS, retN, dropS, ifS, nextS, unpS, setIx, forS, raiseS, breakS, contS, nmT, cT, opT, unT, tbT, andT, orT, notT, andV, orV, notV, ifT, chT, nilA, consA, tupT, lsfT, lstT, slT, noP, someP, rvF, rvT, cbT, callT, callX, frT, itTup, itLst, itStr, itR1, itR2, itEnT, itEnL, slot, put, hide, start0, g1, g2, gI, gS, gB, gT, gL, gD, gR, gW, gDs, gDs_map, gBs, gIs, gSs, gO, gRow, asD, fI, fIc, fAdd, fSub, fMul, fMod, fDiv, fPow, fLt, fLe, fGt, fGe, fNeg, fS, fAddS, fLeS, fRepS, fInS, isN, fIsN, fEqD, eqS, fEqS, fIxT, fIxL, fIxS, fSlT, fSlF, fSlL, fSlS, fCatT, fCatF, fCatL, fRepT, fLen, fLenS, fAll, fSum, fMax, fMax2, fTuple, fListF, fListL, fInt, fIsi, tyIs, bName, bPair, bTup2, fAppend, fExtend, yesT, bmL, lcF, lcL, itR3, itZip, augI, fMin2, ckT, fMaxD, joinT, fInQ, fRepr, fInsert, fPopAt, fExtT, tryA, tryB, tryO, clsW, keptX, fIsK, gCs, isKT, kfT, heldX, fIsS, isST, xfT, PySem.W.kitAny, List.map_cons, List.map_nil, List.cons_append, List.nil_append, List.length_cons, List.length_nil, List.replicate, String.reduceEq, if_true, if_false, Bool.false_eq_true, Bool.not_true, Bool.not_false, true_and, and_true, any1]
                    refine ⟨c, rfl, ?_⟩
                    rw [small_in]
                    cases hc : small c
                    · rw [hc] at q1; exact q1 rfl
                    · rw [hc] at q2; exact q2 rfl
                  · have e2 : ∀ l : List Nat, l.map (fun c => W.d (.str ⟨#[c]⟩)) = (l.map fun c => PyData.str ⟨#[c]⟩).map W.d := fun l => by rw [List.map_map]; rfl
                    rw [e2, gDs_map]
                    rw [eqv_nil, List.isEmpty_map, fil_small]
                    refine ⟨⟨eqOk_signs hok _, rfl⟩, ?_⟩
                    have tg : isTag (.str s0) = s0.cps.toList.all small := by rw [isTag, decide_eq_true (p := 1 ≤ s0.length) (by omega), decide_eq_true (p := s0.length ≤ 8) (by omega), Bool.true_and, Bool.true_and]
                    cases ha : s0.cps.toList.all small with
                    | false => exact no (by rw [lvTag, tg, ha, Bool.and_false])
                    | true =>
                      rw [Bool.not_true, if_neg Bool.false_ne_true]
                      have lv0 : lvTag (.tuple [.int l, .str s0]) = (decide (0 ≤ l) && decide (l ≤ 11)) := by rw [lvTag, tg, ha, Bool.and_true, isNum]
                      have two : ∀ lo : Int, (if 0 ≤ la then (1 : Int) else 0) = lo → 0 ≤ lo → if decide (la + 1 < l) = true then R (W.d (PyData.bool false)) M' else if decide (11 < l) = true then R (W.d (PyData.bool false)) M' else if decide (l < lo) = true then R (W.d (PyData.bool false)) M' else N [some (W.d (PyData.tuple ds)), some (W.d (PyData.int l)), some (W.d (PyData.tuple [PyData.int l, PyData.str s0])), z] M' := fun lo hlo h0 => by
                        rw [hlo] at hm
                        by_cases hl : 0 ≤ l ∧ l ≤ 11
                        · have lv : lvTag (.tuple [.int l, .str s0]) = true := by rw [lv0, decide_eq_true hl.1, decide_eq_true hl.2]; rfl
                          rw [flatGo_yes lv] at hm
                          refine iteD (fun c3 => ?_) (fun c3 => iteD (fun c4 => absurd hl.2 (by omega)) (fun c4 => iteD (fun c5 => ?_) (fun c5 => ?_)))
                          · rw [decide_eq_false (p := l ≤ la + 1) (by omega), Bool.and_false, Bool.false_and] at hm
                            rw [← hm] at h2
                            exact h2
                          · rw [decide_eq_false (p := lo ≤ l) (by omega), Bool.false_and, Bool.false_and] at hm
                            rw [← hm] at h2
                            exact h2
                          · rw [decide_eq_true (p := lo ≤ l) (by omega), decide_eq_true (p := l ≤ la + 1) (by omega), Bool.true_and, Bool.true_and] at hm
                            exact hN _ _ ⟨l, _, _, rfl, rfl, by rw [if_pos hl.1]; exact hm⟩
                        · have nf : R (W.d (PyData.bool false)) M' := no (by
                            rw [lv0]
                            by_cases h5 : 0 ≤ l
                            · rw [decide_eq_true h5, decide_eq_false (by omega)]; rfl
                            · rw [decide_eq_false h5]; rfl)
                          refine iteD (fun _ => nf) (fun _ => iteD (fun _ => nf) (fun c4 => iteD (fun _ => nf) (fun c5 => absurd hl (by omega))))
                      by_cases c9 : 0 ≤ la
                      · rw [decide_eq_true c9, if_pos rfl]
                        exact two 1 (if_pos c9) (by decide)
                      · rw [decide_eq_false c9, if_neg Bool.false_ne_true]
                        exact two 0 (if_neg c9) (by decide)
                · exact no (by rw [lvTag, isTag, decide_eq_false (p := 1 ≤ s0.length) (by omega), Bool.false_and, Bool.false_and, Bool.and_false])
              | _ => simp only [whileS, seqS, setS, retS, retN, dropS, ifS, nextS, unpS, setIx, forS, raiseS, breakS, contS, nmT, cT, opT, unT, tbT, andT, orT, notT, andV, orV, notV, ifT, chT, nilA, consA, tupT, lsfT, lstT, slT, noP, someP, rvF, rvT, cbT, callT, callX, frT, itTup, itLst, itStr, itR1, itR2, itEnT, itEnL, slot, put, hide, start0, g1, g2, gI, gS, gB, gT, gL, gD, gR, gW, gDs, gDs_map, gBs, gIs, gSs, gO, gRow, asD, fI, fIc, fAdd, fSub, fMul, fMod, fDiv, fPow, fLt, fLe, fGt, fGe, fNeg, fS, fAddS, fLeS, fRepS, fInS, isN, fIsN, fEqD, eqS, fEqS, fIxT, fIxL, fIxS, fSlT, fSlF, fSlL, fSlS, fCatT, fCatF, fCatL, fRepT, fLen, fLenS, fAll, fSum, fMax, fMax2, fTuple, fListF, fListL, fInt, fIsi, tyIs, bName, bPair, bTup2, fAppend, fExtend, yesT, bmL, lcF, lcL, itR3, itZip, augI, fMin2, ckT, fMaxD, joinT, fInQ, fRepr, fInsert, fPopAt, fExtT, tryA, tryB, tryO, clsW, keptX, fIsK, gCs, isKT, kfT, heldX, fIsS, isST, xfT, PySem.W.kitAny, List.map_cons, List.map_nil, List.cons_append, List.nil_append, List.length_cons, List.length_nil, List.replicate, String.reduceEq, if_true, if_false, Bool.false_eq_true, Bool.not_true, Bool.not_false, true_and, and_true, any1, isStr]; exact no (by simp [lvTag, isTag])
            | _ => simp only [whileS, seqS, setS, retS, retN, dropS, ifS, nextS, unpS, setIx, forS, raiseS, breakS, contS, nmT, cT, opT, unT, tbT, andT, orT, notT, andV, orV, notV, ifT, chT, nilA, consA, tupT, lsfT, lstT, slT, noP, someP, rvF, rvT, cbT, callT, callX, frT, itTup, itLst, itStr, itR1, itR2, itEnT, itEnL, slot, put, hide, start0, g1, g2, gI, gS, gB, gT, gL, gD, gR, gW, gDs, gDs_map, gBs, gIs, gSs, gO, gRow, asD, fI, fIc, fAdd, fSub, fMul, fMod, fDiv, fPow, fLt, fLe, fGt, fGe, fNeg, fS, fAddS, fLeS, fRepS, fInS, isN, fIsN, fEqD, eqS, fEqS, fIxT, fIxL, fIxS, fSlT, fSlF, fSlL, fSlS, fCatT, fCatF, fCatL, fRepT, fLen, fLenS, fAll, fSum, fMax, fMax2, fTuple, fListF, fListL, fInt, fIsi, tyIs, bName, bPair, bTup2, fAppend, fExtend, yesT, bmL, lcF, lcL, itR3, itZip, augI, fMin2, ckT, fMaxD, joinT, fInQ, fRepr, fInsert, fPopAt, fExtT, tryA, tryB, tryO, clsW, keptX, fIsK, gCs, isKT, kfT, heldX, fIsS, isST, xfT, PySem.W.kitAny, List.map_cons, List.map_nil, List.cons_append, List.nil_append, List.length_cons, List.length_nil, List.replicate, String.reduceEq, if_true, if_false, Bool.false_eq_true, Bool.not_true, Bool.not_false, true_and, and_true, any1, isInt, isBl]; exact no (by simp [lvTag, isNum])
        | _ => simp only [whileS, seqS, setS, retS, retN, dropS, ifS, nextS, unpS, setIx, forS, raiseS, breakS, contS, nmT, cT, opT, unT, tbT, andT, orT, notT, andV, orV, notV, ifT, chT, nilA, consA, tupT, lsfT, lstT, slT, noP, someP, rvF, rvT, cbT, callT, callX, frT, itTup, itLst, itStr, itR1, itR2, itEnT, itEnL, slot, put, hide, start0, g1, g2, gI, gS, gB, gT, gL, gD, gR, gW, gDs, gDs_map, gBs, gIs, gSs, gO, gRow, asD, fI, fIc, fAdd, fSub, fMul, fMod, fDiv, fPow, fLt, fLe, fGt, fGe, fNeg, fS, fAddS, fLeS, fRepS, fInS, isN, fIsN, fEqD, eqS, fEqS, fIxT, fIxL, fIxS, fSlT, fSlF, fSlL, fSlS, fCatT, fCatF, fCatL, fRepT, fLen, fLenS, fAll, fSum, fMax, fMax2, fTuple, fListF, fListL, fInt, fIsi, tyIs, bName, bPair, bTup2, fAppend, fExtend, yesT, bmL, lcF, lcL, itR3, itZip, augI, fMin2, ckT, fMaxD, joinT, fInQ, fRepr, fInsert, fPopAt, fExtT, tryA, tryB, tryO, clsW, keptX, fIsK, gCs, isKT, kfT, heldX, fIsS, isST, xfT, PySem.W.kitAny, List.map_cons, List.map_nil, List.cons_append, List.nil_append, List.length_cons, List.length_nil, List.replicate, String.reduceEq, if_true, if_false, Bool.false_eq_true, Bool.not_true, Bool.not_false, true_and, and_true, any1, isTup]; exact no rfl
      · obtain ⟨la, y, z, rfl, rfl, hm⟩ := p
        rw [List.drop_length, flatGo] at hm
        rw [← hm] at h2
        exact h2
  | _ => simp only [whileS, seqS, setS, retS, retN, dropS, ifS, nextS, unpS, setIx, forS, raiseS, breakS, contS, nmT, cT, opT, unT, tbT, andT, orT, notT, andV, orV, notV, ifT, chT, nilA, consA, tupT, lsfT, lstT, slT, noP, someP, rvF, rvT, cbT, callT, callX, frT, itTup, itLst, itStr, itR1, itR2, itEnT, itEnL, slot, put, hide, start0, g1, g2, gI, gS, gB, gT, gL, gD, gR, gW, gDs, gDs_map, gBs, gIs, gSs, gO, gRow, asD, fI, fIc, fAdd, fSub, fMul, fMod, fDiv, fPow, fLt, fLe, fGt, fGe, fNeg, fS, fAddS, fLeS, fRepS, fInS, isN, fIsN, fEqD, eqS, fEqS, fIxT, fIxL, fIxS, fSlT, fSlF, fSlL, fSlS, fCatT, fCatF, fCatL, fRepT, fLen, fLenS, fAll, fSum, fMax, fMax2, fTuple, fListF, fListL, fInt, fIsi, tyIs, bName, bPair, bTup2, fAppend, fExtend, yesT, bmL, lcF, lcL, itR3, itZip, augI, fMin2, ckT, fMaxD, joinT, fInQ, fRepr, fInsert, fPopAt, fExtT, tryA, tryB, tryO, clsW, keptX, fIsK, gCs, isKT, kfT, heldX, fIsS, isST, xfT, PySem.W.kitAny, List.map_cons, List.map_nil, List.cons_append, List.nil_append, List.length_cons, List.length_nil, List.replicate, String.reduceEq, if_true, if_false, Bool.false_eq_true, Bool.not_true, Bool.not_false, true_and, and_true, any1, isTup]; exact h2
end
end Tl

set_option Elab.async false
set_option linter.all false
set_option maxRecDepth 100000
set_option maxHeartbeats 8000000
namespace Tl
open PySem L2 RZ
/-- a row that may be bent -/
structure RowOk (ds : List PyData) : Prop where
  g : Gks 200000 1 ds
  n0 : 1 ≤ ds.length
  n1 : ds.length ≤ 60
  e : ∀ d ∈ ds, ∃ (l : Int) (s : Str), d = .tuple [.int l, .str s] ∧ 0 ≤ l ∧ l ≤ 20 ∧ s.length ≤ 8 ∧ PyData.strOk s = true
def tfBent : TF := fun ws M R _ => g2 ws fun x y => gR x fun st => gT y fun ds => (M st = some (.src true) ∧ RowOk ds) ∧ ∀ d, GdE d → R (.d d) M
theorem small41 {i : Int} (h : -100 ≤ i) (h2 : i ≤ 1000) : i.natAbs < 10 ^ 41 := Nat.lt_of_le_of_lt (show i.natAbs ≤ 1000 by omega) (by decide)
section
variable {P : Program} {w : World} {K : PySem.W.Frag} {mg : Str → Option Value} {base : Heap}
abbrev sBent : Stmt := top 35
theorem scBent : FnScope ["_law_state_here", "_law_flat_here", "_law_at", "_law_levels", "_law_tags", "_law_pairs", "_law_way", "_law_some", "_law_level", "_law_tag"] ["_law_state_here", "_law_flat_here"] (defScope sBent) := ⟨rfl, rfl, rfl, by decide +kernel, rfl, by decide +kernel, by decide +kernel⟩
theorem ok_bent {f : Addr} {fd : FuncData} {k j : Nat} (F : Fun K "_law_bent" "_law_bent" sBent f fd) (U_law_next : Use P w K mg base "_law_next" ["_law_state_here", "_law_below"] j (spD K 2 (tfNext true))) (hj : j ≤ k) (T : Bl mg) : FnOk P w K mg base CX0 (k + 1) f fd ["_law_state_here", "_law_flat_here"] (spD K 2 tfBent) := by
  refine okDL F scBent rfl fun cdv A outer s H E hr => ?_
  refine ⟨_, _, (pss_cons (ps_set (i := 2) scBent.nd rfl (.inl rfl) (pe_call U_law_next.ok (hr.mono (by omega)) rfl U_law_next.m U_law_next.kp U_law_next.b .nil pass0 (pa_cons (pv 0) (pa_cons (pe_callB call_len_seq (by rfl) T.len PySem.boot_len (pa_cons (pv 1) pa_nil)) pa_nil))))
    (pss_cons (ps_asg (pe_ix ix_tup (pv 1) (pv 2) (fun _ _ => rfl)) (pg_tup rfl (pgs_cons (pg_name (i := 8) scBent.nd rfl (.inl rfl)) (pgs_cons (pg_name (i := 9) scBent.nd rfl (.inl rfl)) pgs_nil))))
    (pss_cons (ps_set (i := 3) scBent.nd rfl (.inl rfl) (pe_lst (pa_cons (pe_op op_add (pv 8) pe_int) (pa_cons (pe_op op_sub (pv 8) pe_int) (pa_cons pe_int (pa_cons (pe_un un_neg pe_int) (pa_cons pe_int (pa_cons pe_int (pa_cons pe_bl (pa_cons pe_non (pa_cons pe_str (pa_cons (pe_op op_add (pv 8) pe_int) (pa_cons (pe_tup (pa_cons (pv 8) pa_nil)) (pa_cons (pe_op op_pow pe_int pe_int) pa_nil))))))))))))))
    (pss_cons (ps_set (i := 4) scBent.nd rfl (.inl rfl) (pe_lst (pa_cons pe_str (pa_cons pe_str (pa_cons pe_str (pa_cons pe_str (pa_cons pe_non (pa_cons pe_int (pa_cons (pe_tup (pa_cons pe_str pa_nil)) (pa_cons pe_str (pa_cons (pe_op op_add_str (pv 9) pe_str) (pa_cons (pe_slice sl_str (pv 9) po_none (po_some pe_int)) pa_nil))))))))))))
    (pss_cons (ps_set (i := 5) scBent.nd rfl (.inl rfl) (pe_lst (pa_cons (pe_tup (pa_cons (pe_ix ix_list (pv 3) (pe_call U_law_next.ok (hr.mono (by omega)) rfl U_law_next.m U_law_next.kp U_law_next.b .nil pass0 (pa_cons (pv 0) (pa_cons pe_int pa_nil))) (fun _ _ => rfl)) (pa_cons (pv 9) pa_nil))) (pa_cons (pe_tup (pa_cons (pv 8) (pa_cons (pe_ix ix_list (pv 4) (pe_call U_law_next.ok (hr.mono (by omega)) rfl U_law_next.m U_law_next.kp U_law_next.b .nil pass0 (pa_cons (pv 0) (pa_cons pe_int pa_nil))) (fun _ _ => rfl)) pa_nil))) (pa_cons (pe_lst (pa_cons (pv 8) (pa_cons (pv 9) pa_nil))) (pa_cons (pe_tup (pa_cons (pv 8) pa_nil)) pa_nil))))))
    (pss_cons (ps_set (i := 5) scBent.nd rfl (.inl rfl) (pe_op op_cat (pv 5) (pe_lst (pa_cons (pe_tup (pa_cons (pv 8) (pa_cons (pv 9) (pa_cons pe_int pa_nil)))) (pa_cons (pe_tup (pa_cons (pv 9) (pa_cons (pv 8) pa_nil))) (pa_cons pe_non (pa_cons (pv 9) pa_nil)))))))
    (pss_cons (ps_set (i := 6) scBent.nd rfl (.inl rfl) (pe_call U_law_next.ok (hr.mono (by omega)) rfl U_law_next.m U_law_next.kp U_law_next.b .nil pass0 (pa_cons (pv 0) (pa_cons pe_int pa_nil))))
    (pss_cons (ps_if (pt_cmpR op_lt (pv 6) pe_int (nomark _)) (pss_one (ps_ret (pe_op op_catA (pe_op op_catA (pe_slice sl_tupA (pv 1) po_none (po_some (pv 2))) (pe_tup (pa_cons (pe_ix ix_list (pv 5) (pv 6) (fun _ _ => rfl)) pa_nil))) (pe_slice sl_tupA (pv 1) (po_some (pe_op op_add (pv 2) pe_int)) po_none)))) pss_nil)
    (pss_cons (ps_set (i := 7) scBent.nd rfl (.inl rfl) (pe_lst (pa_cons (pe_op op_catA (pe_slice sl_tupA (pv 1) po_none (po_some (pv 2))) (pe_slice sl_tupA (pv 1) (po_some (pe_op op_add (pv 2) pe_int)) po_none)) (pa_cons (pe_op op_catA (pe_slice sl_tupA (pv 1) po_none (po_some (pe_op op_add (pv 2) pe_int))) (pe_slice sl_tupA (pv 1) (po_some (pv 2)) po_none)) (pa_cons (pe_callTy call_list_of (by rfl) T.list PyProof.Rows.boot_list (pa_cons (pv 1) pa_nil)) (pa_cons (pe_revT (pv 1)) (pa_cons pe_non pa_nil)))))))
    (pss_one (ps_ret (pe_ix ix_list (pe_op op_cat (pv 7) (pe_lst (pa_cons (pe_ix ix_list (pe_lst (pa_cons (pe_tup pa_nil) (pa_cons pe_dnewK (pa_cons pe_str (pa_cons pe_int (pa_cons (pe_tup (pa_cons (pv 1) pa_nil)) (pa_cons (pe_slice sl_tupA (pv 1) (po_some pe_int) po_none) pa_nil))))))) (pe_call U_law_next.ok (hr.mono (by omega)) rfl U_law_next.m U_law_next.kp U_law_next.b .nil pass0 (pa_cons (pv 0) (pa_cons pe_int pa_nil))) (fun _ _ => rfl)) pa_nil))) (pe_op op_sub (pv 6) pe_int) (fun _ _ => rfl))))))))))))),
    (ss_cons (ss_set (se_call (sa_cons se_nm (sa_cons (se_cb sc_len (sa_cons se_nm sa_nil)) sa_nil))))
    (ss_cons (ss_unp sg_tup2 (se_op so_ixT se_nm se_nm))
    (ss_cons (ss_set (se_lsf (sa_cons (se_op so_add se_nm se_int) (sa_cons (se_op so_sub se_nm se_int) (sa_cons se_int (sa_cons (se_un su_neg se_int) (sa_cons se_int (sa_cons se_int (sa_cons se_bl (sa_cons se_non (sa_cons se_str (sa_cons (se_op so_add se_nm se_int) (sa_cons (se_tup (sa_cons se_nm sa_nil)) (sa_cons (se_op so_pow se_int se_int) sa_nil))))))))))))))
    (ss_cons (ss_set (se_lsf (sa_cons se_str (sa_cons se_str (sa_cons se_str (sa_cons se_str (sa_cons se_non (sa_cons se_int (sa_cons (se_tup (sa_cons se_str sa_nil)) (sa_cons se_str (sa_cons (se_op so_addS se_nm se_str) (sa_cons (se_sl sl_S se_nm sp_no (sp_some se_int)) sa_nil))))))))))))
    (ss_cons (ss_set (se_lsf (sa_cons (se_tup (sa_cons (se_op so_ixL se_nm (se_call (sa_cons se_nm (sa_cons se_int sa_nil)))) (sa_cons se_nm sa_nil))) (sa_cons (se_tup (sa_cons se_nm (sa_cons (se_op so_ixL se_nm (se_call (sa_cons se_nm (sa_cons se_int sa_nil)))) sa_nil))) (sa_cons (se_lsf (sa_cons se_nm (sa_cons se_nm sa_nil))) (sa_cons (se_tup (sa_cons se_nm sa_nil)) sa_nil))))))
    (ss_cons (ss_set (se_op so_catF se_nm (se_lsf (sa_cons (se_tup (sa_cons se_nm (sa_cons se_nm (sa_cons se_int sa_nil)))) (sa_cons (se_tup (sa_cons se_nm (sa_cons se_nm sa_nil))) (sa_cons se_non (sa_cons se_nm sa_nil)))))))
    (ss_cons (ss_set (se_call (sa_cons se_nm (sa_cons se_int sa_nil))))
    (ss_cons (ss_if (st_test (se_op so_lt se_nm se_int)) (ss_ret (se_op so_catT (se_op so_catT (se_sl sl_T se_nm sp_no (sp_some se_nm)) (se_tup (sa_cons (se_op so_ixL se_nm se_nm) sa_nil))) (se_sl sl_T se_nm (sp_some (se_op so_add se_nm se_int)) sp_no))) ss_nil)
    (ss_cons (ss_set (se_lsf (sa_cons (se_op so_catT (se_sl sl_T se_nm sp_no (sp_some se_nm)) (se_sl sl_T se_nm (sp_some (se_op so_add se_nm se_int)) sp_no)) (sa_cons (se_op so_catT (se_sl sl_T se_nm sp_no (sp_some (se_op so_add se_nm se_int))) (se_sl sl_T se_nm (sp_some se_nm) sp_no)) (sa_cons (se_cb sc_listF (sa_cons se_nm sa_nil)) (sa_cons (se_rvT se_nm) (sa_cons se_non sa_nil)))))))
    (ss_ret (se_op so_ixL (se_op so_catF se_nm (se_lsf (sa_cons (se_op so_ixL (se_lsf (sa_cons (se_tup sa_nil) (sa_cons se_dnew (sa_cons se_str (sa_cons se_int (sa_cons (se_tup (sa_cons se_nm sa_nil)) (sa_cons (se_sl sl_T se_nm (sp_some se_int) sp_no) sa_nil))))))) (se_call (sa_cons se_nm (sa_cons se_int sa_nil)))) sa_nil))) (se_op so_sub se_nm se_int)))))))))))), fun ws M R RX hl h => ?_⟩
  obtain ⟨x, y, rfl, h1⟩ := g2_of h
  obtain ⟨st, rfl, h2⟩ := gR_of h1
  obtain ⟨ds, rfl, ⟨hM, ho⟩, h3⟩ := gT_of h2
  clear h h1 h2 hl
  have n0 := ho.n0
  have n1 := ho.n1
  simp only [start0, len_c, len_n, map_c, map_n, app_c, app_n, rep_0, rep_s, Nat.reduceAdd, Nat.reduceSub]
  (with_reducible (conv => whnf)); (repeat ((first | (with_reducible refine gO_i tyIs_int ?_) | (with_reducible refine gO_i tyIs_bool ?_) | (with_reducible refine gO_i tyIs_str ?_) | (with_reducible refine gO_i tyIs_tuple ?_) | (with_reducible refine gO_i tyIs_list ?_) | (with_reducible refine gDs_i ?_) | (with_reducible refine gO_i (Eq.refl _) ?_) | (with_reducible refine iteTT ?gha ?_; (case gha => rfl)) | (with_reducible refine iteFF ?gha ?_; (case gha => rfl))); (with_reducible (conv => whnf))))
  refine ⟨⟨hM, by omega, by omega⟩, fun a0 ha0 ha1 => ?_⟩
  obtain ⟨pd, hat, hpm⟩ := at_mem (xs := ds) ha0 ha1
  obtain ⟨l, s0, rfl, l0, l1, hs1, hs2⟩ := ho.e pd hpm
  obtain ⟨a, rfl⟩ : ∃ a : Nat, a0 = (a : Int) := ⟨a0.toNat, by omega⟩
  (with_reducible (conv => whnf)); (repeat ((first | (with_reducible refine gO_i tyIs_int ?_) | (with_reducible refine gO_i tyIs_bool ?_) | (with_reducible refine gO_i tyIs_str ?_) | (with_reducible refine gO_i tyIs_tuple ?_) | (with_reducible refine gO_i tyIs_list ?_) | (with_reducible refine gDs_i ?_) | (with_reducible refine gO_i (Eq.refl _) ?_) | (with_reducible refine iteTT ?gha ?_; (case gha => rfl)) | (with_reducible refine iteFF ?gha ?_; (case gha => rfl))); (with_reducible (conv => whnf))))
  refine gO_i hat ?_
  (with_reducible (conv => whnf)); (repeat ((first | (with_reducible refine gO_i tyIs_int ?_) | (with_reducible refine gO_i tyIs_bool ?_) | (with_reducible refine gO_i tyIs_str ?_) | (with_reducible refine gO_i tyIs_tuple ?_) | (with_reducible refine gO_i tyIs_list ?_) | (with_reducible refine gDs_i ?_) | (with_reducible refine gO_i (Eq.refl _) ?_) | (with_reducible refine iteTT ?gha ?_; (case gha => rfl)) | (with_reducible refine iteFF ?gha ?_; (case gha => rfl))); (with_reducible (conv => whnf))))
  refine ⟨⟨by decide, by decide, by decide⟩, ?_⟩
  (with_reducible (conv => whnf)); (repeat ((first | (with_reducible refine gO_i tyIs_int ?_) | (with_reducible refine gO_i tyIs_bool ?_) | (with_reducible refine gO_i tyIs_str ?_) | (with_reducible refine gO_i tyIs_tuple ?_) | (with_reducible refine gO_i tyIs_list ?_) | (with_reducible refine gDs_i ?_) | (with_reducible refine gO_i (Eq.refl _) ?_) | (with_reducible refine iteTT ?gha ?_; (case gha => rfl)) | (with_reducible refine iteFF ?gha ?_; (case gha => rfl))); (with_reducible (conv => whnf))))
  refine ⟨sz1000 (by show s0.length + 1 ≤ 1000; omega), ?_⟩
  (with_reducible (conv => whnf)); (repeat ((first | (with_reducible refine gO_i tyIs_int ?_) | (with_reducible refine gO_i tyIs_bool ?_) | (with_reducible refine gO_i tyIs_str ?_) | (with_reducible refine gO_i tyIs_tuple ?_) | (with_reducible refine gO_i tyIs_list ?_) | (with_reducible refine gDs_i ?_) | (with_reducible refine gO_i (Eq.refl _) ?_) | (with_reducible refine iteTT ?gha ?_; (case gha => rfl)) | (with_reducible refine iteFF ?gha ?_; (case gha => rfl))); (with_reducible (conv => whnf))))
  refine ⟨sz1000 (by omega), ?_⟩
  (with_reducible (conv => whnf)); (repeat ((first | (with_reducible refine gO_i tyIs_int ?_) | (with_reducible refine gO_i tyIs_bool ?_) | (with_reducible refine gO_i tyIs_str ?_) | (with_reducible refine gO_i tyIs_tuple ?_) | (with_reducible refine gO_i tyIs_list ?_) | (with_reducible refine gDs_i ?_) | (with_reducible refine gO_i (Eq.refl _) ?_) | (with_reducible refine iteTT ?gha ?_; (case gha => rfl)) | (with_reducible refine iteFF ?gha ?_; (case gha => rfl))); (with_reducible (conv => whnf))))
  refine ⟨⟨hM, by decide, by decide⟩, fun r1 h10 h11 => ?_⟩
  (with_reducible (conv => whnf)); (repeat ((first | (with_reducible refine gO_i tyIs_int ?_) | (with_reducible refine gO_i tyIs_bool ?_) | (with_reducible refine gO_i tyIs_str ?_) | (with_reducible refine gO_i tyIs_tuple ?_) | (with_reducible refine gO_i tyIs_list ?_) | (with_reducible refine gDs_i ?_) | (with_reducible refine gO_i (Eq.refl _) ?_) | (with_reducible refine iteTT ?gha ?_; (case gha => rfl)) | (with_reducible refine iteFF ?gha ?_; (case gha => rfl))); (with_reducible (conv => whnf))))
  have gl : ∀ m k, 1930 ≤ m → Gk m k (.int l) := fun m k h => gk_int (small41 (by omega) (by omega)) h
  have gs : ∀ m k, 84 ≤ m → Gk m k (.str s0) := fun m k h => gk_str (by omega) hs2 (by omega)
  refine gO_atD (Gk 2000 1) h10 h11 ?_ fun lv glv => ?_
  · refine all1 (gk_int (small41 (by omega) (by omega)) (by decide)) (all1 (gk_int (small41 (by omega) (by omega)) (by decide)) (all1 (gk_int (by decide) (by decide)) (all1 (gk_int (by decide) (by decide)) (all1 (gk_int (by decide) (by decide)) (all1 (gk_int (by decide) (by decide)) (all1 (gk_bool (by decide)) (all1 (gk_none (by decide)) (all1 (gk_str (by decide) (by decide +kernel) (by decide)) (all1 (gk_int (small41 (by omega) (by omega)) (by decide)) (all1 ?_ (all1 (gk_int (by decide) (by decide)) all0)))))))))))
    exact (Gks.cons (m := 1930) (m' := 0) (m'' := 1932) (k := 0) (gl _ _ (by decide)) .nil (by decide)).tup (by decide)
  (with_reducible (conv => whnf)); (repeat ((first | (with_reducible refine gO_i tyIs_int ?_) | (with_reducible refine gO_i tyIs_bool ?_) | (with_reducible refine gO_i tyIs_str ?_) | (with_reducible refine gO_i tyIs_tuple ?_) | (with_reducible refine gO_i tyIs_list ?_) | (with_reducible refine gDs_i ?_) | (with_reducible refine gO_i (Eq.refl _) ?_) | (with_reducible refine iteTT ?gha ?_; (case gha => rfl)) | (with_reducible refine iteFF ?gha ?_; (case gha => rfl))); (with_reducible (conv => whnf))))
  refine ⟨⟨hM, by decide, by decide⟩, fun r2 h20 h21 => ?_⟩
  (with_reducible (conv => whnf)); (repeat ((first | (with_reducible refine gO_i tyIs_int ?_) | (with_reducible refine gO_i tyIs_bool ?_) | (with_reducible refine gO_i tyIs_str ?_) | (with_reducible refine gO_i tyIs_tuple ?_) | (with_reducible refine gO_i tyIs_list ?_) | (with_reducible refine gDs_i ?_) | (with_reducible refine gO_i (Eq.refl _) ?_) | (with_reducible refine iteTT ?gha ?_; (case gha => rfl)) | (with_reducible refine iteFF ?gha ?_; (case gha => rfl))); (with_reducible (conv => whnf))))
  refine gO_atD (Gk 2000 1) h20 h21 ?_ fun tv gtv => ?_
  · obtain ⟨z1, z2⟩ := strOk_app (b := "z") hs2 (by decide +kernel)
    obtain ⟨z3, z4⟩ := cutS_ok none (some 1) hs2
    have z2' : (s0 ++ Str.ofString "z").length = s0.length + 1 := z2
    refine all1 (gk_str (by decide) (by decide +kernel) (by decide)) (all1 (gk_str (by decide) (by decide +kernel) (by decide)) (all1 (gk_str (by decide) (by decide +kernel) (by decide)) (all1 (gk_str (by decide) (by decide +kernel) (by decide)) (all1 (gk_none (by decide)) (all1 (gk_int (by decide) (by decide)) (all1 ?_ (all1 (gk_str (by decide) (by decide +kernel) (by decide)) (all1 (gk_str (by omega) z1 (by omega)) (all1 (gk_str (by omega) z3 (by omega)) all0)))))))))
    exact (Gks.cons (m := 14) (m' := 0) (m'' := 16) (k := 0) (gk_str (by decide) (by decide +kernel) (by decide)) .nil (by decide)).tup (by decide)
  (with_reducible (conv => whnf)); (repeat ((first | (with_reducible refine gO_i tyIs_int ?_) | (with_reducible refine gO_i tyIs_bool ?_) | (with_reducible refine gO_i tyIs_str ?_) | (with_reducible refine gO_i tyIs_tuple ?_) | (with_reducible refine gO_i tyIs_list ?_) | (with_reducible refine gDs_i ?_) | (with_reducible refine gO_i (Eq.refl _) ?_) | (with_reducible refine iteTT ?gha ?_; (case gha => rfl)) | (with_reducible refine iteFF ?gha ?_; (case gha => rfl))); (with_reducible (conv => whnf))))
  refine ⟨sz1000 (by show 8 ≤ 1000; decide), ?_⟩
  (with_reducible (conv => whnf)); (repeat ((first | (with_reducible refine gO_i tyIs_int ?_) | (with_reducible refine gO_i tyIs_bool ?_) | (with_reducible refine gO_i tyIs_str ?_) | (with_reducible refine gO_i tyIs_tuple ?_) | (with_reducible refine gO_i tyIs_list ?_) | (with_reducible refine gDs_i ?_) | (with_reducible refine gO_i (Eq.refl _) ?_) | (with_reducible refine iteTT ?gha ?_; (case gha => rfl)) | (with_reducible refine iteFF ?gha ?_; (case gha => rfl))); (with_reducible (conv => whnf))))
  refine ⟨⟨hM, by decide, by decide⟩, fun r3 h30 h31 => ?_⟩
  have hg := ho.g
  have hpairs : ∀ d ∈ [PyData.tuple [lv, .str s0], .tuple [.int l, tv], .list [.int l, .str s0], .tuple [.int l]] ++ [PyData.tuple [.int l, .str s0, .int 0], .tuple [.str s0, .int l], .none, .str s0], Gk 10000 2 d := by
    have two : ∀ {a b : PyData}, Gk 2000 1 a → Gk 2000 1 b → Gks 5000 1 [a, b] := fun h h' => .cons (m' := 2002) h (.cons (m' := 0) h' .nil (by decide)) (by decide)
    refine all1 ((two glv (gs _ _ (by decide))).tup (by decide)) (all1 ((two (gl _ _ (by decide)) gtv).tup (by decide)) (all1 ((two (gl _ _ (by decide)) (gs _ _ (by decide))).lst (by decide)) (all1 ?_ (all1 ?_ (all1 ((two (gs _ _ (by decide)) (gl _ _ (by decide))).tup (by decide)) (all1 (gk_none (by decide)) (all1 (gs _ _ (by decide)) all0)))))))
    · exact (Gks.cons (m := 1930) (m' := 0) (m'' := 1932) (k := 1) (gl _ _ (by decide)) .nil (by decide)).tup (by decide)
    · exact (Gks.cons (m := 1930) (m' := 5000) (m'' := 7000) (k := 1) (gl _ _ (by decide)) (two (gs _ _ (by decide)) (gk_int (by decide) (by decide))) (by decide)).tup (by decide)
  (with_reducible (conv => whnf)); (repeat ((first | (with_reducible refine gO_i tyIs_int ?_) | (with_reducible refine gO_i tyIs_bool ?_) | (with_reducible refine gO_i tyIs_str ?_) | (with_reducible refine gO_i tyIs_tuple ?_) | (with_reducible refine gO_i tyIs_list ?_) | (with_reducible refine gDs_i ?_) | (with_reducible refine gO_i (Eq.refl _) ?_) | (with_reducible refine iteTT ?gha ?_; (case gha => rfl)) | (with_reducible refine iteFF ?gha ?_; (case gha => rfl))); (with_reducible (conv => whnf))))
  have c1 := cut_len ds none (some (a : Int))
  have c2 := cut_len ds (some ((a : Int) + 1)) none
  have c3 := cut_len ds none (some ((a : Int) + 1))
  have c4 := cut_len ds (some (a : Int)) none
  refine iteD (fun c => ?_) (fun c => ?_)
  · (with_reducible (conv => whnf)); (repeat ((first | (with_reducible refine gO_i tyIs_int ?_) | (with_reducible refine gO_i tyIs_bool ?_) | (with_reducible refine gO_i tyIs_str ?_) | (with_reducible refine gO_i tyIs_tuple ?_) | (with_reducible refine gO_i tyIs_list ?_) | (with_reducible refine gDs_i ?_) | (with_reducible refine gO_i (Eq.refl _) ?_) | (with_reducible refine iteTT ?gha ?_; (case gha => rfl)) | (with_reducible refine iteFF ?gha ?_; (case gha => rfl))); (with_reducible (conv => whnf))))
    refine gO_atD (Gk 10000 2) h30 (show r3 < 8 from c) hpairs fun pv gpv => ?_
    (with_reducible (conv => whnf)); (repeat ((first | (with_reducible refine gO_i tyIs_int ?_) | (with_reducible refine gO_i tyIs_bool ?_) | (with_reducible refine gO_i tyIs_str ?_) | (with_reducible refine gO_i tyIs_tuple ?_) | (with_reducible refine gO_i tyIs_list ?_) | (with_reducible refine gDs_i ?_) | (with_reducible refine gO_i (Eq.refl _) ?_) | (with_reducible refine iteTT ?gha ?_; (case gha => rfl)) | (with_reducible refine iteFF ?gha ?_; (case gha => rfl))); (with_reducible (conv => whnf))))
    refine ⟨sz1000 (by simp; omega), ?_⟩
    (with_reducible (conv => whnf)); (repeat ((first | (with_reducible refine gO_i tyIs_int ?_) | (with_reducible refine gO_i tyIs_bool ?_) | (with_reducible refine gO_i tyIs_str ?_) | (with_reducible refine gO_i tyIs_tuple ?_) | (with_reducible refine gO_i tyIs_list ?_) | (with_reducible refine gDs_i ?_) | (with_reducible refine gO_i (Eq.refl _) ?_) | (with_reducible refine iteTT ?gha ?_; (case gha => rfl)) | (with_reducible refine iteFF ?gha ?_; (case gha => rfl))); (with_reducible (conv => whnf))))
    refine ⟨sz1000 (by simp; omega), ?_⟩
    (with_reducible (conv => whnf)); (repeat ((first | (with_reducible refine gO_i tyIs_int ?_) | (with_reducible refine gO_i tyIs_bool ?_) | (with_reducible refine gO_i tyIs_str ?_) | (with_reducible refine gO_i tyIs_tuple ?_) | (with_reducible refine gO_i tyIs_list ?_) | (with_reducible refine gDs_i ?_) | (with_reducible refine gO_i (Eq.refl _) ?_) | (with_reducible refine iteTT ?gha ?_; (case gha => rfl)) | (with_reducible refine iteFF ?gha ?_; (case gha => rfl))); (with_reducible (conv => whnf))))
    refine lax_of (h3 _ (.inl ?_))
    have ga : Gks 200000 2 ds := ⟨hg.1, hg.2.1, by have := hg.2.2; omega⟩
    exact ((((ga.cut _ _).app (m' := 10002) (m'' := 210002) (.cons (m := 10000) (m' := 0) gpv .nil (by decide)) (by decide)).app (m' := 200000) (m'' := 410002) (ga.cut _ _) (by decide)).tup (m' := 500000) (by decide)).mono (by decide) (by decide)
  · (with_reducible (conv => whnf)); (repeat ((first | (with_reducible refine gO_i tyIs_int ?_) | (with_reducible refine gO_i tyIs_bool ?_) | (with_reducible refine gO_i tyIs_str ?_) | (with_reducible refine gO_i tyIs_tuple ?_) | (with_reducible refine gO_i tyIs_list ?_) | (with_reducible refine gDs_i ?_) | (with_reducible refine gO_i (Eq.refl _) ?_) | (with_reducible refine iteTT ?gha ?_; (case gha => rfl)) | (with_reducible refine iteFF ?gha ?_; (case gha => rfl))); (with_reducible (conv => whnf))))
    refine ⟨sz1000 (by omega), ?_⟩
    (with_reducible (conv => whnf)); (repeat ((first | (with_reducible refine gO_i tyIs_int ?_) | (with_reducible refine gO_i tyIs_bool ?_) | (with_reducible refine gO_i tyIs_str ?_) | (with_reducible refine gO_i tyIs_tuple ?_) | (with_reducible refine gO_i tyIs_list ?_) | (with_reducible refine gDs_i ?_) | (with_reducible refine gO_i (Eq.refl _) ?_) | (with_reducible refine iteTT ?gha ?_; (case gha => rfl)) | (with_reducible refine iteFF ?gha ?_; (case gha => rfl))); (with_reducible (conv => whnf))))
    refine ⟨sz1000 (by omega), ?_⟩
    (with_reducible (conv => whnf)); (repeat ((first | (with_reducible refine gO_i tyIs_int ?_) | (with_reducible refine gO_i tyIs_bool ?_) | (with_reducible refine gO_i tyIs_str ?_) | (with_reducible refine gO_i tyIs_tuple ?_) | (with_reducible refine gO_i tyIs_list ?_) | (with_reducible refine gDs_i ?_) | (with_reducible refine gO_i (Eq.refl _) ?_) | (with_reducible refine iteTT ?gha ?_; (case gha => rfl)) | (with_reducible refine iteFF ?gha ?_; (case gha => rfl))); (with_reducible (conv => whnf))))
    have G1 : ∀ {es : List PyData} {m : Nat}, Gks m 2 es → m ≤ 900000 → GdE (.tuple es) := fun h e => .inl ((h.tup (m' := 900003) (by omega)).mono (by decide) (by decide))
    have ga : Gks 200000 2 ds := ⟨hg.1, hg.2.1, by have := hg.2.2; omega⟩
    refine ⟨⟨hM, by decide, by decide⟩, fun r4 h40 h41 => ?_⟩
    (with_reducible (conv => whnf)); (repeat ((first | (with_reducible refine gO_i tyIs_int ?_) | (with_reducible refine gO_i tyIs_bool ?_) | (with_reducible refine gO_i tyIs_str ?_) | (with_reducible refine gO_i tyIs_tuple ?_) | (with_reducible refine gO_i tyIs_list ?_) | (with_reducible refine gDs_i ?_) | (with_reducible refine gO_i (Eq.refl _) ?_) | (with_reducible refine iteTT ?gha ?_; (case gha => rfl)) | (with_reducible refine iteFF ?gha ?_; (case gha => rfl))); (with_reducible (conv => whnf))))
    refine gO_atD GdE h40 h41 ?_ fun ov gov => ?_
    · refine all1 (G1 (m := 0) .nil (by decide)) (all1 (.inr rfl) (all1 (.inl (gk_str (by decide) (by decide +kernel) (by decide))) (all1 (.inl (gk_int (by decide) (by decide))) (all1 ?_ (all1 (G1 (ga.cut _ _) (by decide)) all0)))))
      exact .inl (((Gks.cons (m := 200003) (m' := 0) (m'' := 200005) (k := 3) (ga.tup (by decide)) .nil (by decide)).tup (m' := 200008) (by decide)).mono (by decide) (by decide))
    (with_reducible (conv => whnf)); (repeat ((first | (with_reducible refine gO_i tyIs_int ?_) | (with_reducible refine gO_i tyIs_bool ?_) | (with_reducible refine gO_i tyIs_str ?_) | (with_reducible refine gO_i tyIs_tuple ?_) | (with_reducible refine gO_i tyIs_list ?_) | (with_reducible refine gDs_i ?_) | (with_reducible refine gO_i (Eq.refl _) ?_) | (with_reducible refine iteTT ?gha ?_; (case gha => rfl)) | (with_reducible refine iteFF ?gha ?_; (case gha => rfl))); (with_reducible (conv => whnf))))
    refine ⟨sz1000 (by show 6 ≤ 1000; decide), ?_⟩
    (with_reducible (conv => whnf)); (repeat ((first | (with_reducible refine gO_i tyIs_int ?_) | (with_reducible refine gO_i tyIs_bool ?_) | (with_reducible refine gO_i tyIs_str ?_) | (with_reducible refine gO_i tyIs_tuple ?_) | (with_reducible refine gO_i tyIs_list ?_) | (with_reducible refine gDs_i ?_) | (with_reducible refine gO_i (Eq.refl _) ?_) | (with_reducible refine iteTT ?gha ?_; (case gha => rfl)) | (with_reducible refine iteFF ?gha ?_; (case gha => rfl))); (with_reducible (conv => whnf))))
    refine gO_atD GdE (by omega) (show r3 - 8 < 6 by omega) ?_ fun xv gxv => ?_
    · refine all1 (G1 ((ga.cut _ _).app (m'' := 400000) (ga.cut _ _) (by decide)) (by decide)) (all1 (G1 ((ga.cut _ _).app (m'' := 400000) (ga.cut _ _) (by decide)) (by decide)) (all1 (.inl ((ga.lst (m' := 200003) (by decide)).mono (by decide) (by decide))) (all1 (G1 ga.rev (by decide)) (all1 (.inl (gk_none (by decide))) (all1 gov all0)))))
    (with_reducible (conv => whnf)); (repeat ((first | (with_reducible refine gO_i tyIs_int ?_) | (with_reducible refine gO_i tyIs_bool ?_) | (with_reducible refine gO_i tyIs_str ?_) | (with_reducible refine gO_i tyIs_tuple ?_) | (with_reducible refine gO_i tyIs_list ?_) | (with_reducible refine gDs_i ?_) | (with_reducible refine gO_i (Eq.refl _) ?_) | (with_reducible refine iteTT ?gha ?_; (case gha => rfl)) | (with_reducible refine iteFF ?gha ?_; (case gha => rfl))); (with_reducible (conv => whnf))))
    exact lax_of (h3 _ gxv)
end
end Tl

set_option Elab.async false
set_option linter.all false
set_option maxRecDepth 100000
set_option maxHeartbeats 8000000
namespace Tl
open PySem L2 RZ
theorem bootVE : bootBuiltins "ValueError" = some (.type "ValueError") := by decide +kernel
structure Cls (K : PySem.W.Frag) (mg : Str → Option Value) where
  c_TreeError : Addr
  c_NoThing : Addr
  c_NoFit : Addr
  c_NoTree : Addr
  c_NoPath : Addr
  c_NoFlat : Addr
  m_TreeError : mg "TreeError" = some (.ref c_TreeError)
  m_NoThing : mg "NoThing" = some (.ref c_NoThing)
  m_NoFit : mg "NoFit" = some (.ref c_NoFit)
  m_NoTree : mg "NoTree" = some (.ref c_NoTree)
  m_NoPath : mg "NoPath" = some (.ref c_NoPath)
  m_NoFlat : mg "NoFlat" = some (.ref c_NoFlat)
  e_NoTree : Er K mg "NoTree" c_NoTree
  x_NoTree : ExcC K c_NoTree
  v_NoTree : PySem.W.kitOne K (.ref c_NoTree) (.type "ValueError") = some true
  k_NoTree_TreeError : PySem.W.kitOne K (.ref c_NoTree) (.ref c_TreeError) = some true
  k_NoTree_NoThing : PySem.W.kitOne K (.ref c_NoTree) (.ref c_NoThing) = some true
  k_NoTree_NoFit : PySem.W.kitOne K (.ref c_NoTree) (.ref c_NoFit) = some false
  k_NoTree_NoTree : PySem.W.kitOne K (.ref c_NoTree) (.ref c_NoTree) = some true
  k_NoTree_NoPath : PySem.W.kitOne K (.ref c_NoTree) (.ref c_NoPath) = some false
  k_NoTree_NoFlat : PySem.W.kitOne K (.ref c_NoTree) (.ref c_NoFlat) = some false
  h_NoTree_TreeError : PySem.W.exmOne K (.ref c_NoTree) (.ref c_TreeError) = some true
  e_NoFlat : Er K mg "NoFlat" c_NoFlat
  x_NoFlat : ExcC K c_NoFlat
  v_NoFlat : PySem.W.kitOne K (.ref c_NoFlat) (.type "ValueError") = some true
  k_NoFlat_TreeError : PySem.W.kitOne K (.ref c_NoFlat) (.ref c_TreeError) = some true
  k_NoFlat_NoThing : PySem.W.kitOne K (.ref c_NoFlat) (.ref c_NoThing) = some true
  k_NoFlat_NoFit : PySem.W.kitOne K (.ref c_NoFlat) (.ref c_NoFit) = some false
  k_NoFlat_NoTree : PySem.W.kitOne K (.ref c_NoFlat) (.ref c_NoTree) = some false
  k_NoFlat_NoPath : PySem.W.kitOne K (.ref c_NoFlat) (.ref c_NoPath) = some false
  k_NoFlat_NoFlat : PySem.W.kitOne K (.ref c_NoFlat) (.ref c_NoFlat) = some true
  h_NoFlat_TreeError : PySem.W.exmOne K (.ref c_NoFlat) (.ref c_TreeError) = some true
section
variable {P : Program} {w : World} {K : PySem.W.Frag} {mg : Str → Option Value} {base : Heap}
/-- the tree of a flat row, or what is told of the refusal -/
def tfTold : TF := fun ws M R _ => g1 ws fun x => gD x fun d => txt d = true ∧ ((∃ t, TrT 12 t ∧ nn t ≤ 60 ∧ d = .tuple ((rowP t 0).map prD) ∧ R (.d t) M) ∨ (isFlatD d = false ∧ R (.d (.list [.bool true, .bool false, .bool true])) M))
abbrev sTold : Stmt := top 36
theorem scTold : FnScope ["_law_thing", "_law_found", "error"] ["_law_thing"] (defScope sTold) := ⟨rfl, rfl, rfl, by decide +kernel, rfl, by decide +kernel, by decide +kernel⟩
theorem ok_told {f : Addr} {fd : FuncData} {k j : Nat} (F : Fun K "_law_told" "_law_told" sTold f fd) (A : Cls K mg) (Utree_of_flat : UseX P w K mg base "tree_of_flat" ["flat"] j (spD K 1 (tfOfFlat A.c_NoFlat))) (hj : j ≤ k) (T : Bl mg) (mVE : mg "ValueError" = none) : FnOk P w K mg base CX0 (k + 1) f fd ["_law_thing"] (spD K 1 tfTold) := by
  refine okD F scTold rfl fun cdv A' outer s H E hr => ?_
  refine ⟨_, _, (pss_cons (ps_set (i := 1) scTold.nd rfl (.inl rfl) pe_non)
    (pss_cons (ps_try_as (i := 2) (Wout := fun _ _ _ _ => False) rfl rfl scTold.nd rfl rfl ⟨rfl, by decide, .inl A.m_TreeError⟩ takes0
    (fun W pn xe tk _ => (pss_one (ps_set (i := 1) scTold.nd rfl (.inl rfl) (pe_callS Utree_of_flat.ok (hr.mono (by omega)) rfl Utree_of_flat.m Utree_of_flat.kp Utree_of_flat.b (fun σ => passAt tk σ) (pa_cons (pv 0) pa_nil)))))
    (fun a oe cls d pn hz hf => (pss_one (ps_set (i := 1) scTold.nd rfl (.inl rfl) (pe_lst (pa_cons (pe_callB (r := rIsS K a cls d) (call_isS hz hf) (by rfl) T.isi PyProof.Rows.boot_isinstance (pa_cons (pv 2) (pa_cons (pe_glob (v := .ref A.c_NoFlat) (by rfl) A.m_NoFlat rfl) pa_nil))) (pa_cons (pe_callB (r := rIsST K a cls d) (call_isST hz hf) (by rfl) T.isi PyProof.Rows.boot_isinstance (pa_cons (pv 2) (pa_cons (pe_tup (pa_cons (pe_glob (v := .ref A.c_NoTree) (by rfl) A.m_NoTree rfl) (pa_cons (pe_glob (v := .ref A.c_NoPath) (by rfl) A.m_NoPath rfl) (pa_cons (pe_glob (v := .ref A.c_NoFit) (by rfl) A.m_NoFit rfl) pa_nil)))) pa_nil))) (pa_cons (pe_callB (r := rIsS K a cls d) (call_isS hz hf) (by rfl) T.isi PyProof.Rows.boot_isinstance (pa_cons (pv 2) (pa_cons (pe_bltn (v := .ty "ValueError") (by rfl) mVE bootVE rfl) pa_nil))) pa_nil))))))))
    (pss_one (ps_ret (pv 1))))),
    (ss_cons (ss_set se_non)
    (ss_cons (ss_tryB (fun Wx RE => (ss_set (se_callX (sa_cons se_nm sa_nil)))) (fun a cls d => (ss_set (se_lsf (sa_cons (se_cb sc_isS (sa_cons se_nm (sa_cons se_o sa_nil))) (sa_cons (se_isST se_nm (sa_cons se_o (sa_cons se_o (sa_cons se_o sa_nil)))) (sa_cons (se_cb sc_isS (sa_cons se_nm (sa_cons se_o sa_nil))) sa_nil)))))))
    (ss_ret se_nm))), fun ws M R RX hl h => ?_⟩
  obtain ⟨x, rfl, h1⟩ := g1_of h
  obtain ⟨d, rfl, ht, h2⟩ := gD_of h1
  simp only [start0, len_c, len_n, map_c, map_n, app_c, app_n, rep_0, rep_s, Nat.reduceAdd, Nat.reduceSub]
  (with_reducible (conv => whnf)); (repeat ((first | (with_reducible refine gO_i tyIs_int ?_) | (with_reducible refine gO_i tyIs_bool ?_) | (with_reducible refine gO_i tyIs_str ?_) | (with_reducible refine gO_i tyIs_tuple ?_) | (with_reducible refine gO_i tyIs_list ?_) | (with_reducible refine gDs_i ?_) | (with_reducible refine gO_i (Eq.refl _) ?_) | (with_reducible refine iteTT ?gha ?_; (case gha => rfl)) | (with_reducible refine iteFF ?gha ?_; (case gha => rfl))); (with_reducible (conv => whnf))))
  refine ⟨ht, ?_⟩
  rcases h2 with ⟨t, t1, t2, rfl, h2⟩ | ⟨c, h2⟩
  · exact .inl ⟨t, t1, t2, rfl, h2⟩
  · refine .inr ⟨c, ?_⟩
    (with_reducible (conv => whnf)); (repeat ((first | (with_reducible refine gO_i tyIs_int ?_) | (with_reducible refine gO_i tyIs_bool ?_) | (with_reducible refine gO_i tyIs_str ?_) | (with_reducible refine gO_i tyIs_tuple ?_) | (with_reducible refine gO_i tyIs_list ?_) | (with_reducible refine gDs_i ?_) | (with_reducible refine gO_i (Eq.refl _) ?_) | (with_reducible refine iteTT ?gha ?_; (case gha => rfl)) | (with_reducible refine iteFF ?gha ?_; (case gha => rfl))); (with_reducible (conv => whnf))))
    refine gO_i A.h_NoFlat_TreeError ?_
    (with_reducible (conv => whnf)); (repeat ((first | (with_reducible refine gO_i tyIs_int ?_) | (with_reducible refine gO_i tyIs_bool ?_) | (with_reducible refine gO_i tyIs_str ?_) | (with_reducible refine gO_i tyIs_tuple ?_) | (with_reducible refine gO_i tyIs_list ?_) | (with_reducible refine gDs_i ?_) | (with_reducible refine gO_i (Eq.refl _) ?_) | (with_reducible refine iteTT ?gha ?_; (case gha => rfl)) | (with_reducible refine iteFF ?gha ?_; (case gha => rfl))); (with_reducible (conv => whnf))))
    intro a dd
    (with_reducible (conv => whnf)); (repeat ((first | (with_reducible refine gO_i tyIs_int ?_) | (with_reducible refine gO_i tyIs_bool ?_) | (with_reducible refine gO_i tyIs_str ?_) | (with_reducible refine gO_i tyIs_tuple ?_) | (with_reducible refine gO_i tyIs_list ?_) | (with_reducible refine gDs_i ?_) | (with_reducible refine gO_i (Eq.refl _) ?_) | (with_reducible refine iteTT ?gha ?_; (case gha => rfl)) | (with_reducible refine iteFF ?gha ?_; (case gha => rfl))); (with_reducible (conv => whnf))))
    refine ⟨⟨rfl, rfl, rfl⟩, A.x_NoFlat, ?_⟩
    (with_reducible (conv => whnf)); (repeat ((first | (with_reducible refine gO_i tyIs_int ?_) | (with_reducible refine gO_i tyIs_bool ?_) | (with_reducible refine gO_i tyIs_str ?_) | (with_reducible refine gO_i tyIs_tuple ?_) | (with_reducible refine gO_i tyIs_list ?_) | (with_reducible refine gDs_i ?_) | (with_reducible refine gO_i (Eq.refl _) ?_) | (with_reducible refine iteTT ?gha ?_; (case gha => rfl)) | (with_reducible refine iteFF ?gha ?_; (case gha => rfl))); (with_reducible (conv => whnf))))
    refine gO_i A.k_NoFlat_NoFlat ?_
    (with_reducible (conv => whnf)); (repeat ((first | (with_reducible refine gO_i tyIs_int ?_) | (with_reducible refine gO_i tyIs_bool ?_) | (with_reducible refine gO_i tyIs_str ?_) | (with_reducible refine gO_i tyIs_tuple ?_) | (with_reducible refine gO_i tyIs_list ?_) | (with_reducible refine gDs_i ?_) | (with_reducible refine gO_i (Eq.refl _) ?_) | (with_reducible refine iteTT ?gha ?_; (case gha => rfl)) | (with_reducible refine iteFF ?gha ?_; (case gha => rfl))); (with_reducible (conv => whnf))))
    refine ⟨⟨rfl, rfl, rfl⟩, A.x_NoFlat, ?_⟩
    (with_reducible (conv => whnf)); (repeat ((first | (with_reducible refine gO_i tyIs_int ?_) | (with_reducible refine gO_i tyIs_bool ?_) | (with_reducible refine gO_i tyIs_str ?_) | (with_reducible refine gO_i tyIs_tuple ?_) | (with_reducible refine gO_i tyIs_list ?_) | (with_reducible refine gDs_i ?_) | (with_reducible refine gO_i (Eq.refl _) ?_) | (with_reducible refine iteTT ?gha ?_; (case gha => rfl)) | (with_reducible refine iteFF ?gha ?_; (case gha => rfl))); (with_reducible (conv => whnf))))
    refine gO_i (a := false) (by simp only [PySem.W.kitAny, A.k_NoFlat_NoTree, A.k_NoFlat_NoPath, A.k_NoFlat_NoFit]) ?_
    (with_reducible (conv => whnf)); (repeat ((first | (with_reducible refine gO_i tyIs_int ?_) | (with_reducible refine gO_i tyIs_bool ?_) | (with_reducible refine gO_i tyIs_str ?_) | (with_reducible refine gO_i tyIs_tuple ?_) | (with_reducible refine gO_i tyIs_list ?_) | (with_reducible refine gDs_i ?_) | (with_reducible refine gO_i (Eq.refl _) ?_) | (with_reducible refine iteTT ?gha ?_; (case gha => rfl)) | (with_reducible refine iteFF ?gha ?_; (case gha => rfl))); (with_reducible (conv => whnf))))
    refine ⟨⟨rfl, rfl, rfl⟩, A.x_NoFlat, ?_⟩
    (with_reducible (conv => whnf)); (repeat ((first | (with_reducible refine gO_i tyIs_int ?_) | (with_reducible refine gO_i tyIs_bool ?_) | (with_reducible refine gO_i tyIs_str ?_) | (with_reducible refine gO_i tyIs_tuple ?_) | (with_reducible refine gO_i tyIs_list ?_) | (with_reducible refine gDs_i ?_) | (with_reducible refine gO_i (Eq.refl _) ?_) | (with_reducible refine iteTT ?gha ?_; (case gha => rfl)) | (with_reducible refine iteFF ?gha ?_; (case gha => rfl))); (with_reducible (conv => whnf))))
    refine gO_i A.v_NoFlat ?_
    (with_reducible (conv => whnf)); (repeat ((first | (with_reducible refine gO_i tyIs_int ?_) | (with_reducible refine gO_i tyIs_bool ?_) | (with_reducible refine gO_i tyIs_str ?_) | (with_reducible refine gO_i tyIs_tuple ?_) | (with_reducible refine gO_i tyIs_list ?_) | (with_reducible refine gDs_i ?_) | (with_reducible refine gO_i (Eq.refl _) ?_) | (with_reducible refine iteTT ?gha ?_; (case gha => rfl)) | (with_reducible refine iteFF ?gha ?_; (case gha => rfl))); (with_reducible (conv => whnf))))
    exact h2
/-- a thing is right -/
def tfRight (n : Nat) : TF := fun ws M R _ => g1 ws fun x => gD x fun d => (GdE d ∧ d.depth < n) ∧ R (.d (.bool true)) M
abbrev sRight : Stmt := top 37
theorem scRight : FnScope ["_law_thing", "_law_due", "_law_was", "_law_found", "_law_told_here"] ["_law_thing"] (defScope sRight) := ⟨rfl, rfl, rfl, by decide +kernel, rfl, by decide +kernel, by decide +kernel⟩
theorem ok_right {f : Addr} {fd : FuncData} {k n j1 j2 j3 j4 j5 : Nat} (F : Fun K "_law_right" "_law_right" sRight f fd) (A : Cls K mg) (U_law_is_flat : Use P w K mg base "_law_is_flat" ["_law_thing"] j1 (spD K 1 (tfB isFlatD))) (Uis_flat : Use P w K mg base "is_flat" ["thing"] j2 (spD K 1 (tfB isFlatD))) (U_law_told : Use P w K mg base "_law_told" ["_law_thing"] j3 (spD K 1 tfTold)) (U_law_alike : Use P w K mg base "_law_alike" ["_law_found", "_law_due"] j4 (spD K 2 (tfAlike n)))
    (Uflat_of : UseX P w K mg base "flat_of" ["tree"] j5 (spD K 1 (tfFlatOf A.c_NoTree))) (h1 : j1 ≤ k) (h2 : j2 ≤ k) (h3 : j3 ≤ k) (h4 : j4 ≤ k) (h5 : j5 ≤ k) (T : Bl mg) : FnG P w K mg base (k + 1) f fd ["_law_thing"] (spD K 1 (tfRight n)) := by
  refine okDG F scRight rfl fun cdv A' outer s H E hgu hr => ?_
  have hun : (A'.deeper (PyProof.Rows.envOfC "_law_right" (defScope sRight) s.heap.objs.size f cdv)).units + 200 < cLine := by
    have := hr.un
    omega
  refine ⟨_, _, (pss_cons (ps_set (i := 1) scRight.nd rfl (.inl rfl) (pe_call U_law_is_flat.ok (hr.mono (by omega)) rfl U_law_is_flat.m U_law_is_flat.kp U_law_is_flat.b .nil pass0 (pa_cons (pv 0) pa_nil)))
    (pss_cons (ps_set (i := 2) scRight.nd rfl (.inl rfl) (pe_callB (call_reprD hgu hun) (by rfl) T.repr PyProof.Rows.boot_repr (pa_cons (pv 0) pa_nil)))
    (pss_cons (ps_set (i := 3) scRight.nd rfl (.inl rfl) (pe_call Uis_flat.ok (hr.mono (by omega)) rfl Uis_flat.m Uis_flat.kp Uis_flat.b .nil pass0 (pa_cons (pv 0) pa_nil)))
    (pss_cons (ps_if (PW.pt (pw_or (pt_not (pt_val (pe_callB (r := rIsi K) call_isi (by rfl) T.isi PyProof.Rows.boot_isinstance (pa_cons (pv 3) (pa_cons (b_bool T) pa_nil))))) (pw_or1 (pt_cmpR op_ne (pv 3) (pv 1) (nomark _))))) (pss_one (ps_ret pe_bl)) pss_nil)
    (pss_cons (ps_set (i := 4) scRight.nd rfl (.inl rfl) (pe_call U_law_told.ok (hr.mono (by omega)) rfl U_law_told.m U_law_told.kp U_law_told.b .nil pass0 (pa_cons (pv 0) pa_nil)))
    (pss_cons (ps_if (pt_not (pt_val (pv 1))) (pss_one (ps_ret (pe_and (pe_cmpR (op_eqD hr.units) (pv 4) (pe_lst (pa_cons pe_bl (pa_cons pe_bl (pa_cons pe_bl pa_nil)))) (nomark _)) (pe_one (pe_cmpR op_eq (pe_callB (call_reprD hgu hun) (by rfl) T.repr PyProof.Rows.boot_repr (pa_cons (pv 0) pa_nil)) (pv 2) (nomark _)))))) pss_nil)
    (pss_one (ps_ret (pe_and (pe_call U_law_alike.ok (hr.mono (by omega)) rfl U_law_alike.m U_law_alike.kp U_law_alike.b .nil pass0 (pa_cons (pe_callS Uflat_of.ok (hr.mono (by omega)) rfl Uflat_of.m Uflat_of.kp Uflat_of.b (fun σ => passAt takes0 σ) (pa_cons (pv 4) pa_nil)) (pa_cons (pv 0) pa_nil))) (pe_one (pe_cmpR op_eq (pe_callB (call_reprD hgu hun) (by rfl) T.repr PyProof.Rows.boot_repr (pa_cons (pv 0) pa_nil)) (pv 2) (nomark _)))))))))))),
    (ss_cons (ss_set (se_call (sa_cons se_nm sa_nil)))
    (ss_cons (ss_set (se_cb sc_repr (sa_cons se_nm sa_nil)))
    (ss_cons (ss_set (se_call (sa_cons se_nm sa_nil)))
    (ss_cons (ss_if (st_or (st_not (st_val (se_cb sc_isi (sa_cons se_nm (sa_cons se_o sa_nil))))) (st_test (se_op so_neS se_nm se_nm))) (ss_ret se_bl) ss_nil)
    (ss_cons (ss_set (se_call (sa_cons se_nm sa_nil)))
    (ss_cons (ss_if (st_not (st_val se_nm)) (ss_ret (se_and (se_op so_eqD se_nm (se_lsf (sa_cons se_bl (sa_cons se_bl (sa_cons se_bl sa_nil))))) (se_op so_eqS (se_cb sc_repr (sa_cons se_nm sa_nil)) se_nm))) ss_nil)
    (ss_ret (se_and (se_call (sa_cons (se_callX (sa_cons se_nm sa_nil)) (sa_cons se_nm sa_nil))) (se_op so_eqS (se_cb sc_repr (sa_cons se_nm sa_nil)) se_nm))))))))), fun ws M R RX hl h => ?_⟩
  obtain ⟨x, rfl, q1⟩ := g1_of h
  obtain ⟨d, rfl, ⟨hd, hdep⟩, q2⟩ := gD_of q1
  have fin : lax R (W.d (PyData.bool (decide (d.shown = d.shown)))) M := by
    rw [decide_eq_true rfl]
    exact lax_of q2
  cases c : isFlatD d with
  | false =>
    simp only [start0, len_c, len_n, map_c, map_n, app_c, app_n, rep_0, rep_s, Nat.reduceAdd, Nat.reduceSub]
    (with_reducible (conv => whnf)); (repeat ((first | (with_reducible refine gO_i tyIs_int ?_) | (with_reducible refine gO_i tyIs_bool ?_) | (with_reducible refine gO_i tyIs_str ?_) | (with_reducible refine gO_i tyIs_tuple ?_) | (with_reducible refine gO_i tyIs_list ?_) | (with_reducible refine gDs_i ?_) | (with_reducible refine gO_i (Eq.refl _) ?_) | (with_reducible refine iteTT ?gha ?_; (case gha => rfl)) | (with_reducible refine iteFF ?gha ?_; (case gha => rfl))); (with_reducible (conv => whnf))))
    refine ⟨hd.txt, ?_⟩
    rw [c]
    (with_reducible (conv => whnf)); (repeat ((first | (with_reducible refine gO_i tyIs_int ?_) | (with_reducible refine gO_i tyIs_bool ?_) | (with_reducible refine gO_i tyIs_str ?_) | (with_reducible refine gO_i tyIs_tuple ?_) | (with_reducible refine gO_i tyIs_list ?_) | (with_reducible refine gDs_i ?_) | (with_reducible refine gO_i (Eq.refl _) ?_) | (with_reducible refine iteTT ?gha ?_; (case gha => rfl)) | (with_reducible refine iteFF ?gha ?_; (case gha => rfl))); (with_reducible (conv => whnf))))
    refine ⟨hd.sh, ?_⟩
    (with_reducible (conv => whnf)); (repeat ((first | (with_reducible refine gO_i tyIs_int ?_) | (with_reducible refine gO_i tyIs_bool ?_) | (with_reducible refine gO_i tyIs_str ?_) | (with_reducible refine gO_i tyIs_tuple ?_) | (with_reducible refine gO_i tyIs_list ?_) | (with_reducible refine gDs_i ?_) | (with_reducible refine gO_i (Eq.refl _) ?_) | (with_reducible refine iteTT ?gha ?_; (case gha => rfl)) | (with_reducible refine iteFF ?gha ?_; (case gha => rfl))); (with_reducible (conv => whnf))))
    refine ⟨hd.txt, ?_⟩
    rw [c]
    (with_reducible (conv => whnf)); (repeat ((first | (with_reducible refine gO_i tyIs_int ?_) | (with_reducible refine gO_i tyIs_bool ?_) | (with_reducible refine gO_i tyIs_str ?_) | (with_reducible refine gO_i tyIs_tuple ?_) | (with_reducible refine gO_i tyIs_list ?_) | (with_reducible refine gDs_i ?_) | (with_reducible refine gO_i (Eq.refl _) ?_) | (with_reducible refine iteTT ?gha ?_; (case gha => rfl)) | (with_reducible refine iteFF ?gha ?_; (case gha => rfl))); (with_reducible (conv => whnf))))
    refine ⟨hd.txt, .inr ⟨c, ?_⟩⟩
    (with_reducible (conv => whnf)); (repeat ((first | (with_reducible refine gO_i tyIs_int ?_) | (with_reducible refine gO_i tyIs_bool ?_) | (with_reducible refine gO_i tyIs_str ?_) | (with_reducible refine gO_i tyIs_tuple ?_) | (with_reducible refine gO_i tyIs_list ?_) | (with_reducible refine gDs_i ?_) | (with_reducible refine gO_i (Eq.refl _) ?_) | (with_reducible refine iteTT ?gha ?_; (case gha => rfl)) | (with_reducible refine iteFF ?gha ?_; (case gha => rfl))); (with_reducible (conv => whnf))))
    refine ⟨⟨by decide +kernel, by decide +kernel⟩, ?_⟩
    (with_reducible (conv => whnf)); (repeat ((first | (with_reducible refine gO_i tyIs_int ?_) | (with_reducible refine gO_i tyIs_bool ?_) | (with_reducible refine gO_i tyIs_str ?_) | (with_reducible refine gO_i tyIs_tuple ?_) | (with_reducible refine gO_i tyIs_list ?_) | (with_reducible refine gDs_i ?_) | (with_reducible refine gO_i (Eq.refl _) ?_) | (with_reducible refine iteTT ?gha ?_; (case gha => rfl)) | (with_reducible refine iteFF ?gha ?_; (case gha => rfl))); (with_reducible (conv => whnf))))
    refine iteTT (by decide +kernel) ?_
    (with_reducible (conv => whnf)); (repeat ((first | (with_reducible refine gO_i tyIs_int ?_) | (with_reducible refine gO_i tyIs_bool ?_) | (with_reducible refine gO_i tyIs_str ?_) | (with_reducible refine gO_i tyIs_tuple ?_) | (with_reducible refine gO_i tyIs_list ?_) | (with_reducible refine gDs_i ?_) | (with_reducible refine gO_i (Eq.refl _) ?_) | (with_reducible refine iteTT ?gha ?_; (case gha => rfl)) | (with_reducible refine iteFF ?gha ?_; (case gha => rfl))); (with_reducible (conv => whnf))))
    refine ⟨hd.sh, ?_⟩
    (with_reducible (conv => whnf)); (repeat ((first | (with_reducible refine gO_i tyIs_int ?_) | (with_reducible refine gO_i tyIs_bool ?_) | (with_reducible refine gO_i tyIs_str ?_) | (with_reducible refine gO_i tyIs_tuple ?_) | (with_reducible refine gO_i tyIs_list ?_) | (with_reducible refine gDs_i ?_) | (with_reducible refine gO_i (Eq.refl _) ?_) | (with_reducible refine iteTT ?gha ?_; (case gha => rfl)) | (with_reducible refine iteFF ?gha ?_; (case gha => rfl))); (with_reducible (conv => whnf))))
    exact fin
  | true =>
    obtain ⟨ds, rfl⟩ : ∃ ds, d = .tuple ds := by
      cases d with
      | tuple ds => exact ⟨ds, rfl⟩
      | _ => cases c
    obtain ⟨t, t1, t2, e⟩ := flat_tree c
    simp only [start0, len_c, len_n, map_c, map_n, app_c, app_n, rep_0, rep_s, Nat.reduceAdd, Nat.reduceSub]
    (with_reducible (conv => whnf)); (repeat ((first | (with_reducible refine gO_i tyIs_int ?_) | (with_reducible refine gO_i tyIs_bool ?_) | (with_reducible refine gO_i tyIs_str ?_) | (with_reducible refine gO_i tyIs_tuple ?_) | (with_reducible refine gO_i tyIs_list ?_) | (with_reducible refine gDs_i ?_) | (with_reducible refine gO_i (Eq.refl _) ?_) | (with_reducible refine iteTT ?gha ?_; (case gha => rfl)) | (with_reducible refine iteFF ?gha ?_; (case gha => rfl))); (with_reducible (conv => whnf))))
    refine ⟨hd.txt, ?_⟩
    rw [c]
    (with_reducible (conv => whnf)); (repeat ((first | (with_reducible refine gO_i tyIs_int ?_) | (with_reducible refine gO_i tyIs_bool ?_) | (with_reducible refine gO_i tyIs_str ?_) | (with_reducible refine gO_i tyIs_tuple ?_) | (with_reducible refine gO_i tyIs_list ?_) | (with_reducible refine gDs_i ?_) | (with_reducible refine gO_i (Eq.refl _) ?_) | (with_reducible refine iteTT ?gha ?_; (case gha => rfl)) | (with_reducible refine iteFF ?gha ?_; (case gha => rfl))); (with_reducible (conv => whnf))))
    refine ⟨hd.sh, ?_⟩
    (with_reducible (conv => whnf)); (repeat ((first | (with_reducible refine gO_i tyIs_int ?_) | (with_reducible refine gO_i tyIs_bool ?_) | (with_reducible refine gO_i tyIs_str ?_) | (with_reducible refine gO_i tyIs_tuple ?_) | (with_reducible refine gO_i tyIs_list ?_) | (with_reducible refine gDs_i ?_) | (with_reducible refine gO_i (Eq.refl _) ?_) | (with_reducible refine iteTT ?gha ?_; (case gha => rfl)) | (with_reducible refine iteFF ?gha ?_; (case gha => rfl))); (with_reducible (conv => whnf))))
    refine ⟨hd.txt, ?_⟩
    rw [c]
    (with_reducible (conv => whnf)); (repeat ((first | (with_reducible refine gO_i tyIs_int ?_) | (with_reducible refine gO_i tyIs_bool ?_) | (with_reducible refine gO_i tyIs_str ?_) | (with_reducible refine gO_i tyIs_tuple ?_) | (with_reducible refine gO_i tyIs_list ?_) | (with_reducible refine gDs_i ?_) | (with_reducible refine gO_i (Eq.refl _) ?_) | (with_reducible refine iteTT ?gha ?_; (case gha => rfl)) | (with_reducible refine iteFF ?gha ?_; (case gha => rfl))); (with_reducible (conv => whnf))))
    refine ⟨hd.txt, .inl ⟨t, t1, t2, by rw [e], ?_⟩⟩
    (with_reducible (conv => whnf)); (repeat ((first | (with_reducible refine gO_i tyIs_int ?_) | (with_reducible refine gO_i tyIs_bool ?_) | (with_reducible refine gO_i tyIs_str ?_) | (with_reducible refine gO_i tyIs_tuple ?_) | (with_reducible refine gO_i tyIs_list ?_) | (with_reducible refine gDs_i ?_) | (with_reducible refine gO_i (Eq.refl _) ?_) | (with_reducible refine iteTT ?gha ?_; (case gha => rfl)) | (with_reducible refine iteFF ?gha ?_; (case gha => rfl))); (with_reducible (conv => whnf))))
    refine ⟨gd_txt t t1.gd.1, fun _ => ?_, fun c2 => absurd (tree_iff.mpr ⟨t1, t2⟩) (by rw [c2]; exact Bool.false_ne_true)⟩
    (with_reducible (conv => whnf)); (repeat ((first | (with_reducible refine gO_i tyIs_int ?_) | (with_reducible refine gO_i tyIs_bool ?_) | (with_reducible refine gO_i tyIs_str ?_) | (with_reducible refine gO_i tyIs_tuple ?_) | (with_reducible refine gO_i tyIs_list ?_) | (with_reducible refine gDs_i ?_) | (with_reducible refine gO_i (Eq.refl _) ?_) | (with_reducible refine iteTT ?gha ?_; (case gha => rfl)) | (with_reducible refine iteFF ?gha ?_; (case gha => rfl))); (with_reducible (conv => whnf))))
    refine ⟨by rw [e], ⟨hdep, ?_, hd.txt⟩, ?_⟩
    · rcases hd with hd | hd
      · exact gd_nd _ hd.1
      · cases hd
    (with_reducible (conv => whnf)); (repeat ((first | (with_reducible refine gO_i tyIs_int ?_) | (with_reducible refine gO_i tyIs_bool ?_) | (with_reducible refine gO_i tyIs_str ?_) | (with_reducible refine gO_i tyIs_tuple ?_) | (with_reducible refine gO_i tyIs_list ?_) | (with_reducible refine gDs_i ?_) | (with_reducible refine gO_i (Eq.refl _) ?_) | (with_reducible refine iteTT ?gha ?_; (case gha => rfl)) | (with_reducible refine iteFF ?gha ?_; (case gha => rfl))); (with_reducible (conv => whnf))))
    refine ⟨hd.sh, ?_⟩
    (with_reducible (conv => whnf)); (repeat ((first | (with_reducible refine gO_i tyIs_int ?_) | (with_reducible refine gO_i tyIs_bool ?_) | (with_reducible refine gO_i tyIs_str ?_) | (with_reducible refine gO_i tyIs_tuple ?_) | (with_reducible refine gO_i tyIs_list ?_) | (with_reducible refine gDs_i ?_) | (with_reducible refine gO_i (Eq.refl _) ?_) | (with_reducible refine iteTT ?gha ?_; (case gha => rfl)) | (with_reducible refine iteFF ?gha ?_; (case gha => rfl))); (with_reducible (conv => whnf))))
    exact fin
end
end Tl

set_option Elab.async false
set_option linter.all false
set_option maxRecDepth 100000
set_option maxHeartbeats 4000000
/-! What a top needs: facts of classes, promises lifted to one level. -/
namespace Tl
open PySem L2
theorem kit_sub0 {K : PySem.W.Frag} {D C : Addr} {b : Bool} (h1 : PySem.W.isClsIn K C = true) (h2 : PySem.W.typeIn K (.ref C) = some (.type "type")) (h : PySem.W.subIn K (.ref D) (.ref C) = some b) (hb : D = C → b = true) : PySem.W.kitOne K (.ref D) (.ref C) = some b := by
  unfold PySem.W.kitOne
  by_cases e : D = C
  · rw [hb e, e, if_pos (by simp)]
  · rw [if_neg (fun z => e (Value.ref.inj (eq_of_beq z)))]
    unfold PySem.W.kitCls
    have h1' : (PySem.W.clsIn K C).isSome = true := h1
    have e2 : ((PySem.W.clsIn K C).isSome && PySem.W.typeIn K (.ref C) == some (.type "type")) = true := by rw [h1', h2] <;> rfl
    show (if ((PySem.W.clsIn K C).isSome && PySem.W.typeIn K (.ref C) == some (.type "type")) = true then PySem.W.subIn K (.ref D) (.ref C) else none) = some b
    rw [if_pos e2]
    exact h
theorem kit_sub {K : PySem.W.Frag} {D C : Addr} (h1 : PySem.W.isClsIn K C = true) (h2 : PySem.W.typeIn K (.ref C) = some (.type "type")) (h : PySem.W.subIn K (.ref D) (.ref C) = some true) : PySem.W.kitOne K (.ref D) (.ref C) = some true := kit_sub0 h1 h2 h fun _ => rfl
theorem kit_no {K : PySem.W.Frag} {D C : Addr} (h1 : PySem.W.isClsIn K C = true) (h2 : PySem.W.typeIn K (.ref C) = some (.type "type")) (hs : PySem.W.subIn K (.ref D) (.ref D) = some true) (h : PySem.W.subIn K (.ref D) (.ref C) = some false) : PySem.W.kitOne K (.ref D) (.ref C) = some false :=
  kit_sub0 h1 h2 h fun e => by
    subst e
    rw [hs] at h
    cases h
theorem kit_ve {K : PySem.W.Frag} {D : Addr} (h : PySem.W.subIn K (.ref D) (.type "ValueError") = some true) : PySem.W.kitOne K (.ref D) (.type "ValueError") = some true := by
  unfold PySem.W.kitOne
  rw [if_neg (by simp)]
  show (if PySem.W.kitMeta "ValueError" = true then PySem.W.subIn K (.ref D) (.type "ValueError") else none) = some true
  rw [if_pos (by decide +kernel)]
  exact h
section
variable {P : Program} {w : World} {K : PySem.W.Frag} {mg : Str → Option Value} {base : Heap} {x : Str} {ps : List Str} {k k' : Nat} {sp : Sp}
def Use.up (u : Use P w K mg base x ps k sp) (h : k ≤ k') : Use P w K mg base x ps k' sp := ⟨u.f, u.fd, u.ok.mono h, u.m, u.kp, u.b⟩
def UseX.up (u : UseX P w K mg base x ps k sp) (h : k ≤ k') : UseX P w K mg base x ps k' sp := ⟨u.f, u.fd, u.ok.mono h, u.m, u.kp, u.b⟩
theorem FnG.mono {f : Addr} {fd : FuncData} (F : FnG P w K mg base k f fd ps sp) (h : k ≤ k') : FnG P w K mg base k' f fd ps sp := ⟨F.len, fun A st s H args us vs Q E g hr => F.run A st s H args us vs Q E g (hr.mono h)⟩
def UseG.up (u : UseG P w K mg base x ps k sp) (h : k ≤ k') : UseG P w K mg base x ps k' sp := ⟨u.f, u.fd, u.ok.mono h, u.m, u.kp, u.b⟩
/-- a def as the top has left it -/
structure At (K : PySem.W.Frag) (mg : Str → Option Value) (x : Str) (st : Stmt) where
  f : Addr
  fd : FuncData
  F : Fun K x x st f fd
  m : mg x = some (.ref f)
def use {st : Stmt} (d : At K mg x st) (b : Binds K d.fd ps []) (ok : FnOk P w K mg base CX0 k d.f d.fd ps sp) : Use P w K mg base x ps k sp := ⟨d.f, d.fd, ok, d.m, d.F.kp, b⟩
def useX {st : Stmt} (d : At K mg x st) (b : Binds K d.fd ps []) (ok : FnOk P w K mg base (L2.CX P w) k d.f d.fd ps sp) : UseX P w K mg base x ps k sp := ⟨d.f, d.fd, ok, d.m, d.F.kp, b⟩
def useG {st : Stmt} (d : At K mg x st) (b : Binds K d.fd ps []) (ok : FnG P w K mg base k d.f d.fd ps sp) : UseG P w K mg base x ps k sp := ⟨d.f, d.fd, ok, d.m, d.F.kp, b⟩
/-- one def, from what the top has written -/
def at_mk {h : Heap} {x : Str} {st : Stmt} (X : K.In h) (G : h.Ns mainGlobals mg) {f : Addr} {od an : Option Addr} {sl : Array (Option Value)} {oc kV dc pm cd ct : Value} (a : PySem.W.nsIn K mainGlobals x = some (some (.ref f)))
    (l : K.lookup f = some ⟨oc, od, .func (PySem.W.fnOf x x (defArgs st) (defBody st) (defScope st) .none kV dc pm an cd ct), sl⟩) (c : PySem.W.codeIn K cd x = true) (k : PySem.W.keepIn K (.ref f) = true) : At K mg x st :=
  ⟨f, _, fun_mk (st := st) l c k, PySem.W.mg_of X G a⟩
end
theorem tuple_of_list {ρ : EnvD} {M : Mem} {ds : List PyData} {k : W → Mem → Prop} (q : k (.d (.tuple ds)) M) : nilA ρ M fun xs M2 => fTuple (W.d (.list ds) :: xs) M2 k := by
  show gDs (ds.map W.d) _
  rw [gDs_map]
  exact q
end Tl

set_option Elab.async false
set_option linter.all false
set_option maxRecDepth 100000
set_option maxHeartbeats 8000000
namespace Tl
open PySem L2 RZ
theorem Gks.of {m k : Nat} : ∀ {ds : List PyData}, (∀ d ∈ ds, Gk m k d) → Gks ((m + 2) * ds.length) k ds
  | [], _ => ⟨rfl, Nat.zero_le _, Nat.zero_le _⟩
  | d :: ds, h => Gks.cons (h d (.head _)) (Gks.of fun x hx => h x (.tail _ hx)) (by rw [List.length_cons, Nat.mul_succ]; omega)
theorem Gks.mono {m k m' k' : Nat} {ds : List PyData} (h : Gks m k ds) (h1 : m ≤ m') (h2 : k ≤ k') : Gks m' k' ds := ⟨h.1, Nat.le_trans h.2.1 h1, Nat.le_trans h.2.2 h2⟩
theorem row_ok {t : PyData} (h : TrT 12 t) (hn : nn t ≤ 60) : RowOk ((rowP t 0).map prD) := by
  have hl := rowP_len 0 h
  have hp := nn_pos t
  have hf := isFlat_row h hn
  rw [isFlatD] at hf
  simp only [Bool.and_eq_true] at hf
  obtain ⟨L, e, _, h2, _⟩ := flatGo_pr hf.2
  have each : ∀ d ∈ (rowP t 0).map prD, ∃ (l : Int) (s : Str), d = .tuple [.int l, .str s] ∧ 0 ≤ l ∧ l ≤ 20 ∧ s.length ≤ 8 ∧ PyData.strOk s = true := fun d hd => by
    rw [e] at hd
    obtain ⟨p, hp, rfl⟩ := List.mem_map.mp hd
    obtain ⟨h3, h4, h5⟩ := h2 p hp
    unfold tagOkP at h5
    cases c : p.2 with
    | str s =>
      rw [c] at h5
      obtain ⟨s1, s2, s3⟩ := tag_small h5
      exact ⟨p.1, s, by rw [prD, c], h3, by omega, s2, s3⟩
    | _ => rw [c] at h5; cases h5
  refine ⟨?_, by rw [List.length_map]; omega, by rw [List.length_map]; omega, each⟩
  refine Gks.mono (Gks.of (m := 3000) (k := 1) fun d hd => ?_) (by rw [List.length_map, hl]; omega) (Nat.le_refl _)
  obtain ⟨l, s, rfl, l0, l1, s1, s2⟩ := each d hd
  refine (Gks.cons (m := 1930) (m' := 90) (m'' := 2500) (k := 0) (gk_int (small41 (by omega) (by omega)) (by decide)) (.cons (m := 84) (m' := 0) (gk_str (by omega) s2 (by omega)) .nil (by decide)) (by decide)).tup (by decide)
def chain13 : List PyData := (List.range 13).map fun i => .tuple [.int (0 + (i : Nat)), .str "ab"]
def wide61 : List PyData := [PyData.tuple [.int 0, .str "r"]] ++ (List.replicate 60 [PyData.tuple [.int 1, .str "a"]]).flatten
theorem wide_is : [PyData.tuple [PyData.int 0, PyData.str "r"]] ++ (List.replicate (Int.toNat 60) [PyData.tuple [PyData.int 1, PyData.str "a"]]).flatten = wide61 := rfl
theorem len61 : [PyData.tuple [PyData.int 0, PyData.str "r"]].length + (List.replicate (Int.toNat 60) [PyData.tuple [PyData.int 1, PyData.str "a"]]).flatten.length ≤ sizeLine := sz1000 (by decide +kernel)
theorem gd_chain : GdE (.tuple chain13) ∧ GdE (.tuple (cut chain13 none (some 12))) ∧ GdE (.tuple wide61) ∧ GdE (.tuple (cut wide61 none (some 60))) :=
  ⟨.inl ⟨by decide +kernel, by decide +kernel, by decide +kernel⟩, .inl ⟨by decide +kernel, by decide +kernel, by decide +kernel⟩, .inl ⟨by decide +kernel, by decide +kernel, by decide +kernel⟩, .inl ⟨by decide +kernel, by decide +kernel, by decide +kernel⟩⟩
section
variable {P : Program} {w : World} {K : PySem.W.Frag} {mg : Str → Option Value} {base : Heap}
theorem GdE.dep {d : PyData} (h : GdE d) : d.depth < 50 := by
  rcases h with h | rfl
  · have := h.2.2
    omega
  · decide
/-- what is no tree is refused -/
def tfNoTree : TF := fun ws M R _ => g1 ws fun x => gR x fun st => M st = some (.src true) ∧ R (.d (.bool true)) M
abbrev sNoTree : Stmt := top 38
theorem scNoTree : FnScope ["_law_state_here", "_law_caught", "_law_odd", "error"] ["_law_state_here"] (defScope sNoTree) := ⟨rfl, rfl, rfl, by decide +kernel, rfl, by decide +kernel, by decide +kernel⟩
theorem ok_noTree {f : Addr} {fd : FuncData} {k j j2 : Nat} (F : Fun K "_law_no_tree" "_law_no_tree" sNoTree f fd) (A : Cls K mg) (U_law_next : Use P w K mg base "_law_next" ["_law_state_here", "_law_below"] j (spD K 2 (tfNext true))) (Uflat_of : UseX P w K mg base "flat_of" ["tree"] j2 (spD K 1 (tfFlatOf A.c_NoTree))) (hj : j ≤ k) (hj2 : j2 ≤ k) (T : Bl mg) : FnOk P w K mg base CX0 (k + 1) f fd ["_law_state_here"] (spD K 1 tfNoTree) := by
  refine okDL F scNoTree rfl fun cdv A' outer s H E hr => ?_
  refine ⟨_, _, (pss_cons (ps_set (i := 1) scNoTree.nd rfl (.inl rfl) pe_non)
    (pss_cons (ps_set (i := 2) scNoTree.nd rfl (.inl rfl) (pe_ix ix_list (pe_lst (pa_cons pe_non (pa_cons (pe_tup (pa_cons pe_str (pa_cons (pe_tup pa_nil) pa_nil))) (pa_cons (pe_lst (pa_cons pe_str (pa_cons (pe_tup pa_nil) pa_nil))) (pa_cons (pe_tup (pa_cons pe_str (pa_cons (pe_lst pa_nil) pa_nil))) (pa_cons (pe_tup pa_nil) (pa_cons pe_str (pa_cons (pe_tup (pa_cons pe_str (pa_cons (pe_tup (pa_cons (pe_tup (pa_cons pe_str pa_nil)) pa_nil)) pa_nil))) (pa_cons pe_int pa_nil))))))))) (pe_call U_law_next.ok (hr.mono (by omega)) rfl U_law_next.m U_law_next.kp U_law_next.b .nil pass0 (pa_cons (pv 0) (pa_cons pe_int pa_nil))) (fun _ _ => rfl)))
    (pss_cons (ps_try_keep (i := 3) (Wout := fun _ _ _ _ => False) rfl rfl rfl scNoTree.nd rfl rfl ⟨rfl, by decide, .inl A.m_TreeError⟩ takes0
    (fun W pn xe tk _ => (pss_one (ps_expr (pe_callS Uflat_of.ok (hr.mono (by omega)) rfl Uflat_of.m Uflat_of.kp Uflat_of.b (fun σ => passAt tk σ) (pa_cons (pv 2) pa_nil)))))
    (fun a oe cls d pn hz hf => (pss_one (ps_set (i := 1) scNoTree.nd rfl (.inl rfl) (pv 3)))))
    (pss_one (ps_ret (pe_and (pe_callB (r := rIsK K) call_isK (by rfl) T.isi PyProof.Rows.boot_isinstance (pa_cons (pv 1) (pa_cons (pe_glob (v := .ref A.c_NoTree) (by rfl) A.m_NoTree rfl) pa_nil))) (pe_one (pe_not (pe_callB (r := rIsK K) call_isK (by rfl) T.isi PyProof.Rows.boot_isinstance (pa_cons (pv 1) (pa_cons (pe_glob (v := .ref A.c_NoFlat) (by rfl) A.m_NoFlat rfl) pa_nil))))))))))),
    (ss_cons (ss_set se_non)
    (ss_cons (ss_set (se_op so_ixL (se_lsf (sa_cons se_non (sa_cons (se_tup (sa_cons se_str (sa_cons (se_tup sa_nil) sa_nil))) (sa_cons (se_lsf (sa_cons se_str (sa_cons (se_tup sa_nil) sa_nil))) (sa_cons (se_tup (sa_cons se_str (sa_cons (se_lsf sa_nil) sa_nil))) (sa_cons (se_tup sa_nil) (sa_cons se_str (sa_cons (se_tup (sa_cons se_str (sa_cons (se_tup (sa_cons (se_tup (sa_cons se_str sa_nil)) sa_nil)) sa_nil))) (sa_cons se_int sa_nil))))))))) (se_call (sa_cons se_nm (sa_cons se_int sa_nil)))))
    (ss_cons (ss_tryA (fun Wx RE => (ss_drop (se_callX (sa_cons se_nm sa_nil)))))
    (ss_ret (se_and (se_cb sc_isK (sa_cons se_nm (sa_cons se_o sa_nil))) (se_not (se_cb sc_isK (sa_cons se_nm (sa_cons se_o sa_nil))))))))), fun ws M R RX hl h => ?_⟩
  obtain ⟨x, rfl, h1⟩ := g1_of h
  obtain ⟨st, rfl, hM, h2⟩ := gR_of h1
  simp only [start0, len_c, len_n, map_c, map_n, app_c, app_n, rep_0, rep_s, Nat.reduceAdd, Nat.reduceSub]
  (with_reducible (conv => whnf)); (repeat ((first | (with_reducible refine gO_i tyIs_int ?_) | (with_reducible refine gO_i tyIs_bool ?_) | (with_reducible refine gO_i tyIs_str ?_) | (with_reducible refine gO_i tyIs_tuple ?_) | (with_reducible refine gO_i tyIs_list ?_) | (with_reducible refine gDs_i ?_) | (with_reducible refine gO_i (Eq.refl _) ?_) | (with_reducible refine iteTT ?gha ?_; (case gha => rfl)) | (with_reducible refine iteFF ?gha ?_; (case gha => rfl))); (with_reducible (conv => whnf))))
  refine ⟨⟨hM, by decide, by decide⟩, fun r h0 h1 => ?_⟩
  (with_reducible (conv => whnf)); (repeat ((first | (with_reducible refine gO_i tyIs_int ?_) | (with_reducible refine gO_i tyIs_bool ?_) | (with_reducible refine gO_i tyIs_str ?_) | (with_reducible refine gO_i tyIs_tuple ?_) | (with_reducible refine gO_i tyIs_list ?_) | (with_reducible refine gDs_i ?_) | (with_reducible refine gO_i (Eq.refl _) ?_) | (with_reducible refine iteTT ?gha ?_; (case gha => rfl)) | (with_reducible refine iteFF ?gha ?_; (case gha => rfl))); (with_reducible (conv => whnf))))
  refine gO_atD (fun d => txt d = true ∧ isTreeD d = false) h0 h1 ?_ fun d hd => ?_
  · refine all1 ?_ (all1 ?_ (all1 ?_ (all1 ?_ (all1 ?_ (all1 ?_ (all1 ?_ (all1 ?_ all0))))))) <;> exact ⟨by decide +kernel, by decide +kernel⟩
  (with_reducible (conv => whnf)); (repeat ((first | (with_reducible refine gO_i tyIs_int ?_) | (with_reducible refine gO_i tyIs_bool ?_) | (with_reducible refine gO_i tyIs_str ?_) | (with_reducible refine gO_i tyIs_tuple ?_) | (with_reducible refine gO_i tyIs_list ?_) | (with_reducible refine gDs_i ?_) | (with_reducible refine gO_i (Eq.refl _) ?_) | (with_reducible refine iteTT ?gha ?_; (case gha => rfl)) | (with_reducible refine iteFF ?gha ?_; (case gha => rfl))); (with_reducible (conv => whnf))))
  refine ⟨hd.1, fun c => absurd c (by rw [hd.2]; exact Bool.false_ne_true), fun _ => ?_⟩
  (with_reducible (conv => whnf)); (repeat ((first | (with_reducible refine gO_i tyIs_int ?_) | (with_reducible refine gO_i tyIs_bool ?_) | (with_reducible refine gO_i tyIs_str ?_) | (with_reducible refine gO_i tyIs_tuple ?_) | (with_reducible refine gO_i tyIs_list ?_) | (with_reducible refine gDs_i ?_) | (with_reducible refine gO_i (Eq.refl _) ?_) | (with_reducible refine iteTT ?gha ?_; (case gha => rfl)) | (with_reducible refine iteFF ?gha ?_; (case gha => rfl))); (with_reducible (conv => whnf))))
  refine gO_i A.h_NoTree_TreeError ?_
  (with_reducible (conv => whnf)); (repeat ((first | (with_reducible refine gO_i tyIs_int ?_) | (with_reducible refine gO_i tyIs_bool ?_) | (with_reducible refine gO_i tyIs_str ?_) | (with_reducible refine gO_i tyIs_tuple ?_) | (with_reducible refine gO_i tyIs_list ?_) | (with_reducible refine gDs_i ?_) | (with_reducible refine gO_i (Eq.refl _) ?_) | (with_reducible refine iteTT ?gha ?_; (case gha => rfl)) | (with_reducible refine iteFF ?gha ?_; (case gha => rfl))); (with_reducible (conv => whnf))))
  refine ⟨by show 3 < 4; decide, fun a dd ha => ?_⟩
  (with_reducible (conv => whnf)); (repeat ((first | (with_reducible refine gO_i tyIs_int ?_) | (with_reducible refine gO_i tyIs_bool ?_) | (with_reducible refine gO_i tyIs_str ?_) | (with_reducible refine gO_i tyIs_tuple ?_) | (with_reducible refine gO_i tyIs_list ?_) | (with_reducible refine gDs_i ?_) | (with_reducible refine gO_i (Eq.refl _) ?_) | (with_reducible refine iteTT ?gha ?_; (case gha => rfl)) | (with_reducible refine iteFF ?gha ?_; (case gha => rfl))); (with_reducible (conv => whnf))))
  refine ⟨mset_same, A.x_NoTree, ?_⟩
  (with_reducible (conv => whnf)); (repeat ((first | (with_reducible refine gO_i tyIs_int ?_) | (with_reducible refine gO_i tyIs_bool ?_) | (with_reducible refine gO_i tyIs_str ?_) | (with_reducible refine gO_i tyIs_tuple ?_) | (with_reducible refine gO_i tyIs_list ?_) | (with_reducible refine gDs_i ?_) | (with_reducible refine gO_i (Eq.refl _) ?_) | (with_reducible refine iteTT ?gha ?_; (case gha => rfl)) | (with_reducible refine iteFF ?gha ?_; (case gha => rfl))); (with_reducible (conv => whnf))))
  refine gO_i A.k_NoTree_NoTree ?_
  (with_reducible (conv => whnf)); (repeat ((first | (with_reducible refine gO_i tyIs_int ?_) | (with_reducible refine gO_i tyIs_bool ?_) | (with_reducible refine gO_i tyIs_str ?_) | (with_reducible refine gO_i tyIs_tuple ?_) | (with_reducible refine gO_i tyIs_list ?_) | (with_reducible refine gDs_i ?_) | (with_reducible refine gO_i (Eq.refl _) ?_) | (with_reducible refine iteTT ?gha ?_; (case gha => rfl)) | (with_reducible refine iteFF ?gha ?_; (case gha => rfl))); (with_reducible (conv => whnf))))
  refine ⟨mset_same, A.x_NoTree, ?_⟩
  (with_reducible (conv => whnf)); (repeat ((first | (with_reducible refine gO_i tyIs_int ?_) | (with_reducible refine gO_i tyIs_bool ?_) | (with_reducible refine gO_i tyIs_str ?_) | (with_reducible refine gO_i tyIs_tuple ?_) | (with_reducible refine gO_i tyIs_list ?_) | (with_reducible refine gDs_i ?_) | (with_reducible refine gO_i (Eq.refl _) ?_) | (with_reducible refine iteTT ?gha ?_; (case gha => rfl)) | (with_reducible refine iteFF ?gha ?_; (case gha => rfl))); (with_reducible (conv => whnf))))
  refine gO_i A.k_NoTree_NoFlat ?_
  (with_reducible (conv => whnf)); (repeat ((first | (with_reducible refine gO_i tyIs_int ?_) | (with_reducible refine gO_i tyIs_bool ?_) | (with_reducible refine gO_i tyIs_str ?_) | (with_reducible refine gO_i tyIs_tuple ?_) | (with_reducible refine gO_i tyIs_list ?_) | (with_reducible refine gDs_i ?_) | (with_reducible refine gO_i (Eq.refl _) ?_) | (with_reducible refine iteTT ?gha ?_; (case gha => rfl)) | (with_reducible refine iteFF ?gha ?_; (case gha => rfl))); (with_reducible (conv => whnf))))
  exact ⟨M, fun b o h => by rw [mset_ne (fun z => by rw [z, ha] at h; cases h)]; exact h, h2⟩
structure Calls (P : Program) (w : World) (K : PySem.W.Frag) (mg : Str → Option Value) (base : Heap) (A : Cls K mg) where
  j : Nat
  hj : j ≤ 60
  flat_of : UseX P w K mg base "flat_of" ["tree"] j (spD K 1 (tfFlatOf A.c_NoTree))
  tree_of_flat : UseX P w K mg base "tree_of_flat" ["flat"] j (spD K 1 (tfOfFlat A.c_NoFlat))
  state : Use P w K mg base "_law_state" ["_law_script"] j (spState K)
  next : Use P w K mg base "_law_next" ["_law_state_here", "_law_below"] j (spD K 2 (tfNext true))
  tree : Use P w K mg base "_law_tree" ["_law_state_here", "_law_most"] j (spD K 2 (tfTreeL true))
  flat : Use P w K mg base "_law_flat" ["_law_tree_here", "_law_level"] j (spD K 2 (tfLFlat 12))
  bent : Use P w K mg base "_law_bent" ["_law_state_here", "_law_flat_here"] j (spD K 2 tfBent)
  alike : Use P w K mg base "_law_alike" ["_law_found", "_law_due"] j (spD K 2 (tfAlike 50))
  right : UseG P w K mg base "_law_right" ["_law_thing"] j (spD K 1 (tfRight 50))
  noTree : Use P w K mg base "_law_no_tree" ["_law_state_here"] j (spD K 1 tfNoTree)
abbrev sLaw : Stmt := top 39
theorem scLaw : FnScope ["_law_script", "_law_state_here", "_law_turn", "_law_chain", "_law_wide", "_law_some", "_law_tree_here", "_law_flat_here", "_law_k", "_law_level", "_law_row"] ["_law_script"] (defScope sLaw) := ⟨rfl, rfl, rfl, by decide +kernel, rfl, by decide +kernel, by decide +kernel⟩
theorem ok_law {f : Addr} {fd : FuncData} {s : Shared} {H : Hp} {a : Addr} {ns : List Int} (F : Fun K "law" "law" sLaw f fd) (T : Bl mg) {A : Cls K mg} (U : Calls P w K mg base A) (hS : SqL K H a (ns.map V.int)) (e0 : Env0 P w K mg base callerA [] s H) :
    codeAny (model P w) callerA (.call (.ref f) ⟨[.ref a], []⟩) (CR CX0 [] P w H s (fun v _ => v = V.bl true) fun _ _ _ => False) s := by
  obtain ⟨j, hj, Uflat_of, Utree_of_flat, U_law_state, U_law_next, U_law_tree, U_law_flat, U_law_bent, U_law_alike, U_law_right, U_law_no_tree⟩ := U
  refine law_at (k := 60) F scLaw hS e0 ⟨rfl, by decide, by decide⟩ (F.binds (ps := ["_law_script"]) fun _ _ _ _ _ _ us hl => match us, hl with | [_], _ => rfl) fun cdv hgu hr => ?_
  refine ⟨_, _, _, (pss_cons (ps_set (i := 1) scLaw.nd rfl (.inl rfl) (pe_call U_law_state.ok (hr.mono (by omega)) rfl U_law_state.m U_law_state.kp U_law_state.b .nil pass0 (pa_cons (pv 0) pa_nil)))
    (pss_cons (ps_for PassesOwn.never rfl (pi_range1 (by rfl) T.range (pa_cons pe_int pa_nil)) (pg_name (i := 2) scLaw.nd rfl (.inl rfl)) (pss_cons (ps_set (i := 6) scLaw.nd rfl (.inl rfl) (pe_call U_law_tree.ok (hr.mono (by omega)) rfl U_law_tree.m U_law_tree.kp U_law_tree.b .nil pass0 (pa_cons (pv 1) (pa_cons pe_int pa_nil))))
      (pss_cons (ps_set (i := 7) scLaw.nd rfl (.inl rfl) (pe_callTy call_tuple_of (by rfl) T.tuple PyProof.Rows.boot_tuple (pa_cons (pe_call U_law_flat.ok (hr.mono (by omega)) rfl U_law_flat.m U_law_flat.kp U_law_flat.b .nil pass0 (pa_cons (pv 6) (pa_cons pe_int pa_nil))) pa_nil)))
      (pss_cons (ps_if (PW.pt (pw_or (pt_not (pt_val (pe_call U_law_alike.ok (hr.mono (by omega)) rfl U_law_alike.m U_law_alike.kp U_law_alike.b .nil pass0 (pa_cons (pe_callS Uflat_of.ok (hr.mono (by omega)) rfl Uflat_of.m Uflat_of.kp Uflat_of.b (fun σ => passAt takes0 σ) (pa_cons (pv 6) pa_nil)) (pa_cons (pv 7) pa_nil))))) (pw_or1 (pt_not (pt_val (pe_call U_law_alike.ok (hr.mono (by omega)) rfl U_law_alike.m U_law_alike.kp U_law_alike.b .nil pass0 (pa_cons (pe_callS Utree_of_flat.ok (hr.mono (by omega)) rfl Utree_of_flat.m Utree_of_flat.kp Utree_of_flat.b (fun σ => passAt takes0 σ) (pa_cons (pv 7) pa_nil)) (pa_cons (pv 6) pa_nil)))))))) (pss_one (ps_ret pe_bl)) pss_nil)
      (pss_cons (ps_if (pt_not (pt_val (pe_callG (E := fun _ _ _ => False) U_law_right.ok (hr.mono (by omega)) hgu rfl U_law_right.m U_law_right.kp U_law_right.b (pa_cons (pv 7) pa_nil)))) (pss_one (ps_ret pe_bl)) pss_nil)
      (pss_one (ps_for PassesOwn.never rfl (pi_range1 (by rfl) T.range (pa_cons pe_int pa_nil)) (pg_name (i := 8) scLaw.nd rfl (.inl rfl)) (pss_one (ps_if (pt_not (pt_val (pe_callG (E := fun _ _ _ => False) U_law_right.ok (hr.mono (by omega)) hgu rfl U_law_right.m U_law_right.kp U_law_right.b (pa_cons (pe_call U_law_bent.ok (hr.mono (by omega)) rfl U_law_bent.m U_law_bent.kp U_law_bent.b .nil pass0 (pa_cons (pv 1) (pa_cons (pv 7) pa_nil))) pa_nil)))) (pss_one (ps_ret pe_bl)) pss_nil)))))))))
    (pss_cons (ps_set (i := 3) scLaw.nd rfl (.inl rfl) (pe_callTy call_tuple_of (by rfl) T.tuple PyProof.Rows.boot_tuple (pa_cons (pe_lc (own := [("_law_level", 9)]) (g := gName 9) (tt := tYes) (by rfl) scLaw.nd (pi_range1 (by rfl) T.range (pa_cons pe_int pa_nil)) (blkOk_by (N := ["_law_script", "_law_state_here", "_law_turn", "_law_chain", "_law_wide", "_law_some", "_law_tree_here", "_law_flat_here", "_law_k", "_law_level", "_law_row"]) (sc := defScope sLaw) (own := [("_law_level", 9)]) (by decide +kernel)) (fun _ _ _ _ _ => pg_name (i := 9) scLaw.nd rfl (Or.inl rfl)) (fun _ _ _ _ _ => pts_nil) (fun _ _ _ _ _ => (pe_tup (pa_cons (pv 9) (pa_cons pe_str pa_nil))))) pa_nil)))
    (pss_cons (ps_set (i := 4) scLaw.nd rfl (.inl rfl) (pe_op op_catA (pe_tup (pa_cons (pe_tup (pa_cons pe_int (pa_cons pe_str pa_nil))) pa_nil)) (pe_op op_repA (pe_tup (pa_cons (pe_tup (pa_cons pe_int (pa_cons pe_str pa_nil))) pa_nil)) pe_int)))
    (pss_cons (ps_set (i := 5) scLaw.nd rfl (.inl rfl) (pe_lst (pa_cons (pv 3) (pa_cons (pe_slice sl_tupA (pv 3) po_none (po_some pe_int)) (pa_cons (pv 4) (pa_cons (pe_slice sl_tupA (pv 4) po_none (po_some pe_int)) pa_nil))))))
    (pss_one (ps_ret (pe_and (pe_call U_law_no_tree.ok (hr.mono (by omega)) rfl U_law_no_tree.m U_law_no_tree.kp U_law_no_tree.b .nil pass0 (pa_cons (pv 1) pa_nil)) (pe_one (pe_cmpR op_notIn_seq pe_bl (pe_lc (own := [("_law_row", 10)]) (g := gName 10) (tt := tYes) (by rfl) scLaw.nd (pi_list (pv 5)) (blkOk_by (N := ["_law_script", "_law_state_here", "_law_turn", "_law_chain", "_law_wide", "_law_some", "_law_tree_here", "_law_flat_here", "_law_k", "_law_level", "_law_row"]) (sc := defScope sLaw) (own := [("_law_row", 10)]) (by decide +kernel)) (fun _ _ _ _ _ => pg_name (i := 10) scLaw.nd rfl (Or.inl rfl)) (fun _ _ _ _ _ => pts_nil) (fun _ _ _ _ _ => (pe_callG (E := fun _ _ _ => False) U_law_right.ok (hr.mono (by omega)) hgu rfl U_law_right.m U_law_right.kp U_law_right.b (pa_cons (pv 10) pa_nil)))) (by rfl))))))))))),
    (ss_cons (ss_for (si_r1 (sa_cons se_int sa_nil)) sg_name (ss_cons (ss_set (se_call (sa_cons se_nm (sa_cons se_int sa_nil))))
      (ss_cons (ss_set (se_cb sc_tuple (sa_cons (se_call (sa_cons se_nm (sa_cons se_int sa_nil))) sa_nil)))
      (ss_cons (ss_if (st_or (st_not (st_val (se_call (sa_cons (se_callX (sa_cons se_nm sa_nil)) (sa_cons se_nm sa_nil))))) (st_not (st_val (se_call (sa_cons (se_callX (sa_cons se_nm sa_nil)) (sa_cons se_nm sa_nil)))))) (ss_ret se_bl) ss_nil)
      (ss_cons (ss_if (st_not (st_val (se_call (sa_cons se_nm sa_nil)))) (ss_ret se_bl) ss_nil)
      (ss_for (si_r1 (sa_cons se_int sa_nil)) sg_name (ss_if (st_not (st_val (se_call (sa_cons (se_call (sa_cons se_nm (sa_cons se_nm sa_nil))) sa_nil)))) (ss_ret se_bl) ss_nil)))))))
    (ss_cons (ss_set (se_cb sc_tuple (sa_cons (se_lcF (si_r1 (sa_cons se_int sa_nil)) sg_name st_yes (se_tup (sa_cons se_nm (sa_cons se_str sa_nil)))) sa_nil)))
    (ss_cons (ss_set (se_op so_catT (se_tup (sa_cons (se_tup (sa_cons se_int (sa_cons se_str sa_nil))) sa_nil)) (se_op so_repT (se_tup (sa_cons (se_tup (sa_cons se_int (sa_cons se_str sa_nil))) sa_nil)) se_int)))
    (ss_cons (ss_set (se_lsf (sa_cons se_nm (sa_cons (se_sl sl_T se_nm sp_no (sp_some se_int)) (sa_cons se_nm (sa_cons (se_sl sl_T se_nm sp_no (sp_some se_int)) sa_nil))))))
    (ss_ret (se_and (se_call (sa_cons se_nm sa_nil)) (se_op so_ninQ se_bl (se_lcF (si_lst se_nm) sg_name st_yes (se_call (sa_cons se_nm sa_nil)))))))))), fun st M hM => ?_⟩
  simp only [start0, len_c, len_n, map_c, map_n, app_c, app_n, rep_0, rep_s, Nat.reduceAdd, Nat.reduceSub]
  (with_reducible (conv => whnf)); (repeat ((first | (with_reducible refine gO_i tyIs_int ?_) | (with_reducible refine gO_i tyIs_bool ?_) | (with_reducible refine gO_i tyIs_str ?_) | (with_reducible refine gO_i tyIs_tuple ?_) | (with_reducible refine gO_i tyIs_list ?_) | (with_reducible refine gDs_i ?_) | (with_reducible refine gO_i (Eq.refl _) ?_) | (with_reducible refine iteTT ?gha ?_; (case gha => rfl)) | (with_reducible refine iteFF ?gha ?_; (case gha => rfl))); (with_reducible (conv => whnf))))
  refine ⟨sm_of (by decide) (by decide), ?_⟩
  (with_reducible (conv => whnf)); (repeat ((first | (with_reducible refine gO_i tyIs_int ?_) | (with_reducible refine gO_i tyIs_bool ?_) | (with_reducible refine gO_i tyIs_str ?_) | (with_reducible refine gO_i tyIs_tuple ?_) | (with_reducible refine gO_i tyIs_list ?_) | (with_reducible refine gDs_i ?_) | (with_reducible refine gO_i (Eq.refl _) ?_) | (with_reducible refine iteTT ?gha ?_; (case gha => rfl)) | (with_reducible refine iteFF ?gha ?_; (case gha => rfl))); (with_reducible (conv => whnf))))
  refine forR (n := 6) (fun i ρ M' => M = M' ∧ ∃ y2 y6 y7 y8, ρ = [some (.o (.ref a)), some (.r st), y2, none, none, none, y6, y7, y8, none, none]) ⟨rfl, none, none, none, none, rfl⟩ (fun _ _ _ _ _ => trivial) (fun i ρ M' N hi p hN => ?_) (fun ρ M' p => ?_)
  · obtain ⟨rfl, y2, y6, y7, y8, rfl⟩ := p
    (with_reducible (conv => whnf)); (repeat ((first | (with_reducible refine gO_i tyIs_int ?_) | (with_reducible refine gO_i tyIs_bool ?_) | (with_reducible refine gO_i tyIs_str ?_) | (with_reducible refine gO_i tyIs_tuple ?_) | (with_reducible refine gO_i tyIs_list ?_) | (with_reducible refine gDs_i ?_) | (with_reducible refine gO_i (Eq.refl _) ?_) | (with_reducible refine iteTT ?gha ?_; (case gha => rfl)) | (with_reducible refine iteFF ?gha ?_; (case gha => rfl))); (with_reducible (conv => whnf))))
    refine ⟨⟨hM, by decide, by decide⟩, fun d hd hw hn => ?_⟩
    have ht : TrT 12 d := hd.t.mono (by decide)
    have hn' : nn d ≤ 20 := by omega
    have isT : isTreeD d = true := tree_iff.mpr ⟨ht, by omega⟩
    have hx : txt d = true := gd_txt d ht.gd.1
    have hrow := row_ok ht (by omega)
    have hg : GdE (.tuple ((rowP d 0).map prD)) := .inl ((hrow.g.tup (m' := 200003) (by decide)).mono (by decide) (by decide))
    have hgd : Gk 1000000 40 (.tuple ((rowP d 0).map prD)) := (hrow.g.tup (m' := 200003) (by decide)).mono (by decide) (by decide)
    (with_reducible (conv => whnf)); (repeat ((first | (with_reducible refine gO_i tyIs_int ?_) | (with_reducible refine gO_i tyIs_bool ?_) | (with_reducible refine gO_i tyIs_str ?_) | (with_reducible refine gO_i tyIs_tuple ?_) | (with_reducible refine gO_i tyIs_list ?_) | (with_reducible refine gDs_i ?_) | (with_reducible refine gO_i (Eq.refl _) ?_) | (with_reducible refine iteTT ?gha ?_; (case gha => rfl)) | (with_reducible refine iteFF ?gha ?_; (case gha => rfl))); (with_reducible (conv => whnf))))
    refine ⟨⟨ht, by omega⟩, ?_⟩
    (with_reducible (conv => whnf)); (repeat ((first | (with_reducible refine gO_i tyIs_int ?_) | (with_reducible refine gO_i tyIs_bool ?_) | (with_reducible refine gO_i tyIs_str ?_) | (with_reducible refine gO_i tyIs_tuple ?_) | (with_reducible refine gO_i tyIs_list ?_) | (with_reducible refine gDs_i ?_) | (with_reducible refine gO_i (Eq.refl _) ?_) | (with_reducible refine iteTT ?gha ?_; (case gha => rfl)) | (with_reducible refine iteFF ?gha ?_; (case gha => rfl))); (with_reducible (conv => whnf))))
    refine ⟨hx, fun _ => ?_, fun c => absurd isT (by rw [c]; exact Bool.false_ne_true)⟩
    (with_reducible (conv => whnf)); (repeat ((first | (with_reducible refine gO_i tyIs_int ?_) | (with_reducible refine gO_i tyIs_bool ?_) | (with_reducible refine gO_i tyIs_str ?_) | (with_reducible refine gO_i tyIs_tuple ?_) | (with_reducible refine gO_i tyIs_list ?_) | (with_reducible refine gDs_i ?_) | (with_reducible refine gO_i (Eq.refl _) ?_) | (with_reducible refine iteTT ?gha ?_; (case gha => rfl)) | (with_reducible refine iteFF ?gha ?_; (case gha => rfl))); (with_reducible (conv => whnf))))
    refine ⟨rfl, ⟨hg.dep, gd_nd _ hgd.1, hg.txt⟩, ?_⟩
    (with_reducible (conv => whnf)); (repeat ((first | (with_reducible refine gO_i tyIs_int ?_) | (with_reducible refine gO_i tyIs_bool ?_) | (with_reducible refine gO_i tyIs_str ?_) | (with_reducible refine gO_i tyIs_tuple ?_) | (with_reducible refine gO_i tyIs_list ?_) | (with_reducible refine gDs_i ?_) | (with_reducible refine gO_i (Eq.refl _) ?_) | (with_reducible refine iteTT ?gha ?_; (case gha => rfl)) | (with_reducible refine iteFF ?gha ?_; (case gha => rfl))); (with_reducible (conv => whnf))))
    refine ⟨hg.txt, .inl ⟨d, ht, by omega, rfl, ?_⟩⟩
    (with_reducible (conv => whnf)); (repeat ((first | (with_reducible refine gO_i tyIs_int ?_) | (with_reducible refine gO_i tyIs_bool ?_) | (with_reducible refine gO_i tyIs_str ?_) | (with_reducible refine gO_i tyIs_tuple ?_) | (with_reducible refine gO_i tyIs_list ?_) | (with_reducible refine gDs_i ?_) | (with_reducible refine gO_i (Eq.refl _) ?_) | (with_reducible refine iteTT ?gha ?_; (case gha => rfl)) | (with_reducible refine iteFF ?gha ?_; (case gha => rfl))); (with_reducible (conv => whnf))))
    refine ⟨rfl, ⟨?_, gd_nd _ ht.gd.1, hx⟩, ?_⟩
    · have := ht.gd.2.1
      omega
    (with_reducible (conv => whnf)); (repeat ((first | (with_reducible refine gO_i tyIs_int ?_) | (with_reducible refine gO_i tyIs_bool ?_) | (with_reducible refine gO_i tyIs_str ?_) | (with_reducible refine gO_i tyIs_tuple ?_) | (with_reducible refine gO_i tyIs_list ?_) | (with_reducible refine gDs_i ?_) | (with_reducible refine gO_i (Eq.refl _) ?_) | (with_reducible refine iteTT ?gha ?_; (case gha => rfl)) | (with_reducible refine iteFF ?gha ?_; (case gha => rfl))); (with_reducible (conv => whnf))))
    refine ⟨⟨hg, hg.dep⟩, ?_⟩
    (with_reducible (conv => whnf)); (repeat ((first | (with_reducible refine gO_i tyIs_int ?_) | (with_reducible refine gO_i tyIs_bool ?_) | (with_reducible refine gO_i tyIs_str ?_) | (with_reducible refine gO_i tyIs_tuple ?_) | (with_reducible refine gO_i tyIs_list ?_) | (with_reducible refine gDs_i ?_) | (with_reducible refine gO_i (Eq.refl _) ?_) | (with_reducible refine iteTT ?gha ?_; (case gha => rfl)) | (with_reducible refine iteFF ?gha ?_; (case gha => rfl))); (with_reducible (conv => whnf))))
    refine ⟨sm_of (by decide) (by decide), ?_⟩
    (with_reducible (conv => whnf)); (repeat ((first | (with_reducible refine gO_i tyIs_int ?_) | (with_reducible refine gO_i tyIs_bool ?_) | (with_reducible refine gO_i tyIs_str ?_) | (with_reducible refine gO_i tyIs_tuple ?_) | (with_reducible refine gO_i tyIs_list ?_) | (with_reducible refine gDs_i ?_) | (with_reducible refine gO_i (Eq.refl _) ?_) | (with_reducible refine iteTT ?gha ?_; (case gha => rfl)) | (with_reducible refine iteFF ?gha ?_; (case gha => rfl))); (with_reducible (conv => whnf))))
    refine forR (n := 4) (fun i2 ρ M' => M = M' ∧ ∃ z8, ρ = [some (.o (.ref a)), some (.r st), some (.d (.int (0 + (i : Nat)))), none, none, none, some (.d d), some (.d (.tuple ((rowP d 0).map prD))), z8, none, none]) ⟨rfl, y8, rfl⟩ (fun _ _ _ _ _ => trivial) (fun i2 ρ M' N2 hi2 p hN2 => ?_) (fun ρ M' p => ?_)
    · obtain ⟨rfl, z8, rfl⟩ := p
      (with_reducible (conv => whnf)); (repeat ((first | (with_reducible refine gO_i tyIs_int ?_) | (with_reducible refine gO_i tyIs_bool ?_) | (with_reducible refine gO_i tyIs_str ?_) | (with_reducible refine gO_i tyIs_tuple ?_) | (with_reducible refine gO_i tyIs_list ?_) | (with_reducible refine gDs_i ?_) | (with_reducible refine gO_i (Eq.refl _) ?_) | (with_reducible refine iteTT ?gha ?_; (case gha => rfl)) | (with_reducible refine iteFF ?gha ?_; (case gha => rfl))); (with_reducible (conv => whnf))))
      refine ⟨⟨hM, hrow⟩, fun b hb => ?_⟩
      (with_reducible (conv => whnf)); (repeat ((first | (with_reducible refine gO_i tyIs_int ?_) | (with_reducible refine gO_i tyIs_bool ?_) | (with_reducible refine gO_i tyIs_str ?_) | (with_reducible refine gO_i tyIs_tuple ?_) | (with_reducible refine gO_i tyIs_list ?_) | (with_reducible refine gDs_i ?_) | (with_reducible refine gO_i (Eq.refl _) ?_) | (with_reducible refine iteTT ?gha ?_; (case gha => rfl)) | (with_reducible refine iteFF ?gha ?_; (case gha => rfl))); (with_reducible (conv => whnf))))
      refine ⟨⟨hb, hb.dep⟩, ?_⟩
      (with_reducible (conv => whnf)); (repeat ((first | (with_reducible refine gO_i tyIs_int ?_) | (with_reducible refine gO_i tyIs_bool ?_) | (with_reducible refine gO_i tyIs_str ?_) | (with_reducible refine gO_i tyIs_tuple ?_) | (with_reducible refine gO_i tyIs_list ?_) | (with_reducible refine gDs_i ?_) | (with_reducible refine gO_i (Eq.refl _) ?_) | (with_reducible refine iteTT ?gha ?_; (case gha => rfl)) | (with_reducible refine iteFF ?gha ?_; (case gha => rfl))); (with_reducible (conv => whnf))))
      exact hN2 _ _ ⟨rfl, _, rfl⟩
    · obtain ⟨rfl, z8, rfl⟩ := p
      exact hN _ _ ⟨rfl, _, _, _, _, rfl⟩
  · obtain ⟨rfl, y2, y6, y7, y8, rfl⟩ := p
    (with_reducible (conv => whnf)); (repeat ((first | (with_reducible refine gO_i tyIs_int ?_) | (with_reducible refine gO_i tyIs_bool ?_) | (with_reducible refine gO_i tyIs_str ?_) | (with_reducible refine gO_i tyIs_tuple ?_) | (with_reducible refine gO_i tyIs_list ?_) | (with_reducible refine gDs_i ?_) | (with_reducible refine gO_i (Eq.refl _) ?_) | (with_reducible refine iteTT ?gha ?_; (case gha => rfl)) | (with_reducible refine iteFF ?gha ?_; (case gha => rfl))); (with_reducible (conv => whnf))))
    refine ⟨sm_of (by decide) (by decide), ?_⟩
    (with_reducible (conv => whnf)); (repeat ((first | (with_reducible refine gO_i tyIs_int ?_) | (with_reducible refine gO_i tyIs_bool ?_) | (with_reducible refine gO_i tyIs_str ?_) | (with_reducible refine gO_i tyIs_tuple ?_) | (with_reducible refine gO_i tyIs_list ?_) | (with_reducible refine gDs_i ?_) | (with_reducible refine gO_i (Eq.refl _) ?_) | (with_reducible refine iteTT ?gha ?_; (case gha => rfl)) | (with_reducible refine iteFF ?gha ?_; (case gha => rfl))); (with_reducible (conv => whnf))))
    unfold rng
    refine lc1 (fun i => .d (.tuple [.int (0 + (i : Nat)), .str "ab"])) trivial (fun i _ Rk q => ?_) (sz1000 (by decide)) ?_
    · (with_reducible (conv => whnf)); (repeat ((first | (with_reducible refine gO_i tyIs_int ?_) | (with_reducible refine gO_i tyIs_bool ?_) | (with_reducible refine gO_i tyIs_str ?_) | (with_reducible refine gO_i tyIs_tuple ?_) | (with_reducible refine gO_i tyIs_list ?_) | (with_reducible refine gDs_i ?_) | (with_reducible refine gO_i (Eq.refl _) ?_) | (with_reducible refine iteTT ?gha ?_; (case gha => rfl)) | (with_reducible refine iteFF ?gha ?_; (case gha => rfl))); (with_reducible (conv => whnf))))
      exact q
    · obtain ⟨g1, g2, g3, g4⟩ := gd_chain
      rw [show ((List.range (Int.toNat 13)).map fun (i : Nat) => W.d (.tuple [.int (0 + (i : Nat)), .str "ab"])) = chain13.map W.d by unfold chain13; rw [List.map_map]; rfl]
      generalize chain13 = ch at g1 g2 ⊢
      refine gDs_i ?_
      dsimp only
      refine tuple_of_list ?_
      (with_reducible (conv => whnf)); (repeat ((first | (with_reducible refine gO_i tyIs_int ?_) | (with_reducible refine gO_i tyIs_bool ?_) | (with_reducible refine gO_i tyIs_str ?_) | (with_reducible refine gO_i tyIs_tuple ?_) | (with_reducible refine gO_i tyIs_list ?_) | (with_reducible refine gDs_i ?_) | (with_reducible refine gO_i (Eq.refl _) ?_) | (with_reducible refine iteTT ?gha ?_; (case gha => rfl)) | (with_reducible refine iteFF ?gha ?_; (case gha => rfl))); (with_reducible (conv => whnf))))
      refine ⟨⟨by decide, by decide, by decide⟩, ?_⟩
      (with_reducible (conv => whnf)); (repeat ((first | (with_reducible refine gO_i tyIs_int ?_) | (with_reducible refine gO_i tyIs_bool ?_) | (with_reducible refine gO_i tyIs_str ?_) | (with_reducible refine gO_i tyIs_tuple ?_) | (with_reducible refine gO_i tyIs_list ?_) | (with_reducible refine gDs_i ?_) | (with_reducible refine gO_i (Eq.refl _) ?_) | (with_reducible refine iteTT ?gha ?_; (case gha => rfl)) | (with_reducible refine iteFF ?gha ?_; (case gha => rfl))); (with_reducible (conv => whnf))))
      refine ⟨len61, ?_⟩
      rw [wide_is]
      generalize wide61 = wd at g3 g4 ⊢
      (with_reducible (conv => whnf)); (repeat ((first | (with_reducible refine gO_i tyIs_int ?_) | (with_reducible refine gO_i tyIs_bool ?_) | (with_reducible refine gO_i tyIs_str ?_) | (with_reducible refine gO_i tyIs_tuple ?_) | (with_reducible refine gO_i tyIs_list ?_) | (with_reducible refine gDs_i ?_) | (with_reducible refine gO_i (Eq.refl _) ?_) | (with_reducible refine iteTT ?gha ?_; (case gha => rfl)) | (with_reducible refine iteFF ?gha ?_; (case gha => rfl))); (with_reducible (conv => whnf))))
      refine ⟨hM, ?_⟩
      (with_reducible (conv => whnf)); (repeat ((first | (with_reducible refine gO_i tyIs_int ?_) | (with_reducible refine gO_i tyIs_bool ?_) | (with_reducible refine gO_i tyIs_str ?_) | (with_reducible refine gO_i tyIs_tuple ?_) | (with_reducible refine gO_i tyIs_list ?_) | (with_reducible refine gDs_i ?_) | (with_reducible refine gO_i (Eq.refl _) ?_) | (with_reducible refine iteTT ?gha ?_; (case gha => rfl)) | (with_reducible refine iteFF ?gha ?_; (case gha => rfl))); (with_reducible (conv => whnf))))
      refine lc1 (xs := [PyData.tuple ch, .tuple (cut ch none (some 12)), .tuple wd, .tuple (cut wd none (some 60))]) (f := W.d) (fun _ => .d (.bool true)) trivial (fun d hd Rk q => ?_) (sz1000 (by show 4 ≤ 1000; decide)) ?_
      · have hg : GdE d := all1 g1 (all1 g2 (all1 g3 (all1 g4 all0))) d hd
        (with_reducible (conv => whnf)); (repeat ((first | (with_reducible refine gO_i tyIs_int ?_) | (with_reducible refine gO_i tyIs_bool ?_) | (with_reducible refine gO_i tyIs_str ?_) | (with_reducible refine gO_i tyIs_tuple ?_) | (with_reducible refine gO_i tyIs_list ?_) | (with_reducible refine gDs_i ?_) | (with_reducible refine gO_i (Eq.refl _) ?_) | (with_reducible refine iteTT ?gha ?_; (case gha => rfl)) | (with_reducible refine iteFF ?gha ?_; (case gha => rfl))); (with_reducible (conv => whnf))))
        exact ⟨⟨hg, hg.dep⟩, q⟩
      · (with_reducible (conv => whnf)); (repeat ((first | (with_reducible refine gO_i tyIs_int ?_) | (with_reducible refine gO_i tyIs_bool ?_) | (with_reducible refine gO_i tyIs_str ?_) | (with_reducible refine gO_i tyIs_tuple ?_) | (with_reducible refine gO_i tyIs_list ?_) | (with_reducible refine gDs_i ?_) | (with_reducible refine gO_i (Eq.refl _) ?_) | (with_reducible refine iteTT ?gha ?_; (case gha => rfl)) | (with_reducible refine iteFF ?gha ?_; (case gha => rfl))); (with_reducible (conv => whnf))))
        exact ⟨⟨rfl, rfl⟩, rfl⟩
end
end Tl

set_option Elab.async false
set_option linter.all false
set_option maxRecDepth 100000
set_option maxHeartbeats 16000000
namespace Tl
open PySem L2 RZ
section
variable {P : Program} {w : World} {K : PySem.W.Frag} {mg : Str → Option Value}
structure Defs (K : PySem.W.Frag) (mg : Str → Option Value) where
  d_is_count : At K mg "is_count" sIsCount
  d_is_number : At K mg "is_number" sIsNumber
  d_is_tag : At K mg "is_tag" sIsTag
  d_is_tag_and_kids : At K mg "is_tag_and_kids" sTagKids
  d_room_behind : At K mg "room_behind" sRoom
  d_is_tree : At K mg "is_tree" sIsTree
  d_check_tree : At K mg "check_tree" sChkTree
  d__law_next : At K mg "_law_next" sNext
  d__law_state : At K mg "_law_state" sState
  d__law_tree : At K mg "_law_tree" sTreeL
  d__law_alike : At K mg "_law_alike" sAlike
  d_row_of : At K mg "row_of" sRowOf
  d_behind_part : At K mg "behind_part" sBehind
  d_kids_in : At K mg "kids_in" sKidsIn
  d_part_in : At K mg "part_in" sPartIn
  d_is_level_and_tag : At K mg "is_level_and_tag" sLvTag
  d_is_flat : At K mg "is_flat" sIsFlat
  d_flat_of : At K mg "flat_of" sFlatOf
  d_tree_of_flat : At K mg "tree_of_flat" sOfFlat
  d__law_flat : At K mg "_law_flat" sLFlat
  d__law_is_flat : At K mg "_law_is_flat" sLIsFlat
  d__law_bent : At K mg "_law_bent" sBent
  d__law_told : At K mg "_law_told" sTold
  d__law_right : At K mg "_law_right" sRight
  d__law_no_tree : At K mg "_law_no_tree" sNoTree
  d_law : At K mg "law" sLaw
def calls (D : Defs K mg) (T : Bl mg) (A : Cls K mg) (C : Cs mg) (mz : mg "zip" = none) (mVE : mg "ValueError" = none) (base : Heap) : Calls P w K mg base A :=
  let uCount := use (P := P) (w := w) (base := base) D.d_is_count (D.d_is_count.F.binds (ps := ["thing"]) fun _ _ _ _ _ _ us hl => match us, hl with | [_], _ => rfl) (ok_count (k := 0) D.d_is_count.F T)
  let uNumber := use (P := P) (w := w) (base := base) D.d_is_number (D.d_is_number.F.binds (ps := ["thing", "most"]) fun _ _ _ _ _ _ us hl => match us, hl with | [_, _], _ => rfl) (ok_number (k := 1) D.d_is_number.F uCount (by decide) T)
  let uTag := use (P := P) (w := w) (base := base) D.d_is_tag (D.d_is_tag.F.binds (ps := ["thing"]) fun _ _ _ _ _ _ us hl => match us, hl with | [_], _ => rfl) (ok_tag (k := 0) D.d_is_tag.F T C)
  let uTagKids := use (P := P) (w := w) (base := base) D.d_is_tag_and_kids (D.d_is_tag_and_kids.F.binds (ps := ["thing"]) fun _ _ _ _ _ _ us hl => match us, hl with | [_], _ => rfl) (ok_tagKids (k := 1) D.d_is_tag_and_kids.F uTag (by decide) T)
  let uRoom := use (P := P) (w := w) (base := base) D.d_room_behind (D.d_room_behind.F.binds (ps := ["thing", "levels", "room"]) fun _ _ _ _ _ _ us hl => match us, hl with | [_, _, _], _ => rfl) (ok_room D.d_room_behind.F D.d_room_behind.m uTagKids (by decide) T 13)
  let uTree := use (P := P) (w := w) (base := base) D.d_is_tree (D.d_is_tree.F.binds (ps := ["thing"]) fun _ _ _ _ _ _ us hl => match us, hl with | [_], _ => rfl) (ok_tree (k := 15) D.d_is_tree.F uRoom (by decide) C)
  let uChkT := useX (P := P) (w := w) (base := base) D.d_check_tree (D.d_check_tree.F.binds (ps := ["thing"]) fun _ _ _ _ _ _ us hl => match us, hl with | [_], _ => rfl) (ok_chkTree (k := 16) D.d_check_tree.F A.e_NoTree uTree (by decide))
  let uRow := use (P := P) (w := w) (base := base) D.d_row_of (D.d_row_of.F.binds (ps := ["tree", "level"]) fun _ _ _ _ _ _ us hl => match us, hl with | [_, _], _ => rfl) (ok_rowOf D.d_row_of.F D.d_row_of.m T 12)
  let uBehind := use (P := P) (w := w) (base := base) D.d_behind_part (D.d_behind_part.F.binds (ps := ["row", "first"]) fun _ _ _ _ _ _ us hl => match us, hl with | [_, _], _ => rfl) (ok_behind (k := 0) D.d_behind_part.F T)
  let uKids := use (P := P) (w := w) (base := base) D.d_kids_in (D.d_kids_in.F.binds (ps := ["row", "first"]) fun _ _ _ _ _ _ us hl => match us, hl with | [_, _], _ => rfl) (ok_kidsIn (k := 1) D.d_kids_in.F uBehind (by decide) T)
  let uPart := use (P := P) (w := w) (base := base) D.d_part_in (D.d_part_in.F.binds (ps := ["row", "first"]) fun _ _ _ _ _ _ us hl => match us, hl with | [_, _], _ => rfl) (ok_partIn D.d_part_in.F D.d_part_in.m uKids T 12)
  let uLvTag := use (P := P) (w := w) (base := base) D.d_is_level_and_tag (D.d_is_level_and_tag.F.binds (ps := ["thing"]) fun _ _ _ _ _ _ us hl => match us, hl with | [_], _ => rfl) (ok_lvTag (k := 2) D.d_is_level_and_tag.F uNumber uTag (by decide) (by decide) T C)
  let uIsFlat := use (P := P) (w := w) (base := base) D.d_is_flat (D.d_is_flat.F.binds (ps := ["thing"]) fun _ _ _ _ _ _ us hl => match us, hl with | [_], _ => rfl) (ok_isFlat (k := 3) D.d_is_flat.F uLvTag (by decide) T C)
  let uFlatOf := useX (P := P) (w := w) (base := base) D.d_flat_of (D.d_flat_of.F.binds (ps := ["tree"]) fun _ _ _ _ _ _ us hl => match us, hl with | [_], _ => rfl) (ok_flatOf (k := 17) (n := 0) D.d_flat_of.F uChkT uRow (by decide) (by decide))
  let uOfFlat := useX (P := P) (w := w) (base := base) D.d_tree_of_flat (D.d_tree_of_flat.F.binds (ps := ["flat"]) fun _ _ _ _ _ _ us hl => match us, hl with | [_], _ => rfl) (ok_ofFlat (k := 17) (n := 0) D.d_tree_of_flat.F A.e_NoFlat uIsFlat uPart (by decide) (by decide))
  let uState := use (P := P) (w := w) (base := base) D.d__law_state (D.d__law_state.F.binds (ps := ["_law_script"]) fun _ _ _ _ _ _ us hl => match us, hl with | [_], _ => rfl) (ok_state (k := 0) D.d__law_state.F T)
  let uNext := use (P := P) (w := w) (base := base) D.d__law_next (D.d__law_next.F.binds (ps := ["_law_state_here", "_law_below"]) fun _ _ _ _ _ _ us hl => match us, hl with | [_, _], _ => rfl) (ok_next (k := 0) D.d__law_next.F T)
  let uAlike := use (P := P) (w := w) (base := base) D.d__law_alike (D.d__law_alike.F.binds (ps := ["_law_found", "_law_due"]) fun _ _ _ _ _ _ us hl => match us, hl with | [_, _], _ => rfl) (ok_alike D.d__law_alike.F D.d__law_alike.m T mz 50)
  let uTreeL := use (P := P) (w := w) (base := base) D.d__law_tree (D.d__law_tree.F.binds (ps := ["_law_state_here", "_law_most"]) fun _ _ _ _ _ _ us hl => match us, hl with | [_, _], _ => rfl) (ok_treeL (k := 1) D.d__law_tree.F uNext (by decide) T)
  let uFlatL := use (P := P) (w := w) (base := base) D.d__law_flat (D.d__law_flat.F.binds (ps := ["_law_tree_here", "_law_level"]) fun _ _ _ _ _ _ us hl => match us, hl with | [_, _], _ => rfl) (ok_lflat D.d__law_flat.F D.d__law_flat.m T 12)
  let uIsFlatL := use (P := P) (w := w) (base := base) D.d__law_is_flat (D.d__law_is_flat.F.binds (ps := ["_law_thing"]) fun _ _ _ _ _ _ us hl => match us, hl with | [_], _ => rfl) (ok_lisFlat (k := 0) D.d__law_is_flat.F T)
  let uBent := use (P := P) (w := w) (base := base) D.d__law_bent (D.d__law_bent.F.binds (ps := ["_law_state_here", "_law_flat_here"]) fun _ _ _ _ _ _ us hl => match us, hl with | [_, _], _ => rfl) (ok_bent (k := 1) D.d__law_bent.F uNext (by decide) T)
  let uTold := use (P := P) (w := w) (base := base) D.d__law_told (D.d__law_told.F.binds (ps := ["_law_thing"]) fun _ _ _ _ _ _ us hl => match us, hl with | [_], _ => rfl) (ok_told (k := 18) D.d__law_told.F A uOfFlat (by decide) T mVE)
  let uRight := useG (P := P) (w := w) (base := base) D.d__law_right (D.d__law_right.F.binds (ps := ["_law_thing"]) fun _ _ _ _ _ _ us hl => match us, hl with | [_], _ => rfl) (ok_right (k := 55) D.d__law_right.F A uIsFlatL uIsFlat uTold uAlike uFlatOf (by decide) (by decide) (by decide) (by decide) (by decide) T)
  let uNoTree := use (P := P) (w := w) (base := base) D.d__law_no_tree (D.d__law_no_tree.F.binds (ps := ["_law_state_here"]) fun _ _ _ _ _ _ us hl => match us, hl with | [_], _ => rfl) (ok_noTree (k := 20) D.d__law_no_tree.F A uNext uFlatOf (by decide) (by decide) T)
  ⟨60, by decide, uFlatOf.up (by decide), uOfFlat.up (by decide), uState.up (by decide), uNext.up (by decide), uTreeL.up (by decide), uFlatL.up (by decide), uBent.up (by decide), uAlike.up (by decide), uRight.up (by decide), uNoTree.up (by decide)⟩
end
theorem all_mk {P : Program} {w : World} {K : PySem.W.Frag} {h : Heap} {mg : Str → Option Value} {fa : Addr} (X : K.In h) (G : h.Ns mainGlobals mg) (hfa : mg "law" = some (.ref fa)) {t1 t2 t3 : Tok}
    {f1 : Addr} {od1 an1 : Option Addr} {sl1 : Array (Option Value)} {oc1 kV1 dc1 pm1 cd1 ct1 : Value}
    {f2 : Addr} {od2 an2 : Option Addr} {sl2 : Array (Option Value)} {oc2 kV2 dc2 pm2 cd2 ct2 : Value}
    {f3 : Addr} {od3 an3 : Option Addr} {sl3 : Array (Option Value)} {oc3 kV3 dc3 pm3 cd3 ct3 : Value}
    {f4 : Addr} {od4 an4 : Option Addr} {sl4 : Array (Option Value)} {oc4 kV4 dc4 pm4 cd4 ct4 : Value}
    {f5 : Addr} {od5 an5 : Option Addr} {sl5 : Array (Option Value)} {oc5 kV5 dc5 pm5 cd5 ct5 : Value}
    {f6 : Addr} {od6 an6 : Option Addr} {sl6 : Array (Option Value)} {oc6 kV6 dc6 pm6 cd6 ct6 : Value}
    {f7 : Addr} {od7 an7 : Option Addr} {sl7 : Array (Option Value)} {oc7 kV7 dc7 pm7 cd7 ct7 : Value}
    {f8 : Addr} {od8 an8 : Option Addr} {sl8 : Array (Option Value)} {oc8 kV8 dc8 pm8 cd8 ct8 : Value}
    {f9 : Addr} {od9 an9 : Option Addr} {sl9 : Array (Option Value)} {oc9 kV9 dc9 pm9 cd9 ct9 : Value}
    {f10 : Addr} {od10 an10 : Option Addr} {sl10 : Array (Option Value)} {oc10 kV10 dc10 pm10 cd10 ct10 : Value}
    {f11 : Addr} {od11 an11 : Option Addr} {sl11 : Array (Option Value)} {oc11 kV11 dc11 pm11 cd11 ct11 : Value}
    {f12 : Addr} {od12 an12 : Option Addr} {sl12 : Array (Option Value)} {oc12 kV12 dc12 pm12 cd12 ct12 : Value}
    {f13 : Addr} {od13 an13 : Option Addr} {sl13 : Array (Option Value)} {oc13 kV13 dc13 pm13 cd13 ct13 : Value}
    {f14 : Addr} {od14 an14 : Option Addr} {sl14 : Array (Option Value)} {oc14 kV14 dc14 pm14 cd14 ct14 : Value}
    {f15 : Addr} {od15 an15 : Option Addr} {sl15 : Array (Option Value)} {oc15 kV15 dc15 pm15 cd15 ct15 : Value}
    {f16 : Addr} {od16 an16 : Option Addr} {sl16 : Array (Option Value)} {oc16 kV16 dc16 pm16 cd16 ct16 : Value}
    {f17 : Addr} {od17 an17 : Option Addr} {sl17 : Array (Option Value)} {oc17 kV17 dc17 pm17 cd17 ct17 : Value}
    {f18 : Addr} {od18 an18 : Option Addr} {sl18 : Array (Option Value)} {oc18 kV18 dc18 pm18 cd18 ct18 : Value}
    {f19 : Addr} {od19 an19 : Option Addr} {sl19 : Array (Option Value)} {oc19 kV19 dc19 pm19 cd19 ct19 : Value}
    {f20 : Addr} {od20 an20 : Option Addr} {sl20 : Array (Option Value)} {oc20 kV20 dc20 pm20 cd20 ct20 : Value}
    {f21 : Addr} {od21 an21 : Option Addr} {sl21 : Array (Option Value)} {oc21 kV21 dc21 pm21 cd21 ct21 : Value}
    {f22 : Addr} {od22 an22 : Option Addr} {sl22 : Array (Option Value)} {oc22 kV22 dc22 pm22 cd22 ct22 : Value}
    {f23 : Addr} {od23 an23 : Option Addr} {sl23 : Array (Option Value)} {oc23 kV23 dc23 pm23 cd23 ct23 : Value}
    {f24 : Addr} {od24 an24 : Option Addr} {sl24 : Array (Option Value)} {oc24 kV24 dc24 pm24 cd24 ct24 : Value}
    {f25 : Addr} {od25 an25 : Option Addr} {sl25 : Array (Option Value)} {oc25 kV25 dc25 pm25 cd25 ct25 : Value}
    {f26 : Addr} {od26 an26 : Option Addr} {sl26 : Array (Option Value)} {oc26 kV26 dc26 pm26 cd26 ct26 : Value}
    {c_TreeError c_NoThing c_NoFit c_NoTree c_NoPath c_NoFlat : Addr}
    (a1 : PySem.W.nsIn K mainGlobals "is_count" = some (some (.ref f1)))
    (l1 : K.lookup f1 = some ⟨oc1, od1, .func (PySem.W.fnOf "is_count" "is_count" (defArgs sIsCount) (defBody sIsCount) (defScope sIsCount) .none kV1 dc1 pm1 an1 cd1 ct1), sl1⟩)
    (c1 : PySem.W.codeIn K cd1 "is_count" = true)
    (k1 : PySem.W.keepIn K (.ref f1) = true)
    (a2 : PySem.W.nsIn K mainGlobals "is_number" = some (some (.ref f2)))
    (l2 : K.lookup f2 = some ⟨oc2, od2, .func (PySem.W.fnOf "is_number" "is_number" (defArgs sIsNumber) (defBody sIsNumber) (defScope sIsNumber) .none kV2 dc2 pm2 an2 cd2 ct2), sl2⟩)
    (c2 : PySem.W.codeIn K cd2 "is_number" = true)
    (k2 : PySem.W.keepIn K (.ref f2) = true)
    (a3 : PySem.W.nsIn K mainGlobals "is_tag" = some (some (.ref f3)))
    (l3 : K.lookup f3 = some ⟨oc3, od3, .func (PySem.W.fnOf "is_tag" "is_tag" (defArgs sIsTag) (defBody sIsTag) (defScope sIsTag) .none kV3 dc3 pm3 an3 cd3 ct3), sl3⟩)
    (c3 : PySem.W.codeIn K cd3 "is_tag" = true)
    (k3 : PySem.W.keepIn K (.ref f3) = true)
    (a4 : PySem.W.nsIn K mainGlobals "is_tag_and_kids" = some (some (.ref f4)))
    (l4 : K.lookup f4 = some ⟨oc4, od4, .func (PySem.W.fnOf "is_tag_and_kids" "is_tag_and_kids" (defArgs sTagKids) (defBody sTagKids) (defScope sTagKids) .none kV4 dc4 pm4 an4 cd4 ct4), sl4⟩)
    (c4 : PySem.W.codeIn K cd4 "is_tag_and_kids" = true)
    (k4 : PySem.W.keepIn K (.ref f4) = true)
    (a5 : PySem.W.nsIn K mainGlobals "room_behind" = some (some (.ref f5)))
    (l5 : K.lookup f5 = some ⟨oc5, od5, .func (PySem.W.fnOf "room_behind" "room_behind" (defArgs sRoom) (defBody sRoom) (defScope sRoom) .none kV5 dc5 pm5 an5 cd5 ct5), sl5⟩)
    (c5 : PySem.W.codeIn K cd5 "room_behind" = true)
    (k5 : PySem.W.keepIn K (.ref f5) = true)
    (a6 : PySem.W.nsIn K mainGlobals "is_tree" = some (some (.ref f6)))
    (l6 : K.lookup f6 = some ⟨oc6, od6, .func (PySem.W.fnOf "is_tree" "is_tree" (defArgs sIsTree) (defBody sIsTree) (defScope sIsTree) .none kV6 dc6 pm6 an6 cd6 ct6), sl6⟩)
    (c6 : PySem.W.codeIn K cd6 "is_tree" = true)
    (k6 : PySem.W.keepIn K (.ref f6) = true)
    (a7 : PySem.W.nsIn K mainGlobals "check_tree" = some (some (.ref f7)))
    (l7 : K.lookup f7 = some ⟨oc7, od7, .func (PySem.W.fnOf "check_tree" "check_tree" (defArgs sChkTree) (defBody sChkTree) (defScope sChkTree) .none kV7 dc7 pm7 an7 cd7 ct7), sl7⟩)
    (c7 : PySem.W.codeIn K cd7 "check_tree" = true)
    (k7 : PySem.W.keepIn K (.ref f7) = true)
    (a8 : PySem.W.nsIn K mainGlobals "_law_next" = some (some (.ref f8)))
    (l8 : K.lookup f8 = some ⟨oc8, od8, .func (PySem.W.fnOf "_law_next" "_law_next" (defArgs sNext) (defBody sNext) (defScope sNext) .none kV8 dc8 pm8 an8 cd8 ct8), sl8⟩)
    (c8 : PySem.W.codeIn K cd8 "_law_next" = true)
    (k8 : PySem.W.keepIn K (.ref f8) = true)
    (a9 : PySem.W.nsIn K mainGlobals "_law_state" = some (some (.ref f9)))
    (l9 : K.lookup f9 = some ⟨oc9, od9, .func (PySem.W.fnOf "_law_state" "_law_state" (defArgs sState) (defBody sState) (defScope sState) .none kV9 dc9 pm9 an9 cd9 ct9), sl9⟩)
    (c9 : PySem.W.codeIn K cd9 "_law_state" = true)
    (k9 : PySem.W.keepIn K (.ref f9) = true)
    (a10 : PySem.W.nsIn K mainGlobals "_law_tree" = some (some (.ref f10)))
    (l10 : K.lookup f10 = some ⟨oc10, od10, .func (PySem.W.fnOf "_law_tree" "_law_tree" (defArgs sTreeL) (defBody sTreeL) (defScope sTreeL) .none kV10 dc10 pm10 an10 cd10 ct10), sl10⟩)
    (c10 : PySem.W.codeIn K cd10 "_law_tree" = true)
    (k10 : PySem.W.keepIn K (.ref f10) = true)
    (a11 : PySem.W.nsIn K mainGlobals "_law_alike" = some (some (.ref f11)))
    (l11 : K.lookup f11 = some ⟨oc11, od11, .func (PySem.W.fnOf "_law_alike" "_law_alike" (defArgs sAlike) (defBody sAlike) (defScope sAlike) .none kV11 dc11 pm11 an11 cd11 ct11), sl11⟩)
    (c11 : PySem.W.codeIn K cd11 "_law_alike" = true)
    (k11 : PySem.W.keepIn K (.ref f11) = true)
    (a12 : PySem.W.nsIn K mainGlobals "row_of" = some (some (.ref f12)))
    (l12 : K.lookup f12 = some ⟨oc12, od12, .func (PySem.W.fnOf "row_of" "row_of" (defArgs sRowOf) (defBody sRowOf) (defScope sRowOf) .none kV12 dc12 pm12 an12 cd12 ct12), sl12⟩)
    (c12 : PySem.W.codeIn K cd12 "row_of" = true)
    (k12 : PySem.W.keepIn K (.ref f12) = true)
    (a13 : PySem.W.nsIn K mainGlobals "behind_part" = some (some (.ref f13)))
    (l13 : K.lookup f13 = some ⟨oc13, od13, .func (PySem.W.fnOf "behind_part" "behind_part" (defArgs sBehind) (defBody sBehind) (defScope sBehind) .none kV13 dc13 pm13 an13 cd13 ct13), sl13⟩)
    (c13 : PySem.W.codeIn K cd13 "behind_part" = true)
    (k13 : PySem.W.keepIn K (.ref f13) = true)
    (a14 : PySem.W.nsIn K mainGlobals "kids_in" = some (some (.ref f14)))
    (l14 : K.lookup f14 = some ⟨oc14, od14, .func (PySem.W.fnOf "kids_in" "kids_in" (defArgs sKidsIn) (defBody sKidsIn) (defScope sKidsIn) .none kV14 dc14 pm14 an14 cd14 ct14), sl14⟩)
    (c14 : PySem.W.codeIn K cd14 "kids_in" = true)
    (k14 : PySem.W.keepIn K (.ref f14) = true)
    (a15 : PySem.W.nsIn K mainGlobals "part_in" = some (some (.ref f15)))
    (l15 : K.lookup f15 = some ⟨oc15, od15, .func (PySem.W.fnOf "part_in" "part_in" (defArgs sPartIn) (defBody sPartIn) (defScope sPartIn) .none kV15 dc15 pm15 an15 cd15 ct15), sl15⟩)
    (c15 : PySem.W.codeIn K cd15 "part_in" = true)
    (k15 : PySem.W.keepIn K (.ref f15) = true)
    (a16 : PySem.W.nsIn K mainGlobals "is_level_and_tag" = some (some (.ref f16)))
    (l16 : K.lookup f16 = some ⟨oc16, od16, .func (PySem.W.fnOf "is_level_and_tag" "is_level_and_tag" (defArgs sLvTag) (defBody sLvTag) (defScope sLvTag) .none kV16 dc16 pm16 an16 cd16 ct16), sl16⟩)
    (c16 : PySem.W.codeIn K cd16 "is_level_and_tag" = true)
    (k16 : PySem.W.keepIn K (.ref f16) = true)
    (a17 : PySem.W.nsIn K mainGlobals "is_flat" = some (some (.ref f17)))
    (l17 : K.lookup f17 = some ⟨oc17, od17, .func (PySem.W.fnOf "is_flat" "is_flat" (defArgs sIsFlat) (defBody sIsFlat) (defScope sIsFlat) .none kV17 dc17 pm17 an17 cd17 ct17), sl17⟩)
    (c17 : PySem.W.codeIn K cd17 "is_flat" = true)
    (k17 : PySem.W.keepIn K (.ref f17) = true)
    (a18 : PySem.W.nsIn K mainGlobals "flat_of" = some (some (.ref f18)))
    (l18 : K.lookup f18 = some ⟨oc18, od18, .func (PySem.W.fnOf "flat_of" "flat_of" (defArgs sFlatOf) (defBody sFlatOf) (defScope sFlatOf) .none kV18 dc18 pm18 an18 cd18 ct18), sl18⟩)
    (c18 : PySem.W.codeIn K cd18 "flat_of" = true)
    (k18 : PySem.W.keepIn K (.ref f18) = true)
    (a19 : PySem.W.nsIn K mainGlobals "tree_of_flat" = some (some (.ref f19)))
    (l19 : K.lookup f19 = some ⟨oc19, od19, .func (PySem.W.fnOf "tree_of_flat" "tree_of_flat" (defArgs sOfFlat) (defBody sOfFlat) (defScope sOfFlat) .none kV19 dc19 pm19 an19 cd19 ct19), sl19⟩)
    (c19 : PySem.W.codeIn K cd19 "tree_of_flat" = true)
    (k19 : PySem.W.keepIn K (.ref f19) = true)
    (a20 : PySem.W.nsIn K mainGlobals "_law_flat" = some (some (.ref f20)))
    (l20 : K.lookup f20 = some ⟨oc20, od20, .func (PySem.W.fnOf "_law_flat" "_law_flat" (defArgs sLFlat) (defBody sLFlat) (defScope sLFlat) .none kV20 dc20 pm20 an20 cd20 ct20), sl20⟩)
    (c20 : PySem.W.codeIn K cd20 "_law_flat" = true)
    (k20 : PySem.W.keepIn K (.ref f20) = true)
    (a21 : PySem.W.nsIn K mainGlobals "_law_is_flat" = some (some (.ref f21)))
    (l21 : K.lookup f21 = some ⟨oc21, od21, .func (PySem.W.fnOf "_law_is_flat" "_law_is_flat" (defArgs sLIsFlat) (defBody sLIsFlat) (defScope sLIsFlat) .none kV21 dc21 pm21 an21 cd21 ct21), sl21⟩)
    (c21 : PySem.W.codeIn K cd21 "_law_is_flat" = true)
    (k21 : PySem.W.keepIn K (.ref f21) = true)
    (a22 : PySem.W.nsIn K mainGlobals "_law_bent" = some (some (.ref f22)))
    (l22 : K.lookup f22 = some ⟨oc22, od22, .func (PySem.W.fnOf "_law_bent" "_law_bent" (defArgs sBent) (defBody sBent) (defScope sBent) .none kV22 dc22 pm22 an22 cd22 ct22), sl22⟩)
    (c22 : PySem.W.codeIn K cd22 "_law_bent" = true)
    (k22 : PySem.W.keepIn K (.ref f22) = true)
    (a23 : PySem.W.nsIn K mainGlobals "_law_told" = some (some (.ref f23)))
    (l23 : K.lookup f23 = some ⟨oc23, od23, .func (PySem.W.fnOf "_law_told" "_law_told" (defArgs sTold) (defBody sTold) (defScope sTold) .none kV23 dc23 pm23 an23 cd23 ct23), sl23⟩)
    (c23 : PySem.W.codeIn K cd23 "_law_told" = true)
    (k23 : PySem.W.keepIn K (.ref f23) = true)
    (a24 : PySem.W.nsIn K mainGlobals "_law_right" = some (some (.ref f24)))
    (l24 : K.lookup f24 = some ⟨oc24, od24, .func (PySem.W.fnOf "_law_right" "_law_right" (defArgs sRight) (defBody sRight) (defScope sRight) .none kV24 dc24 pm24 an24 cd24 ct24), sl24⟩)
    (c24 : PySem.W.codeIn K cd24 "_law_right" = true)
    (k24 : PySem.W.keepIn K (.ref f24) = true)
    (a25 : PySem.W.nsIn K mainGlobals "_law_no_tree" = some (some (.ref f25)))
    (l25 : K.lookup f25 = some ⟨oc25, od25, .func (PySem.W.fnOf "_law_no_tree" "_law_no_tree" (defArgs sNoTree) (defBody sNoTree) (defScope sNoTree) .none kV25 dc25 pm25 an25 cd25 ct25), sl25⟩)
    (c25 : PySem.W.codeIn K cd25 "_law_no_tree" = true)
    (k25 : PySem.W.keepIn K (.ref f25) = true)
    (a26 : PySem.W.nsIn K mainGlobals "law" = some (some (.ref f26)))
    (l26 : K.lookup f26 = some ⟨oc26, od26, .func (PySem.W.fnOf "law" "law" (defArgs sLaw) (defBody sLaw) (defScope sLaw) .none kV26 dc26 pm26 an26 cd26 ct26), sl26⟩)
    (c26 : PySem.W.codeIn K cd26 "law" = true)
    (k26 : PySem.W.keepIn K (.ref f26) = true)
    (z1 : PySem.W.nsIn K mainGlobals "isinstance" = some none)
    (z2 : PySem.W.nsIn K mainGlobals "int" = some none)
    (z3 : PySem.W.nsIn K mainGlobals "bool" = some none)
    (z4 : PySem.W.nsIn K mainGlobals "str" = some none)
    (z5 : PySem.W.nsIn K mainGlobals "tuple" = some none)
    (z6 : PySem.W.nsIn K mainGlobals "list" = some none)
    (z7 : PySem.W.nsIn K mainGlobals "len" = some none)
    (z8 : PySem.W.nsIn K mainGlobals "all" = some none)
    (z9 : PySem.W.nsIn K mainGlobals "repr" = some none)
    (z10 : PySem.W.nsIn K mainGlobals "max" = some none)
    (z11 : PySem.W.nsIn K mainGlobals "range" = some none)
    (z12 : PySem.W.nsIn K mainGlobals "enumerate" = some none)
    (z13 : PySem.W.nsIn K mainGlobals "zip" = some none)
    (z14 : PySem.W.nsIn K mainGlobals "ValueError" = some none)
    (n1 : PySem.W.nsIn K mainGlobals "SIZE" = some (some (.int 60 t1)))
    (n2 : PySem.W.nsIn K mainGlobals "DEPTH" = some (some (.int 12 t2)))
    (n3 : PySem.W.nsIn K mainGlobals "SIGNS" = some (some (.int 8 t3)))
    (y_TreeError : PySem.W.nsIn K mainGlobals "TreeError" = some (some (.ref c_TreeError)))
    (y_NoThing : PySem.W.nsIn K mainGlobals "NoThing" = some (some (.ref c_NoThing)))
    (y_NoFit : PySem.W.nsIn K mainGlobals "NoFit" = some (some (.ref c_NoFit)))
    (y_NoTree : PySem.W.nsIn K mainGlobals "NoTree" = some (some (.ref c_NoTree)))
    (y_NoPath : PySem.W.nsIn K mainGlobals "NoPath" = some (some (.ref c_NoPath)))
    (y_NoFlat : PySem.W.nsIn K mainGlobals "NoFlat" = some (some (.ref c_NoFlat)))
    (o1_TreeError : PySem.W.isClsIn K c_TreeError = true)
    (o2_TreeError : PySem.W.typeIn K (.ref c_TreeError) = some (.type "type"))
    (o1_NoThing : PySem.W.isClsIn K c_NoThing = true)
    (o2_NoThing : PySem.W.typeIn K (.ref c_NoThing) = some (.type "type"))
    (o1_NoFit : PySem.W.isClsIn K c_NoFit = true)
    (o2_NoFit : PySem.W.typeIn K (.ref c_NoFit) = some (.type "type"))
    (o1_NoTree : PySem.W.isClsIn K c_NoTree = true)
    (o2_NoTree : PySem.W.typeIn K (.ref c_NoTree) = some (.type "type"))
    (o1_NoPath : PySem.W.isClsIn K c_NoPath = true)
    (o2_NoPath : PySem.W.typeIn K (.ref c_NoPath) = some (.type "type"))
    (o1_NoFlat : PySem.W.isClsIn K c_NoFlat = true)
    (o2_NoFlat : PySem.W.typeIn K (.ref c_NoFlat) = some (.type "type"))
    (b1_TreeError : PySem.W.subIn K (.ref c_TreeError) (.type "BaseException") = some true)
    (b2_TreeError : PySem.W.hasDictIn K c_TreeError = true)
    (hnG : PySem.W.specialIn K (.builtin "object.__class__") "__get__" = some (some (.builtin "getset_descriptor.__get__")))
    (htG : PySem.W.takesIn K (.builtin "object.__class__") = some true)
    (w_NoTreeg : PySem.W.findIn K (.ref c_NoTree) "__getattribute__" = some (some (.builtin "BaseException.__getattribute__")))
    (w_NoTreek : PySem.W.findIn K (.ref c_NoTree) "__getattr__" = some none)
    (w_NoTrees : PySem.W.subIn K (.ref c_NoTree) (.type "BaseException") = some true)
    (w_NoTreed : PySem.W.hasDictIn K c_NoTree = true)
    (w_NoTreea : PySem.W.findIn K (.ref c_NoTree) "__class__" = some (some (.builtin "object.__class__")))
    (w_NoTreem : PySem.W.mroIn K c_NoTree (.type "object") = some true)
    (w_NoTreev : PySem.W.subIn K (.ref c_NoTree) (.type "ValueError") = some true)
    (w_NoTree_TreeError : PySem.W.subIn K (.ref c_NoTree) (.ref c_TreeError) = some true)
    (w_NoTree_NoThing : PySem.W.subIn K (.ref c_NoTree) (.ref c_NoThing) = some true)
    (w_NoTree_NoFit : PySem.W.subIn K (.ref c_NoTree) (.ref c_NoFit) = some false)
    (w_NoTree_NoTree : PySem.W.subIn K (.ref c_NoTree) (.ref c_NoTree) = some true)
    (w_NoTree_NoPath : PySem.W.subIn K (.ref c_NoTree) (.ref c_NoPath) = some false)
    (w_NoTree_NoFlat : PySem.W.subIn K (.ref c_NoTree) (.ref c_NoFlat) = some false)
    (x1_NoTree : PySem.W.excIn K c_NoTree [.type "ValueError", .type "Exception", .type "BaseException", .type "object"] "ValueError.__new__" = true)
    (x2_NoTree : PySem.W.keepIn K (.ref c_NoTree) = true)
    (w_NoFlatg : PySem.W.findIn K (.ref c_NoFlat) "__getattribute__" = some (some (.builtin "BaseException.__getattribute__")))
    (w_NoFlatk : PySem.W.findIn K (.ref c_NoFlat) "__getattr__" = some none)
    (w_NoFlats : PySem.W.subIn K (.ref c_NoFlat) (.type "BaseException") = some true)
    (w_NoFlatd : PySem.W.hasDictIn K c_NoFlat = true)
    (w_NoFlata : PySem.W.findIn K (.ref c_NoFlat) "__class__" = some (some (.builtin "object.__class__")))
    (w_NoFlatm : PySem.W.mroIn K c_NoFlat (.type "object") = some true)
    (w_NoFlatv : PySem.W.subIn K (.ref c_NoFlat) (.type "ValueError") = some true)
    (w_NoFlat_TreeError : PySem.W.subIn K (.ref c_NoFlat) (.ref c_TreeError) = some true)
    (w_NoFlat_NoThing : PySem.W.subIn K (.ref c_NoFlat) (.ref c_NoThing) = some true)
    (w_NoFlat_NoFit : PySem.W.subIn K (.ref c_NoFlat) (.ref c_NoFit) = some false)
    (w_NoFlat_NoTree : PySem.W.subIn K (.ref c_NoFlat) (.ref c_NoTree) = some false)
    (w_NoFlat_NoPath : PySem.W.subIn K (.ref c_NoFlat) (.ref c_NoPath) = some false)
    (w_NoFlat_NoFlat : PySem.W.subIn K (.ref c_NoFlat) (.ref c_NoFlat) = some true)
    (x1_NoFlat : PySem.W.excIn K c_NoFlat [.type "ValueError", .type "Exception", .type "BaseException", .type "object"] "ValueError.__new__" = true)
    (x2_NoFlat : PySem.W.keepIn K (.ref c_NoFlat) = true)
    {s₁ : Shared} {base : Heap} {H : Hp} {a : Addr} {ns : List Int} (hlen : ns.length ≤ 63) (hS : SqL K H a (ns.map V.int)) (e0 : Env0 P w K mg base callerA [] s₁ H) :
    codeAny (model P w) callerA (.call (.ref fa) ⟨[.ref a], []⟩) (CR CX0 [] P w H s₁ (fun v _ => v = V.bl true) fun _ _ _ => False) s₁ := by
  have T : Bl mg := ⟨PySem.W.mg_none_of X G z1, PySem.W.mg_none_of X G z2, PySem.W.mg_none_of X G z3, PySem.W.mg_none_of X G z4, PySem.W.mg_none_of X G z5, PySem.W.mg_none_of X G z6, PySem.W.mg_none_of X G z7, PySem.W.mg_none_of X G z8, PySem.W.mg_none_of X G z9, PySem.W.mg_none_of X G z10, PySem.W.mg_none_of X G z11, PySem.W.mg_none_of X G z12⟩
  have cSIZE : ∃ t, mg "SIZE" = some (.int 60 t) := ⟨_, PySem.W.mg_of X G n1⟩
  have cDEPTH : ∃ t, mg "DEPTH" = some (.int 12 t) := ⟨_, PySem.W.mg_of X G n2⟩
  have cSIGNS : ∃ t, mg "SIGNS" = some (.int 8 t) := ⟨_, PySem.W.mg_of X G n3⟩
  have z_zip : mg "zip" = none := PySem.W.mg_none_of X G z13
  have z_ValueError : mg "ValueError" = none := PySem.W.mg_none_of X G z14
  let A : Cls K mg := ⟨c_TreeError, c_NoThing, c_NoFit, c_NoTree, c_NoPath, c_NoFlat, PySem.W.mg_of X G y_TreeError, PySem.W.mg_of X G y_NoThing, PySem.W.mg_of X G y_NoFit, PySem.W.mg_of X G y_NoTree, PySem.W.mg_of X G y_NoPath, PySem.W.mg_of X G y_NoFlat, ⟨PySem.W.mg_of X G y_NoTree, x1_NoTree, x2_NoTree, w_NoTrees, o2_NoTree⟩, ⟨w_NoTreeg, w_NoTreek, w_NoTrees, w_NoTreed, w_NoTreea, hnG, htG, w_NoTreem⟩, kit_ve w_NoTreev, kit_sub o1_TreeError o2_TreeError w_NoTree_TreeError, kit_sub o1_NoThing o2_NoThing w_NoTree_NoThing, kit_no o1_NoFit o2_NoFit w_NoTree_NoTree w_NoTree_NoFit, kit_sub o1_NoTree o2_NoTree w_NoTree_NoTree, kit_no o1_NoPath o2_NoPath w_NoTree_NoTree w_NoTree_NoPath, kit_no o1_NoFlat o2_NoFlat w_NoTree_NoTree w_NoTree_NoFlat, PySem.W.exm_ref b1_TreeError b2_TreeError o2_TreeError w_NoTree_TreeError, ⟨PySem.W.mg_of X G y_NoFlat, x1_NoFlat, x2_NoFlat, w_NoFlats, o2_NoFlat⟩, ⟨w_NoFlatg, w_NoFlatk, w_NoFlats, w_NoFlatd, w_NoFlata, hnG, htG, w_NoFlatm⟩, kit_ve w_NoFlatv, kit_sub o1_TreeError o2_TreeError w_NoFlat_TreeError, kit_sub o1_NoThing o2_NoThing w_NoFlat_NoThing, kit_no o1_NoFit o2_NoFit w_NoFlat_NoFlat w_NoFlat_NoFit, kit_no o1_NoTree o2_NoTree w_NoFlat_NoFlat w_NoFlat_NoTree, kit_no o1_NoPath o2_NoPath w_NoFlat_NoFlat w_NoFlat_NoPath, kit_sub o1_NoFlat o2_NoFlat w_NoFlat_NoFlat, PySem.W.exm_ref b1_TreeError b2_TreeError o2_TreeError w_NoFlat_TreeError⟩
  have C : Cs mg := ⟨cSIZE, cDEPTH, cSIGNS⟩
  have D : Nonempty (Defs K mg) := ⟨⟨at_mk X G a1 l1 c1 k1, at_mk X G a2 l2 c2 k2, at_mk X G a3 l3 c3 k3, at_mk X G a4 l4 c4 k4, at_mk X G a5 l5 c5 k5, at_mk X G a6 l6 c6 k6, at_mk X G a7 l7 c7 k7, at_mk X G a8 l8 c8 k8, at_mk X G a9 l9 c9 k9, at_mk X G a10 l10 c10 k10, at_mk X G a11 l11 c11 k11, at_mk X G a12 l12 c12 k12, at_mk X G a13 l13 c13 k13, at_mk X G a14 l14 c14 k14, at_mk X G a15 l15 c15 k15, at_mk X G a16 l16 c16 k16, at_mk X G a17 l17 c17 k17, at_mk X G a18 l18 c18 k18, at_mk X G a19 l19 c19 k19, at_mk X G a20 l20 c20 k20, at_mk X G a21 l21 c21 k21, at_mk X G a22 l22 c22 k22, at_mk X G a23 l23 c23 k23, at_mk X G a24 l24 c24 k24, at_mk X G a25 l25 c25 k25, at_mk X G a26 l26 c26 k26⟩⟩
  obtain ⟨D⟩ := D
  have e : D.d_law.f = fa := by
    have := hfa.symm.trans D.d_law.m
    cases this
    rfl
  rw [← e]
  exact ok_law D.d_law.F T (calls D T A C z_zip z_ValueError base) hS e0
end Tl

open PySem PySem.W PyProof.Rows
set_option Elab.async false
set_option maxRecDepth 100000 in
set_option maxHeartbeats 0 in
theorem PySem.Challenge.cw_treelore_k26_flat_rows_or_not_holds : PySem.Challenge.rw_treelore_k26_flat_rows_or_not.Holds := by
  w_on; o_law; k_head; (case hw => w_witness2)
  k_fill
  refine Tl.walk_at_top (l := PySem.Challenge.rw_treelore_k26_flat_rows_or_not) (n := 63) rfl (by decide) rfl (fun w h Y => PySem.W.kIn_of Y) ?F
  case F =>
    intro w mg fa h KX G hmg s₁ base H a ns hlen hKb hNb hS e0
    refine' Tl.all_mk KX G hmg ?a1 ?l1 ?c1 ?k1 ?a2 ?l2 ?c2 ?k2 ?a3 ?l3 ?c3 ?k3 ?a4 ?l4 ?c4 ?k4 ?a5 ?l5 ?c5 ?k5 ?a6 ?l6 ?c6 ?k6 ?a7 ?l7 ?c7 ?k7 ?a8 ?l8 ?c8 ?k8 ?a9 ?l9 ?c9 ?k9 ?a10 ?l10 ?c10 ?k10 ?a11 ?l11 ?c11 ?k11 ?a12 ?l12 ?c12 ?k12 ?a13 ?l13 ?c13 ?k13 ?a14 ?l14 ?c14 ?k14 ?a15 ?l15 ?c15 ?k15 ?a16 ?l16 ?c16 ?k16 ?a17 ?l17 ?c17 ?k17 ?a18 ?l18 ?c18 ?k18 ?a19 ?l19 ?c19 ?k19 ?a20 ?l20 ?c20 ?k20 ?a21 ?l21 ?c21 ?k21 ?a22 ?l22 ?c22 ?k22 ?a23 ?l23 ?c23 ?k23 ?a24 ?l24 ?c24 ?k24 ?a25 ?l25 ?c25 ?k25 ?a26 ?l26 ?c26 ?k26 ?z1 ?z2 ?z3 ?z4 ?z5 ?z6 ?z7 ?z8 ?z9 ?z10 ?z11 ?z12 ?z13 ?z14 ?n1 ?n2 ?n3 ?y_TreeError ?y_NoThing ?y_NoFit ?y_NoTree ?y_NoPath ?y_NoFlat ?o1_TreeError ?o2_TreeError ?o1_NoThing ?o2_NoThing ?o1_NoFit ?o2_NoFit ?o1_NoTree ?o2_NoTree ?o1_NoPath ?o2_NoPath ?o1_NoFlat ?o2_NoFlat ?b1_TreeError ?b2_TreeError ?hnG ?htG ?w_NoTreeg ?w_NoTreek ?w_NoTrees ?w_NoTreed ?w_NoTreea ?w_NoTreem ?w_NoTreev ?w_NoTree_TreeError ?w_NoTree_NoThing ?w_NoTree_NoFit ?w_NoTree_NoTree ?w_NoTree_NoPath ?w_NoTree_NoFlat ?x1_NoTree ?x2_NoTree ?w_NoFlatg ?w_NoFlatk ?w_NoFlats ?w_NoFlatd ?w_NoFlata ?w_NoFlatm ?w_NoFlatv ?w_NoFlat_TreeError ?w_NoFlat_NoThing ?w_NoFlat_NoFit ?w_NoFlat_NoTree ?w_NoFlat_NoPath ?w_NoFlat_NoFlat ?x1_NoFlat ?x2_NoFlat hlen hS e0
    (case a1 => k_is)
    (case l1 => k_is)
    (case c1 => k_is)
    (case k1 => k_is)
    (case a2 => k_is)
    (case l2 => k_is)
    (case c2 => k_is)
    (case k2 => k_is)
    (case a3 => k_is)
    (case l3 => k_is)
    (case c3 => k_is)
    (case k3 => k_is)
    (case a4 => k_is)
    (case l4 => k_is)
    (case c4 => k_is)
    (case k4 => k_is)
    (case a5 => k_is)
    (case l5 => k_is)
    (case c5 => k_is)
    (case k5 => k_is)
    (case a6 => k_is)
    (case l6 => k_is)
    (case c6 => k_is)
    (case k6 => k_is)
    (case a7 => k_is)
    (case l7 => k_is)
    (case c7 => k_is)
    (case k7 => k_is)
    (case a8 => k_is)
    (case l8 => k_is)
    (case c8 => k_is)
    (case k8 => k_is)
    (case a9 => k_is)
    (case l9 => k_is)
    (case c9 => k_is)
    (case k9 => k_is)
    (case a10 => k_is)
    (case l10 => k_is)
    (case c10 => k_is)
    (case k10 => k_is)
    (case a11 => k_is)
    (case l11 => k_is)
    (case c11 => k_is)
    (case k11 => k_is)
    (case a12 => k_is)
    (case l12 => k_is)
    (case c12 => k_is)
    (case k12 => k_is)
    (case a13 => k_is)
    (case l13 => k_is)
    (case c13 => k_is)
    (case k13 => k_is)
    (case a14 => k_is)
    (case l14 => k_is)
    (case c14 => k_is)
    (case k14 => k_is)
    (case a15 => k_is)
    (case l15 => k_is)
    (case c15 => k_is)
    (case k15 => k_is)
    (case a16 => k_is)
    (case l16 => k_is)
    (case c16 => k_is)
    (case k16 => k_is)
    (case a17 => k_is)
    (case l17 => k_is)
    (case c17 => k_is)
    (case k17 => k_is)
    (case a18 => k_is)
    (case l18 => k_is)
    (case c18 => k_is)
    (case k18 => k_is)
    (case a19 => k_is)
    (case l19 => k_is)
    (case c19 => k_is)
    (case k19 => k_is)
    (case a20 => k_is)
    (case l20 => k_is)
    (case c20 => k_is)
    (case k20 => k_is)
    (case a21 => k_is)
    (case l21 => k_is)
    (case c21 => k_is)
    (case k21 => k_is)
    (case a22 => k_is)
    (case l22 => k_is)
    (case c22 => k_is)
    (case k22 => k_is)
    (case a23 => k_is)
    (case l23 => k_is)
    (case c23 => k_is)
    (case k23 => k_is)
    (case a24 => k_is)
    (case l24 => k_is)
    (case c24 => k_is)
    (case k24 => k_is)
    (case a25 => k_is)
    (case l25 => k_is)
    (case c25 => k_is)
    (case k25 => k_is)
    (case a26 => k_is)
    (case l26 => k_is)
    (case c26 => k_is)
    (case k26 => k_is)
    (case z1 => k_is)
    (case z2 => k_is)
    (case z3 => k_is)
    (case z4 => k_is)
    (case z5 => k_is)
    (case z6 => k_is)
    (case z7 => k_is)
    (case z8 => k_is)
    (case z9 => k_is)
    (case z10 => k_is)
    (case z11 => k_is)
    (case z12 => k_is)
    (case z13 => k_is)
    (case z14 => k_is)
    (case n1 => k_is)
    (case n2 => k_is)
    (case n3 => k_is)
    (case y_TreeError => k_is)
    (case y_NoThing => k_is)
    (case y_NoFit => k_is)
    (case y_NoTree => k_is)
    (case y_NoPath => k_is)
    (case y_NoFlat => k_is)
    (case o1_TreeError => k_is)
    (case o2_TreeError => k_is)
    (case o1_NoThing => k_is)
    (case o2_NoThing => k_is)
    (case o1_NoFit => k_is)
    (case o2_NoFit => k_is)
    (case o1_NoTree => k_is)
    (case o2_NoTree => k_is)
    (case o1_NoPath => k_is)
    (case o2_NoPath => k_is)
    (case o1_NoFlat => k_is)
    (case o2_NoFlat => k_is)
    (case b1_TreeError => k_is)
    (case b2_TreeError => k_is)
    (case hnG => k_is)
    (case htG => k_is)
    (case w_NoTreeg => k_is)
    (case w_NoTreek => k_is)
    (case w_NoTrees => k_is)
    (case w_NoTreed => k_is)
    (case w_NoTreea => k_is)
    (case w_NoTreem => k_is)
    (case w_NoTreev => k_is)
    (case w_NoTree_TreeError => first | k_is | rfl)
    (case w_NoTree_NoThing => first | k_is | rfl)
    (case w_NoTree_NoFit => first | k_is | rfl)
    (case w_NoTree_NoTree => first | k_is | rfl)
    (case w_NoTree_NoPath => first | k_is | rfl)
    (case w_NoTree_NoFlat => first | k_is | rfl)
    (case x1_NoTree => k_exc)
    (case x2_NoTree => k_is)
    (case w_NoFlatg => k_is)
    (case w_NoFlatk => k_is)
    (case w_NoFlats => k_is)
    (case w_NoFlatd => k_is)
    (case w_NoFlata => k_is)
    (case w_NoFlatm => k_is)
    (case w_NoFlatv => k_is)
    (case w_NoFlat_TreeError => first | k_is | rfl)
    (case w_NoFlat_NoThing => first | k_is | rfl)
    (case w_NoFlat_NoFit => first | k_is | rfl)
    (case w_NoFlat_NoTree => first | k_is | rfl)
    (case w_NoFlat_NoPath => first | k_is | rfl)
    (case w_NoFlat_NoFlat => first | k_is | rfl)
    (case x1_NoFlat => k_exc)
    (case x2_NoFlat => k_is)

