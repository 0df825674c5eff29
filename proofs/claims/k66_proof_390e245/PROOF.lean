import PyProof.Rows.All
import Wide.All
import OpenK.AllK
import Wide.FinOn
import HandS.ForMost
import HandS.IsInst
import HandS.TupAny
import HandS.TupMul
import HandS.Style
import HandS.Flow
import HandS.Walk
import KE.GoesMore
import HandS.FStrTup
import HandS.ExcValue
import HandS.ExcIs
import HandS.ExcField
import KE.KExcIs
import HandS.ExcInit
import HandS.WordsExc
import HandS.SortKw
import KE.DataMinMax
import HandS.Zip
import HandS.RevTup
import HandS.More
import HandS.TryOnly
import HandS.Dict
import HandS.IterVal
import PyProof.NeKinds
import HandS.Conv
import PySem.Challenge.RW_treelore_k66_ties_as_lists
set_option Elab.async false
set_option linter.all false
set_option maxRecDepth 100000
set_option maxHeartbeats 4000000
/-! Data in the heap, by value: what stays when the heap grows, what isinstance and len answer of it. -/
namespace Tl
open PySem L2

theorem same_new {H : Hp} {p : Addr} {o : HO} (h : H p = none) : Same H (upd H p o) := fun b u q => by
  rw [upd_ne (ne_of_none q h)]
  exact q
/-- what F does not know may change -/
theorem same_mut {F H : Hp} {p : Addr} {o : HO} (e : Same F H) (h : F p = none) : Same F (upd H p o) := fun b u q => by
  rw [upd_ne (ne_of_none q h)]
  exact e b u q
theorem same_rd {H H' : Hp} {a : Addr} {u : HO} (e : Same H H') (h : Rd H a u) : Rd H' a u := by
  rcases h with h | ⟨o, h⟩
  · exact .inl (e a _ h)
  · exact .inr ⟨o, e a _ h⟩
theorem same_t {K : PySem.W.Frag} {H H' : Hp} {a : Addr} {xs : List V} (e : Same H H') (h : SqT K H a xs) : SqT K H' a xs := by
  rcases h with h | h
  · exact .inl (same_rd e h)
  · exact .inr h
theorem same_l {K : PySem.W.Frag} {H H' : Hp} {a : Addr} {xs : List V} (e : Same H H') (h : SqL K H a xs) : SqL K H' a xs := by
  rcases h with h | h
  · exact .inl (same_rd e h)
  · exact .inr h
mutual
theorem dp_mono {K : PySem.W.Frag} {H H' : Hp} (e : Same H H') : ∀ (d : PyData) (v : V), Dp K H v d → Dp K H' v d
  | .none, _, h => by cases h; exact .non
  | .bool b, _, h => by cases h; exact .bl b
  | .int i, _, h => by cases h; exact .int i
  | .str x, _, h => by cases h; exact .str x
  | .list ds, _, h => by
    cases h with
    | lst hs ha => exact .lst (same_l e hs) (dpAll_mono e ds _ ha)
  | .tuple ds, _, h => by
    cases h with
    | tup hs ha => exact .tup (same_t e hs) (dpAll_mono e ds _ ha)
  | .dict _, _, h => by cases h
theorem dpAll_mono {K : PySem.W.Frag} {H H' : Hp} (e : Same H H') : ∀ (ds : List PyData) (vs : List V), DpAll K H vs ds → DpAll K H' vs ds
  | [], _, h => by cases h; exact .nil
  | d :: ds, _, h => by
    cases h with
    | cons h1 h2 => exact .cons (dp_mono e d _ h1) (dpAll_mono e ds _ h2)
end
/-- a thing of the law: data, or the empty dict -/
inductive Dt (K : PySem.W.Frag) (H : Hp) : V → PyData → Prop
  | d {v : V} {d : PyData} : Dp K H v d → Dt K H v d
  | e {a : Addr} : H a = some (.dK []) → Dt K H (.ref a) (.dict [])
theorem Dt.mono {K : PySem.W.Frag} {H H' : Hp} {v : V} {d : PyData} (e : Same H H') (h : Dt K H v d) : Dt K H' v d := by
  cases h with
  | d h => exact .d (dp_mono e _ _ h)
  | e h => exact .e (e _ _ h)
theorem DpAll.len {K : PySem.W.Frag} {H : Hp} : ∀ {vs : List V} {ds : List PyData}, DpAll K H vs ds → vs.length = ds.length
  | _, _, .nil => rfl
  | _, _, .cons _ h => by rw [List.length_cons, List.length_cons, DpAll.len h]
theorem DpAll.get {K : PySem.W.Frag} {H : Hp} : ∀ {vs : List V} {ds : List PyData} {i : Nat} {v : V}, DpAll K H vs ds → vs[i]? = some v → ∃ d, ds[i]? = some d ∧ Dp K H v d
  | _, _, _, _, .nil, e => by simp at e
  | _, _, 0, _, .cons h _, e => by simp at e; subst e; exact ⟨_, rfl, h⟩
  | _, _, i + 1, v, .cons _ h, e => by
    obtain ⟨d, h1, h2⟩ := DpAll.get (i := i) (v := v) h (by simpa using e)
    exact ⟨d, by simpa using h1, h2⟩
theorem DpAll.got {K : PySem.W.Frag} {H : Hp} : ∀ {vs : List V} {ds : List PyData} {i : Nat} {d : PyData}, DpAll K H vs ds → ds[i]? = some d → ∃ v, vs[i]? = some v ∧ Dp K H v d
  | _, _, _, _, .nil, e => by simp at e
  | _, _, 0, _, .cons h _, e => by simp at e; subst e; exact ⟨_, rfl, h⟩
  | _, _, i + 1, d, .cons _ h, e => by
    obtain ⟨v, h1, h2⟩ := DpAll.got (i := i) (d := d) h (by simpa using e)
    exact ⟨v, by simpa using h1, h2⟩
theorem DpAll.app {K : PySem.W.Frag} {H : Hp} : ∀ {vs ws : List V} {ds es : List PyData}, DpAll K H vs ds → DpAll K H ws es → DpAll K H (vs ++ ws) (ds ++ es)
  | _, _, _, _, .nil, h => h
  | _, _, _, _, .cons a b, h => .cons a (DpAll.app b h)
theorem DpAll.take {K : PySem.W.Frag} {H : Hp} : ∀ {vs : List V} {ds : List PyData} (n : Nat), DpAll K H vs ds → DpAll K H (vs.take n) (ds.take n)
  | _, _, 0, _ => .nil
  | _, _, _ + 1, .nil => .nil
  | _, _, n + 1, .cons a b => .cons a (DpAll.take n b)
theorem DpAll.drop {K : PySem.W.Frag} {H : Hp} : ∀ {vs : List V} {ds : List PyData} (n : Nat), DpAll K H vs ds → DpAll K H (vs.drop n) (ds.drop n)
  | _, _, 0, h => h
  | _, _, _ + 1, .nil => .nil
  | _, _, n + 1, .cons a b => DpAll.drop n b
theorem DpAll.rev {K : PySem.W.Frag} {H : Hp} : ∀ {vs : List V} {ds : List PyData}, DpAll K H vs ds → DpAll K H vs.reverse ds.reverse
  | _, _, .nil => .nil
  | _, _, .cons a b => by rw [List.reverse_cons, List.reverse_cons]; exact DpAll.app (DpAll.rev b) (.cons a .nil)
theorem DpAll.rep {K : PySem.W.Frag} {H : Hp} {vs : List V} {ds : List PyData} (h : DpAll K H vs ds) : ∀ n : Nat, DpAll K H (List.replicate n vs).flatten (List.replicate n ds).flatten
  | 0 => .nil
  | n + 1 => by
    rw [List.replicate_succ, List.replicate_succ, List.flatten_cons, List.flatten_cons]
    exact DpAll.app h (DpAll.rep h n)

theorem DpAll.two {K : PySem.W.Frag} {H : Hp} : ∀ {vs : List V} {ds : List PyData}, DpAll K H vs ds → vs.length = 2 → ∃ x y a b, vs = [x, y] ∧ ds = [a, b] ∧ Dp K H x a ∧ Dp K H y b
  | _, _, .nil, e => by simp at e
  | _, _, .cons _ .nil, e => by simp at e
  | _, _, .cons h1 (.cons h2 .nil), _ => ⟨_, _, _, _, rfl, rfl, h1, h2⟩
  | _, _, .cons _ (.cons _ (.cons _ _)), e => by simp at e

/-! ### what isinstance answers -/
def tyName : PyData → String
  | .none => "NoneType"
  | .bool _ => "bool"
  | .int _ => "int"
  | .str _ => "str"
  | .list _ => "list"
  | .tuple _ => "tuple"
  | .dict _ => "dict"
@[reducible] def isStr : PyData → Bool
  | .str _ => true
  | _ => false
@[reducible] def isTup : PyData → Bool
  | .tuple _ => true
  | _ => false
@[reducible] def isInt : PyData → Bool
  | .int _ => true
  | .bool _ => true
  | _ => false
@[reducible] def isBl : PyData → Bool
  | .bool _ => true
  | _ => false
theorem kit_str (d : PyData) : kitB (tyName d) "str" = some (isStr d) := by cases d <;> (simp only [tyName, isStr]; decide +kernel)
theorem kit_tup (d : PyData) : kitB (tyName d) "tuple" = some (isTup d) := by cases d <;> (simp only [tyName, isTup]; decide +kernel)
theorem kit_int (d : PyData) : kitB (tyName d) "int" = some (isInt d) := by cases d <;> (simp only [tyName, isInt]; decide +kernel)
theorem kit_bl (d : PyData) : kitB (tyName d) "bool" = some (isBl d) := by cases d <;> (simp only [tyName, isBl]; decide +kernel)
theorem ty_data {K : PySem.W.Frag} {H : Hp} {v : V} {d : PyData} (h : Dt K H v d) : TyX K H v (.type (tyName d)) := by
  cases h with
  | e h => exact .base (.dK h)
  | d h =>
    cases h with
    | non => exact .base .non
    | bl b => exact .base (.bl b)
    | int i => exact .base (.int i)
    | str x => exact .base (.str x)
    | lst hs _ =>
      rcases hs with (h | ⟨o, h⟩) | ⟨o, its, n, h1, h2, _⟩
      · exact .base (.lst h)
      · exact .base (.frz h)
      · exact .kList h1 h2
    | tup hs _ =>
      rcases hs with (h | ⟨o, h⟩) | ⟨o, its, n, h1, h2, _⟩
      · exact .base (.tup h)
      · exact .fTuple h
      · exact .kTuple h1 h2
theorem isi_d {K : PySem.W.Frag} {H : Hp} {v : V} {d : PyData} {T : String} {b : Bool} {Q : VK} (h : Dt K H v d) (e : kitB (tyName d) T = some b) (q : Q (.bl b) H) : rIsi K [v, .ty T] H Q :=
  ⟨v, .ty T, _, _, b, rfl, .ty T, ty_data h, kit_ty e, q⟩

/-! ### texts within are short -/
mutual
def txt : PyData → Bool
  | .str s => decide (s.length ≤ 1000) && PyData.strOk s
  | .list ds => txtAll ds
  | .tuple ds => txtAll ds
  | _ => true
def txtAll : List PyData → Bool
  | [] => true
  | d :: ds => txt d && txtAll ds
end
theorem txtAll_get : ∀ {ds : List PyData} {i : Nat} {d : PyData}, txtAll ds = true → ds[i]? = some d → txt d = true
  | [], _, _, _, e => by simp at e
  | a :: r, 0, d, h, e => by
    rw [txtAll, Bool.and_eq_true] at h
    simp at e
    subst e
    exact h.1
  | a :: r, i + 1, d, h, e => by
    rw [txtAll, Bool.and_eq_true] at h
    exact txtAll_get h.2 (by simpa using e)
theorem txtAll_app : ∀ {ds es : List PyData}, txtAll ds = true → txtAll es = true → txtAll (ds ++ es) = true
  | [], es, _, h => h
  | a :: r, es, h, h2 => by
    rw [txtAll, Bool.and_eq_true] at h
    rw [List.cons_append, txtAll, Bool.and_eq_true]
    exact ⟨h.1, txtAll_app h.2 h2⟩
theorem txtAll_rep {ds : List PyData} (h : txtAll ds = true) : ∀ n, txtAll (List.replicate n ds).flatten = true
  | 0 => rfl
  | n + 1 => by
    rw [List.replicate_succ, List.flatten_cons]
    exact txtAll_app h (txtAll_rep h n)
theorem txt_str {s : Str} (h : txt (.str s) = true) : s.length ≤ 1000 ∧ PyData.strOk s = true := by
  rw [txt, Bool.and_eq_true] at h
  exact ⟨of_decide_eq_true h.1, h.2⟩
/-- a list of plain values can be compared -/
def flatD : PyData → Bool
  | .none => true
  | .bool _ => true
  | .int _ => true
  | .str s => PyData.strOk s
  | _ => false
theorem flat_all : ∀ ds : List PyData, ds.all flatD = true → PyData.canLayAll0 ds = true ∧ PyData.depthAll ds = 0
  | [], _ => ⟨rfl, rfl⟩
  | d :: r, h => by
    rw [List.all_cons, Bool.and_eq_true] at h
    obtain ⟨h1, h2⟩ := flat_all r h.2
    have h0 := h.1
    rw [PyData.canLayAll0, PyData.depthAll, h1, h2]
    cases d with
    | none => exact ⟨rfl, rfl⟩
    | bool b => exact ⟨rfl, rfl⟩
    | int b => exact ⟨rfl, rfl⟩
    | str b =>
      rw [flatD] at h0
      rw [PyData.canLay0, PyData.depth, h0]
      exact ⟨rfl, rfl⟩
    | list b => exact Bool.noConfusion h0
    | tuple b => exact Bool.noConfusion h0
    | dict b => exact Bool.noConfusion h0
theorem flat_shaped {ds : List PyData} (h : ds.all flatD = true) : SeqAt.shaped (.list ds) = true := by
  obtain ⟨h1, h2⟩ := flat_all ds h
  unfold SeqAt.shaped
  rw [PyData.canLay0, PyData.depth, h1, h2]
  rfl
theorem sz1000 {n : Nat} (h : n ≤ 1000) : n ≤ sizeLine := Nat.le_of_lt (small1000 h)
/-- the built-in names that are still the built-in's -/
structure Bl (mg : Str → Option Value) : Prop where
  isi : mg "isinstance" = none
  int : mg "int" = none
  bool : mg "bool" = none
  str : mg "str" = none
  tuple : mg "tuple" = none
  list : mg "list" = none
  len : mg "len" = none
  all : mg "all" = none
  repr : mg "repr" = none
  max : mg "max" = none
  range : mg "range" = none
  enum : mg "enumerate" = none
section
variable {X : Cx}
theorem b_int (T : Bl X.mg) {p : Pos} (hg : Gl X "int" := by rfl) : PE X (.Name "int" p) (tC (.ty "int")) := pe_bltn hg T.int PyProof.Rows.boot_int rfl
theorem b_bool (T : Bl X.mg) {p : Pos} (hg : Gl X "bool" := by rfl) : PE X (.Name "bool" p) (tC (.ty "bool")) := pe_bltn hg T.bool PyProof.Rows.boot_bool rfl
theorem b_str (T : Bl X.mg) {p : Pos} (hg : Gl X "str" := by rfl) : PE X (.Name "str" p) (tC (.ty "str")) := pe_bltn hg T.str PyProof.Rows.boot_str rfl
theorem b_tuple (T : Bl X.mg) {p : Pos} (hg : Gl X "tuple" := by rfl) : PE X (.Name "tuple" p) (tC (.ty "tuple")) := pe_bltn hg T.tuple PyProof.Rows.boot_tuple rfl
end
theorem iteD {p A B : Prop} [Decidable p] (h1 : p → A) (h2 : ¬ p → B) : if decide p = true then A else B := by
  by_cases h : p
  · rw [if_pos (decide_eq_true h)]
    exact h1 h
  · rw [if_neg (by rw [decide_eq_false h]; exact Bool.false_ne_true)]
    exact h2 h
theorem iteN {p A B : Prop} [Decidable p] (h1 : ¬ p → A) (h2 : p → B) : if (!decide p) = true then A else B := by
  by_cases h : p
  · rw [if_neg (by rw [decide_eq_true h]; exact Bool.false_ne_true)]
    exact h2 h
  · rw [if_pos (by rw [decide_eq_false h]; rfl)]
    exact h1 h
theorem iteB {b : Bool} {A B : Prop} (h1 : b = true → A) (h2 : b = false → B) : if b = true then A else B := by
  cases b with
  | true => exact h1 rfl
  | false => rw [if_neg Bool.false_ne_true]; exact h2 rfl
/-! ### comprehensions whose parts leave all as it was -/
section
variable {K : PySem.W.Frag} {a : Addr} {xs : List V}
theorem fn_list : Walk (Itl K a) xs.length (fun H => SqL K H a xs) (YFn fun i => xs.getD i .non) :=
  walk_list.mono (fun _ h => h) fun i H x H' hi _ y => ⟨y.1, by show x = xs.getD i .non; rw [List.getD_eq_getElem?_getD, y.2]; rfl⟩
theorem fn_tup : Walk (Itt K a) xs.length (fun H => SqT K H a xs) (YFn fun i => xs.getD i .non) :=
  walk_tup.mono (fun _ h => h) fun i H x H' hi _ y => ⟨y.1, by show x = xs.getD i .non; rw [List.getD_eq_getElem?_getD, y.2]; rfl⟩
theorem fn_str {z : Str} : Walk (Its z) z.cps.toList.length (fun _ => True) (YFn fun i => .str ⟨#[z.cps.toList.getD i 0]⟩) :=
  walk_str.mono (fun _ h => h) fun i H x H' hi _ y => by
    obtain ⟨e, c, hc, rfl⟩ := y
    refine ⟨e, ?_⟩
    show V.str ⟨#[c]⟩ = V.str ⟨#[z.cps.toList.getD i 0]⟩
    rw [List.getD_eq_getElem?_getD, Array.getElem?_toList, hc]
    rfl
end
def picked {α : Type} (n : Nat) (f : Nat → Bool) (v : Nat → α) : List α := ((List.range n).filter f).map v
theorem picked_yes {α : Type} {n : Nat} {f : Nat → Bool} {v : Nat → α} (h : f n = true) : picked (n + 1) f v = picked n f v ++ [v n] := by
  unfold picked
  rw [List.range_succ, List.filter_append, List.map_append]
  simp [h]
theorem picked_no {α : Type} {n : Nat} {f : Nat → Bool} {v : Nat → α} (h : f n = false) : picked (n + 1) f v = picked n f v := by
  unfold picked
  rw [List.range_succ, List.filter_append, List.map_append]
  simp [h]
theorem picked_len {α : Type} (n : Nat) (f : Nat → Bool) (v : Nat → α) : (picked n f v).length ≤ n := by
  unfold picked
  rw [List.length_map]
  exact Nat.le_trans (List.length_filter_le _ _) (by rw [List.length_range]; exact Nat.le_refl n)
theorem picked_all {α β : Type} (xs : List α) (d : α) (g : α → β) : picked xs.length (fun _ => true) (fun i => g (xs.getD i d)) = xs.map g := by
  unfold picked
  rw [List.filter_eq_self.mpr (fun _ _ => rfl)]
  apply List.ext_getElem
  · simp
  · intro i h1 h2
    simp at h1 h2 ⊢
    rw [List.getElem?_eq_getElem h2]
    rfl
theorem picked_some {α β : Type} (xs : List α) (d : α) (p : α → Bool) (g : α → β) : picked xs.length (fun i => p (xs.getD i d)) (fun i => g (xs.getD i d)) = (xs.filter p).map g := by
  have h := picked_all xs d id
  unfold picked at h ⊢
  rw [List.filter_eq_self.mpr (fun _ _ => rfl), List.map_id] at h
  have e : (List.range xs.length).map (fun i => xs.getD i d) = xs := by simpa using h
  conv => rhs; rw [← e]
  rw [List.filter_map, List.map_map]
  rfl
theorem lc_pure {J : It} {n j : Nat} {G : Hp → Prop} {Xi : Nat → V} {tt : TT} {te : TE} {vs : List Nat} {σ : L2.St} {H1 : Hp} {D : Addr} {Qd : Hp → Prop} (wk : Walk J n G (YFn Xi)) (f : Nat → Bool) (v : Nat → V)
    (hG : ∀ H, Same H1 H → G H) (hn : n ≤ 1000000) (hw : ∀ x, wipe ((wipe σ vs).set j (some x)) vs = wipe σ vs) (hD : H1 D = none)
    (ht : ∀ i H, i < n → Same H1 H → ∀ Qt : Bool → Hp → Prop, (∀ H3, Same H H3 → Qt (f i) H3) → tt ((wipe σ vs).set j (some (Xi i))) H Qt)
    (he : ∀ i H, i < n → f i = true → Same H1 H → ∀ Qe : VK, (∀ H3, Same H H3 → Qe (v i) H3) → te ((wipe σ vs).set j (some (Xi i))) H Qe)
    (q : ∀ H2, Same H1 H2 → H2 D = some (.lst (picked n f v)) → Qd H2) :
    ∃ W : Nat → Nat → Hp → Prop, (∃ m, W 0 m (upd H1 D (.lst []))) ∧ ∀ i m H, W i m H →
      (J.stop i H ∧ Qd H) ∨ (J.go i H ∧ ∃ Nx : Hp → Prop, (∀ H', Nx H' → ∃ m', m' < m ∧ W (i + 1) m' H') ∧ ∀ x H', J.yld i H x H' → gName j x (wipe σ vs) H' fun σ2 H2 => wipe σ2 vs = wipe σ vs ∧ tt σ2 H2 fun b H3 =>
        if b = true then te σ2 H3 fun y H4 => ∃ acc, H4 D = some (.lst acc) ∧ acc.length < sizeLine ∧ Nx (upd H4 D (.lst (acc ++ [y]))) else Nx H3) := by
  refine lc_it wk (fun i H => Same H1 H ∧ H D = some (.lst (picked i f v))) ⟨same_new hD, upd_same⟩ (fun i H _ p => hG H p.1) (fun i x H H' hi p y => ?_) (fun H p => q H p.1 p.2)
  obtain ⟨rfl, rfl⟩ := y
  obtain ⟨p1, p2⟩ := p
  refine ⟨hw _, ht i _ hi p1 _ fun H3 e3 => ?_⟩
  refine ite2 (fun c => ?_) (fun c => ?_)
  · refine he i H3 hi c (p1.trans e3) _ fun H4 e4 => ?_
    refine ⟨_, e4 _ _ (e3 _ _ p2), ?_, ?_⟩
    · exact Nat.lt_of_le_of_lt (picked_len i f v) (Nat.lt_of_lt_of_le (Nat.lt_of_lt_of_le hi hn) (by decide))
    · exact ⟨same_mut ((p1.trans e3).trans e4) hD, by rw [upd_same, picked_yes c]⟩
  · have c' : f i = false := Bool.eq_false_iff.mpr c
    exact ⟨p1.trans e3, by rw [picked_no c']; exact e3 _ _ p2⟩
/-- a def of the program that is called: where it stands, and what it promises -/
structure Use (P : Program) (w : World) (K : PySem.W.Frag) (mg : Str → Option Value) (base : Heap) (x : Str) (ps : List Str) (k : Nat) (sp : Sp) where
  f : Addr
  fd : FuncData
  ok : FnOk P w K mg base CX0 k f fd ps sp
  m : mg x = some (.ref f)
  kp : PySem.W.keepIn K (.ref f) = true
  b : Binds K fd ps []
end Tl

set_option Elab.async false
set_option linter.all false
set_option maxRecDepth 100000
set_option maxHeartbeats 4000000
/-! Rules of our own: tuple * int of any small count, text * int, enumerate of a tuple, repr of data. -/
namespace Tl
open PySem PySem.Spec PyProof.Rows L2
open AutoSeq1 (wpAny_loadPart')
/-- one way through tuple.__mul__ where the tuple itself comes back -/
theorem mulSame (l : Addr) (items : Array Value) (n : Nat) (dd : Option Addr) (sl : Array (Option Value)) (x : Int) (u : Tok)
    (c0 : (decide (x < -(2 ^ 63)) || decide (x ≥ 2 ^ 63)) = false) (c1 : (items.isEmpty || x == 1) = true) :
    Meets (Builtin.«tuple.__mul__» ⟨[.ref l, .int x u], []⟩) (fun _ R s =>
      s.heap.get? l = some { cls := .type "tuple", dict := dd, data := .seq items n, slots := sl } ∧
        R (.ok (.ret (Value.ref l))) s) :=
  .of_wp fun prog w A R s h => by
    obtain ⟨hp, g, d, tk, os⟩ := s
    obtain ⟨hl, h⟩ := h
    have f1 := AutoSeq1.idx_int
    wp_walk using wpAny_loadPart' hl
    refine wpAny_ite_false (decide_eq_false (by rw [c0]; exact Bool.false_ne_true)) ?_
    wp_walk using wpAny_loadPart' hl
    exact ⟨_, rfl, h⟩
theorem mulNone (l : Addr) (items : Array Value) (n : Nat) (dd : Option Addr) (sl : Array (Option Value)) (x : Int) (u : Tok)
    (c0 : (decide (x < -(2 ^ 63)) || decide (x ≥ 2 ^ 63)) = false) (c1 : (items.isEmpty || x == 1) = false) (c2 : (decide (x ≤ 0) || items.isEmpty) = true) :
    Meets (Builtin.«tuple.__mul__» ⟨[.ref l, .int x u], []⟩) (fun _ R s =>
      s.heap.get? l = some { cls := .type "tuple", dict := dd, data := .seq items n, slots := sl } ∧
        R (.ok (.ret (Value.ref s.heap.objs.size))) { s with heap := s.heap.push { cls := Value.type "tuple", data := Data.seq #[] }, toks := s.toks }) :=
  .of_wp fun prog w A R s h => by
    obtain ⟨hp, g, d, tk, os⟩ := s
    obtain ⟨hl, h⟩ := h
    have f1 := AutoSeq1.idx_int
    wp_walk using wpAny_loadPart' hl
    refine wpAny_ite_false (decide_eq_false (by rw [c0]; exact Bool.false_ne_true)) ?_
    wp_walk using wpAny_loadPart' hl
    exact ⟨_, rfl, h⟩
def rRepA (K : PySem.W.Frag) : R2 := fun x y H Q => ∃ l k xs, x = .ref l ∧ y = .int k ∧ SqT K H l xs ∧ 0 ≤ k ∧ k ≤ 1000 ∧ xs.length ≤ 1000 ∧ (xs = [] ∨ k = 1 → Q (.ref l) H) ∧
  (¬ (xs = [] ∨ k = 1) → ∀ p, H p = none → Q (.ref p) (upd H p (.tup (List.replicate k.toNat xs).flatten)))
theorem op_repA {X : Cx} : OpR X (binaryOp .Mult) (rRepA X.K) := by
  intro pins s σ H x y v u Q I rx ry h
  obtain ⟨l, k, xs, rfl, rfl, hT, h1, h2, hz, q0, q1⟩ := h
  by_cases hc : xs = [] ∨ k = 1
  · cases rx
    obtain ⟨t, rfl⟩ := ry
    obtain ⟨its, r, ⟨⟨cls, dd, data, sl⟩, ho, hcl, n, hd⟩, hs⟩ := I.tuple hT
    simp only at hcl hd
    subst hcl hd
    have c0 : (decide (k < -(2 ^ 63)) || decide (k ≥ 2 ^ 63)) = false := by
      rw [decide_eq_false (by omega), decide_eq_false (by omega)]
      rfl
    have c1 : (its.toArray.isEmpty || k == 1) = true := by
      rcases hc with e | e
      · subst e
        cases r
        rfl
      · rw [e, Bool.or_eq_true]
        exact .inr rfl
    refine wpAny_binaryOp_repeat_ref (T := "tuple") (U := "int") (by decide) ⟨_, ho, rfl⟩ (fun s' => typeIs_int s' k t)
      noFill_tuple_mul F.fills_int_mul F.slot_int_rmul repeat_tuple F.slot_int_index.lookup
      (call_meets F.slot_int_rmul (typeIs_int s k t) F.entry_int_rmul (F.args_int_rmul_2 _ _)
        (int_rmul_tuple k t l its.toArray n dd sl) ⟨ho, rfl, ⟨_, ho, rfl⟩, call_meets F.slot_tuple_mul ⟨_, ho, rfl⟩ F.entry_tuple_mul (F.args_tuple_mul_2 _ _) (mulSame l its.toArray n dd sl k t c0 c1) ⟨ho, ?_⟩⟩)
    exact ⟨.ref l, H, I, rfl, q0 hc⟩
  · by_cases hk : 2 ≤ k
    · exact op_repT pins s σ H _ _ v u Q I rx ry ⟨l, k, xs, rfl, rfl, hT, fun e => hc (.inl e), hk, h2, hz, q1 hc⟩
    · have hk0 : k = 0 := by
        have : ¬ k = 1 := fun e => hc (.inr e)
        omega
      subst hk0
      cases rx
      obtain ⟨t, rfl⟩ := ry
      obtain ⟨its, r, ⟨⟨cls, dd, data, sl⟩, ho, hcl, n, hd⟩, hs⟩ := I.tuple hT
      simp only at hcl hd
      subst hcl hd
      have hi : its.toArray.isEmpty = false := by
        cases r with
        | nil => exact absurd (.inl rfl) hc
        | cons a b => rfl
      have c1 : (its.toArray.isEmpty || (0 : Int) == 1) = false := by rw [hi]; rfl
      refine wpAny_binaryOp_repeat_ref (T := "tuple") (U := "int") (by decide) ⟨_, ho, rfl⟩ (fun s' => typeIs_int s' 0 t)
        noFill_tuple_mul F.fills_int_mul F.slot_int_rmul repeat_tuple F.slot_int_index.lookup
        (call_meets F.slot_int_rmul (typeIs_int s 0 t) F.entry_int_rmul (F.args_int_rmul_2 _ _)
          (int_rmul_tuple 0 t l its.toArray n dd sl) ⟨ho, rfl, ⟨_, ho, rfl⟩, call_meets F.slot_tuple_mul ⟨_, ho, rfl⟩ F.entry_tuple_mul (F.args_tuple_mul_2 _ _) (mulNone l its.toArray n dd sl 0 t (by decide) c1 (by rfl)) ⟨ho, ?_⟩⟩)
      refine ⟨.ref s.heap.objs.size, _, I.laid (t' := s.toks) (o := .tup []) (fun b ob q => Heap.get?_push_of_some _ q) (Nat.le_refl _) ?_, rfl, q1 hc _ (I.hok.fresh (Nat.le_refl _))⟩
      exact ⟨Nat.zero_le _, [], .nil, IsTup.new _ _⟩
/-- text * int -/
def repS (x : Str) (n : Nat) : Str := ⟨(List.replicate n x.cps.toList).flatten.toArray⟩
theorem fold_rep (x : Array Nat) : ∀ (n : Nat) (a : Array Nat), (List.replicate n x).foldl (· ++ ·) a = a ++ (List.replicate n x.toList).flatten.toArray
  | 0, a => by simp
  | n + 1, a => by
    rw [List.replicate_succ, List.foldl_cons, fold_rep x n, List.replicate_succ, List.flatten_cons, Array.append_assoc]
    congr 1
    simp
theorem repS_len (a : Str) (n : Nat) : (repS a n).length = n * a.length := by
  show ((List.replicate n a.cps.toList).flatten.toArray).size = n * a.cps.size
  rw [List.size_toArray, PyProof.Rows.lm_len_rep_flat]
  rfl
theorem op_rep_str {X : Cx} : OpR X (binaryOp .Mult) (fun x y H Q => ∃ (a : Str) (n : Int), x = .str a ∧ y = .int n ∧ a.length = 1 ∧ 0 ≤ n ∧ n ≤ 1000 ∧ Q (.str (repS a n.toNat)) H) := by
  intro pins s σ H x y v u Q I rx ry h
  obtain ⟨a, n, rfl, rfl, ha, h0, h1, q⟩ := h
  obtain ⟨t, rfl⟩ := rx
  obtain ⟨t', rfl⟩ := ry
  refine PySem.P.mul_str ?_ (fun _ _ => ?_) (fun _ _ => ?_) ?_
  · rw [decide_eq_false (by omega), decide_eq_false (by omega)]
    rfl
  · rw [ha]
    rename_i hn _
    have h5 : (2 ^ 63 - 1 : Int) / 1000 ≤ (2 ^ 63 - 1) / n := by
      apply (Int.le_ediv_iff_mul_le (by omega)).mpr
      have h6 : (2 ^ 63 - 1 : Int) / 1000 = 9223372036854775 := by decide
      rw [h6]
      omega
    have h7 : (2 ^ 63 - 1 : Int) / 1000 = 9223372036854775 := by decide
    omega
  · rw [ha, Nat.one_mul]
    unfold Builtin.Str.tooLong
    rw [sizeLine_eq]
    exact decide_eq_false (by omega)
  · have done : ∀ (t2 : Tok) (k2 : Nat), EP X pins σ Q (.str (repS a n.toNat) t2) { s with toks := k2 } := fun t2 k2 => ⟨.str _, H, I.tok k2, ⟨t2, rfl⟩, q⟩
    by_cases c1 : n < 1
    · rw [if_pos c1]
      have e : n.toNat = 0 := by omega
      have e2 : repS a n.toNat = Str.empty := by rw [e]; rfl
      rw [e2] at done
      exact ⟨by decide, done _ _⟩
    · rw [if_neg c1]
      by_cases c2 : (n == 1 || a.length == 0) = true
      · rw [if_pos c2]
        have e : n = 1 := by
          rw [Bool.or_eq_true, ha] at c2
          rcases c2 with c2 | c2
          · exact eq_of_beq c2
          · exact absurd c2 (by decide)
        have e2 : repS a n.toNat = a := by
          rw [e]
          unfold repS
          simp
        rw [e2] at done
        exact done t s.toks
      · rw [if_neg c2]
        have e2 : (⟨(List.replicate n.toNat a.cps).foldl (· ++ ·) #[]⟩ : Str) = repS a n.toNat := by
          unfold repS
          rw [fold_rep]
          simp
        rw [e2]
        refine ⟨?_, done _ _⟩
        rw [repS_len, ha, sizeLine_eq]
        omega
/-! ### enumerate(t), t a tuple -/
set_option maxHeartbeats 4000000 in
theorem enumNew {v : Value} {o : Obj} {Hh : Heap → Prop} (B : Begins v o Hh) :
    Meets (Builtin.«enumerate.__new__» ⟨[.type "enumerate", v], []⟩) (fun _ R s => Hh s.heap ∧
      R (.ok (.ret (.ref (s.heap.push o).objs.size)))
        { s with heap := (s.heap.push o).push { cls := .type "enumerate", data := .fields #[.none, .bool false, .ref s.heap.objs.size, rawInt 0, .none, .none] } }) :=
  .of_wp fun prog w A R s h => by
    obtain ⟨hp, g, d, tk, os⟩ := s
    obtain ⟨h1, h⟩ := h
    have hsub := sub_enumerate
    have it : ∀ {A' : Around} {E : Value → Shared → Prop} {Q : Value → Shared → Prop}, Q (.ref hp.objs.size) ⟨hp.push o, g, d, tk, os⟩ →
        wpAny (model prog w) A' (pyIter v) Q E ⟨hp, g, d, tk, os⟩ := fun q => B.iter prog w _ _ ⟨hp, g, d, tk, os⟩ _ h1 q
    wp_walk using it
    refine wpAny_stack_any fun st => wpAny_pure ?_
    split
    · rename_i c _ _ _ _ _
      cases (c == Value.type "enumerate")
      · wp_walk using it
        exact ⟨_, rfl, h⟩
      · wp_walk using it
        exact ⟨_, rfl, h⟩
    · wp_walk using it
      exact ⟨_, rfl, h⟩
theorem enumTup {prog : Program} {w : World} {A : Around} {E : Value → Shared → Prop} {s : Shared} {l : Addr} {items : Array Value} {Q : Value → Shared → Prop} (hL : s.heap.IsTuple l items)
    (h : ∀ h', IsEnum h' (s.heap.objs.size + 1) s.heap.objs.size 0 .none → h'.IsTupleIter s.heap.objs.size l 0 →
      (∀ b o, s.heap.get? b = some o → h'.get? b = some o) → Q (.ref (s.heap.objs.size + 1)) { s with heap := h' }) :
    wpAny (model prog w) A (call (.type "enumerate") [.ref l]) Q E s := by
  refine callType_new F.called_enumerate (by decide) (F.typeCall_enumerate_1 _) (F.newCall_enumerate_1 _)
    (fun obj => F.args_object_init_2 obj _) F.entry_enumerate_new (enumNew (begins_tuple l items)) ⟨hL, ?_⟩
  have hz : (s.heap.push { cls := .type "tuple_iterator", data := .fields #[.ref l, .int 0 0] }).objs.size = s.heap.objs.size + 1 := Heap.size_push ..
  show _ ∧ _
  rw [hz]
  generalize hk : (s.heap.push { cls := .type "tuple_iterator", data := .fields #[.ref l, .int 0 0] }) = h1 at hz ⊢
  have g0 : h1.get? s.heap.objs.size = some { cls := .type "tuple_iterator", data := .fields #[.ref l, .int 0 0] } := by rw [← hk]; exact Heap.get?_push_size _ rfl
  have g1 := Heap.get?_push_size h1 (o := { cls := .type "enumerate", data := .fields #[.none, .bool false, .ref s.heap.objs.size, rawInt 0, .none, .none] }) rfl
  rw [hz] at g1
  refine ⟨⟨_, g1, rfl⟩, h _ g1 ⟨_, Heap.get?_push_of_some _ g0, rfl, rfl⟩ fun b o x => Heap.get?_push_of_some _ ?_⟩
  rw [← hk]
  exact Heap.get?_push_of_some _ x
def Iet (K : PySem.W.Frag) (a : Addr) : It where
  go := fun i H => ∃ (xs : List V) (x : V), SqT K H a xs ∧ xs[i]? = some x
  yld := fun i H v H' => ∃ T x, v = .ref T ∧ H T = none ∧ H' = upd H T (.tup [.int (i : Nat), x]) ∧ ∀ xs, SqT K H a xs → xs[i]? = some x
  stop := fun i H => ∃ xs : List V, SqT K H a xs ∧ xs.length = i
theorem turnET {P : Program} {w : World} {K : PySem.W.Frag} {elts : List Expr} {kk : Nat} {tpos : Pos} (a e it : Addr) :
    Turn P w K (.Tuple elts kk tpos) (Iet K a) [e, it] e
      (fun i h => (∃ old, IsEnum h e it ((i : Nat) : Int) old) ∧ h.IsTupleIter it a i ∧ e ≠ it) where
  mem := by simp
  obj := fun i h st b hb => by
    obtain ⟨⟨old, he⟩, ⟨o, ho, hc, hd⟩, _⟩ := st
    have hb2 : b = e ∨ b = it := by simpa using hb
    rcases hb2 with rfl | rfl
    · exact ⟨_, he, fun v q => nomatch q⟩
    · exact ⟨o, ho, fun v q => by rw [hd] at q; cases q⟩
  keep := fun i h h' st k => by
    obtain ⟨⟨old, he⟩, hi, hne⟩ := st
    exact ⟨⟨old, k e (by simp) _ he⟩, hi.at fun o q => k it (by simp) o q, hne⟩
  item := by
    intro X hP hw hK hc i pins s σ H E I hf st hg
    subst hP hw hK
    obtain ⟨⟨old, he⟩, hit, hne⟩ := st
    obtain ⟨xs, x, hq, hx⟩ := hg
    obtain ⟨its, rv, p, hz⟩ := I.tuple hq
    obtain ⟨u, hu, ru⟩ := rv.get hx
    have hel : e < s.heap.objs.size := Heap.lt_size he
    have hil : it < s.heap.objs.size := by
      obtain ⟨_, q, _⟩ := hit
      exact Heap.lt_size q
    have hae : a ≠ e := fun z => by
      obtain ⟨o, ho, hcl, _⟩ := p
      rw [z, he] at ho
      cases ho
      have h9 : Value.type "enumerate" = Value.type "tuple" := hcl
      exact absurd h9 (by decide)
    have hai : a ≠ it := fun z => by
      obtain ⟨o, ho, hcl, _⟩ := p
      obtain ⟨o', ho', hcl', _⟩ := hit
      rw [z, ho'] at ho
      cases ho
      rw [hcl'] at hcl
      exact absurd hcl (by decide)
    have hlt : i < its.toArray.size := by
      rw [List.size_toArray]
      exact (List.getElem?_eq_some_iff.mp hu).1
    refine wpAny_pyNext_enum_itemD (Draws.tuple (prog := X.prog) (w := X.w) (A := X.A.in1) (I.ok.hd hc) it a hai its.toArray) he ⟨hit, p⟩ hlt hne (by simp [hne, Ne.symm hae]) fun y h' tk hy ho hst hT hsz hk => ?_
    have ey : y = u := by
      have hu' : its.toArray[i]? = some u := by simpa using hu
      rw [hu'] at hy
      exact (Option.some.inj hy).symm
    subst ey
    refine ⟨_, rfl, wpAny_letOwnedTupleGo_enum (s := { s with heap := h', toks := tk + 1 }) ho fun h'' he' sb => ?_⟩
    have hT2 := (sb.2 _ (Nat.ne_of_gt hel)).trans hT
    have new : ObjOk X.prog X.w (upd H s.heap.objs.size (.tup [.int (i : Nat), x])) h'' s.heap.objs.size (.tup [.int (i : Nat), x]) :=
      ⟨by show 2 ≤ sizeLine; decide, [.int i tk, y], .cons ⟨_, rfl⟩ (.cons ru .nil), ⟨_, hT2, rfl, _, rfl⟩⟩
    have I1 : Inv X pins σ (upd H s.heap.objs.size (.tup [.int (i : Nat), x])) { s with heap := h'', toks := tk + 1 } :=
      I.turnedNew (ch := [e, it]) (fun b ob hb q => (sb.2 b fun z => hb (by simp [z])).trans
        (hk b ob (fun z => hb (by simp [z])) (fun z => hb (by simp [z])) q)) hf (Nat.le_refl _) new
    refine ⟨.ref s.heap.objs.size, _, I1, rfl, ⟨_, x, rfl, I.hok.fresh (Nat.le_refl _), rfl, fun ys hy => by rw [I.tuple_inj hy hq]; exact hx⟩, ⟨⟨y, ?_⟩, hst.1.at fun o q => (sb.2 it (Ne.symm hne)).trans q, hne⟩, fun b hb => ?_⟩
    · rw [show ((i + 1 : Nat) : Int) = (i : Int) + 1 by omega]
      exact he'
    · have hb2 : b = e ∨ b = it := by simpa using hb
      have hb3 : b < s.heap.objs.size := by
        rcases hb2 with rfl | rfl
        · exact hel
        · exact hil
      rw [upd_ne (Nat.ne_of_lt hb3)]
      exact (hf b hb).1
  done := by
    intro X hP hw hK hc i pins s σ H E I hf st hg
    subst hP hw hK
    obtain ⟨⟨old, he⟩, hit, hne⟩ := st
    obtain ⟨xs, hq, hx⟩ := hg
    obtain ⟨its, rv, p, hz⟩ := I.tuple hq
    obtain ⟨f0, f1, f2, f3, f4, f5⟩ := hf it (by simp)
    have hai : a ≠ it := fun z => by
      obtain ⟨o, ho, hcl, _⟩ := p
      obtain ⟨o', ho', hcl', _⟩ := hit
      rw [z, ho'] at ho
      cases ho
      rw [hcl'] at hcl
      exact absurd hcl (by decide)
    have hn : its.toArray.size = i := by rw [List.size_toArray, ← rv.length, hx]
    have hst : s.heap.IsTupleIter it a its.toArray.size ∧ s.heap.IsTuple a its.toArray := ⟨by rw [hn]; exact hit, p⟩
    exact wpAny_pyNext_enum_endD (Draws.tuple (prog := X.prog) (w := X.w) (A := X.A.in1) (I.ok.hd hc) it a hai its.toArray) he hst fun h' eb => ⟨rfl, I.turned (t' := s.toks) (fun b o hb q => eb b o hb q) f0 f1 f3 f4 f5⟩
  self := fun A i s Q E st h => by
    obtain ⟨⟨_, he⟩, _⟩ := st
    exact wpAny_pyIter_enum he h
def iEnumT (K : PySem.W.Frag) (ta : TA) : TI := fun σ H R => ta σ H fun vs H1 => ∃ a xs, vs = [.ref a] ∧ SqT K H1 a xs ∧ R (Iet K a) H1
theorem pi_enumT {X : Cx} {e : Expr} {ta : TA} {p pos tpos : Pos} {elts : List Expr} {kk : Nat} (hg : Gl X "enumerate") (hm : X.mg "enumerate" = none)
    (ha : PA X [e] ta) (hs : starEach [e] X.env = [(false, eval e X.env)] := by rfl) : PI X (.Tuple elts kk tpos) (.Call (.Name "enumerate" p) [e] [] pos) (iEnumT X.K ta) := by
  refine ⟨fun pins s σ H R I h => ?_⟩
  refine Call_ (ld_blt I hg hm boot_enumerate (callWith_type1
    (thn (ha.run pos pins s σ H _ I h) fun us s1 ⟨vs, H1, I1, r1, q1⟩ => ?_) hs rfl))
  obtain ⟨a, xs, ex, hq, q⟩ := q1
  subst ex
  cases r1 with
  | cons r rr =>
    cases rr
    cases r
    obtain ⟨its, rv, p', hz⟩ := I1.tuple hq
    refine enumTup p' fun h' he hit hk => wpAny_pyIter_enum he ?_
    have I2 : Inv X pins σ H1 { s1 with heap := h' } := I1.kept (t' := s1.toks) hk
    refine ⟨s1.heap.objs.size + 1, [s1.heap.objs.size + 1, s1.heap.objs.size], _, _, H1, rfl, I2,
      turnET a (s1.heap.objs.size + 1) s1.heap.objs.size, ⟨⟨.none, he⟩, hit, Nat.succ_ne_self _⟩, fun b hb => ?_, q⟩
    have hle : s1.heap.objs.size ≤ b := by
      have hb2 : b = s1.heap.objs.size + 1 ∨ b = s1.heap.objs.size := by simpa using hb
      rcases hb2 with z | z
      · rw [z]
        exact Nat.le_add_right _ _
      · rw [z]
        exact Nat.le_refl _
    exact I1.fpOk hle (I1.hok.fresh hle)
theorem walk_enumT {K : PySem.W.Frag} {a : Addr} {xs : List V} : Walk (Iet K a) xs.length (fun H => SqT K H a xs)
    (fun i H v H' => ∃ T x, v = .ref T ∧ H T = none ∧ H' = upd H T (.tup [.int (i : Nat), x]) ∧ xs[i]? = some x) := by
  refine ⟨fun i _ hi q => ⟨xs, xs[i], q, by simp [hi]⟩, fun _ q => ⟨xs, q, rfl⟩, fun i H v H' _ q y => ?_⟩
  obtain ⟨T, x, h1, h2, h3, h4⟩ := y
  exact ⟨T, x, h1, h2, h3, h4 xs q⟩
/-! ### repr of data -/
def rReprD (K : PySem.W.Frag) : List V → Hp → VK → Prop := fun vs H Q => ∃ (v : V) (d : PyData), vs = [v] ∧ Dt K H v d ∧ d.showable = true ∧ d.depth ≤ 100 ∧ d.shown.length ≤ sizeLine ∧ Q (.str d.shown) H
mutual
theorem noD {K : PySem.W.Frag} {H : Hp} : ∀ (d : PyData) {v : V}, Dp K H v d → d.hasDict = false
  | .none, _, _ => rfl
  | .bool _, _, _ => rfl
  | .int _, _, _ => rfl
  | .str _, _, _ => rfl
  | .list ds, _, h => by
    cases h with
    | lst _ ha => rw [PyData.hasDict]; exact noDAll ds ha
  | .tuple ds, _, h => by
    cases h with
    | tup _ ha => rw [PyData.hasDict]; exact noDAll ds ha
  | .dict _, _, h => by cases h
theorem noDAll {K : PySem.W.Frag} {H : Hp} : ∀ (ds : List PyData) {vs : List V}, DpAll K H vs ds → PyData.hasDictAll ds = false
  | [], _, _ => rfl
  | d :: ds, _, h => by
    cases h with
    | cons h1 h2 => rw [PyData.hasDictAll, noD d h1, noDAll ds h2]; rfl
end
theorem call_reprD {X : Cx} (hg : X.A.guards = some []) (hu : X.A.units + 200 < cLine) : CallR X (.builtin "repr") (rReprD X.K) := by
  intro pins s σ H vs us Q I r h
  obtain ⟨v, d, rfl, hd, hs, hdp, hz, q⟩ := h
  cases r with
  | cons r1 rr =>
    cases rr
    rename_i u
    cases hd with
    | d hd =>
      obtain ⟨as, hR⟩ := Dp.reads I d v u hd r1
      have fin : ∀ (t' : Tok) (k : Nat), EP X pins σ Q (.str d.shown t') { s with toks := k } := fun t' k => ⟨.str _, H, I.tok k, ⟨t', rfl⟩, q⟩
      cases hd with
      | non =>
        cases (show u = Value.none from r1)
        exact PySem.P.repr_of_none (fin _ _)
      | bl b =>
        cases (show u = Value.bool b from r1)
        refine PySem.P.repr_of_bool ?_
        have := fin s.toks (s.toks + 1)
        cases b <;> exact this
      | int i =>
        obtain ⟨t', rfl⟩ := r1
        exact PySem.P.repr_of_int (of_decide_eq_true hs) (fin _ _)
      | str x =>
        obtain ⟨t', rfl⟩ := r1
        exact PySem.P.repr_of_str (fin _ _) hz
      | @lst a xs ds hs2 ha =>
        cases (show u = Value.ref a from r1)
        have hnd : (PyData.list ds).hasDict = true → sysModules ∉ as := PyData.noDict_hsm (noD _ (.lst hs2 ha))
        exact repr_of_reads' hR hs hnd hg (by omega) (fun b o e => e) (fun h' t' tk hk => ⟨.str _, H, I.kept (t' := tk) hk, ⟨t', rfl⟩, q⟩) hz
      | @tup a xs ds hs2 ha =>
        cases (show u = Value.ref a from r1)
        have hnd : (PyData.tuple ds).hasDict = true → sysModules ∉ as := PyData.noDict_hsm (noD _ (.tup hs2 ha))
        exact repr_of_reads' hR hs hnd hg (by omega) (fun b o e => e) (fun h' t' tk hk => ⟨.str _, H, I.kept (t' := tk) hk, ⟨t', rfl⟩, q⟩) hz
    | @e a hd =>
      cases (show u = Value.ref a from r1)
      obtain ⟨hz2, hsm, vs, hkv, o, es, ep, h1, h2, h3⟩ := (show ObjOk X.prog X.w H s.heap a (.dK []) from I.hok a _ hd)
      cases hkv
      have hes : es.toList = [] := by
        have hp := h3.2.2.1
        generalize es.toList = l at hp
        cases hp
        rfl
      have hR : Reads s.heap (.ref a) (.dict []) (a :: [] ++ []) := Reads.dict h1 h2.1 h3.1 (by rw [hes]; exact .nil) (by rw [hes]; exact .nil)
      have hne : ¬ a = sysModules := fun z => by rw [z] at hsm; simp at hsm
      exact repr_of_reads' hR hs (fun _ z => hne (by simpa using Eq.symm (by simpa using z))) hg (by omega) (fun b o e => e) (fun h' t' tk hk => ⟨.str _, H, I.kept (t' := tk) hk, ⟨t', rfl⟩, q⟩) hz
end Tl

set_option Elab.async false
set_option linter.all false
set_option maxRecDepth 100000
set_option maxHeartbeats 4000000
/-! Data that is good to be shown: short texts, small numbers; how long its text can be. -/
namespace Tl
open PySem L2
mutual
def wt : PyData → Nat
  | .none => 4
  | .bool _ => 5
  | .int _ => 1930
  | .str s => 10 * s.length + 4
  | .list ds => 3 + wtAll ds
  | .tuple ds => 3 + wtAll ds
  | .dict _ => 2
def wtAll : List PyData → Nat
  | [] => 0
  | d :: ds => wt d + 2 + wtAll ds
end
mutual
def gd : PyData → Bool
  | .none => true
  | .bool _ => true
  | .int i => decide (i.natAbs < 10 ^ 41)
  | .str s => decide (s.length ≤ 1000) && PyData.strOk s
  | .list ds => gdAll ds
  | .tuple ds => gdAll ds
  | .dict _ => false
def gdAll : List PyData → Bool
  | [] => true
  | d :: ds => gd d && gdAll ds
end
mutual
theorem gd_txt : ∀ d : PyData, gd d = true → txt d = true
  | .none, _ => rfl
  | .bool _, _ => rfl
  | .int _, _ => rfl
  | .str s, h => by rw [gd] at h; rw [txt]; exact h
  | .list ds, h => by rw [gd] at h; rw [txt]; exact gdAll_txt ds h
  | .tuple ds, h => by rw [gd] at h; rw [txt]; exact gdAll_txt ds h
  | .dict _, h => Bool.noConfusion h
theorem gdAll_txt : ∀ ds : List PyData, gdAll ds = true → txtAll ds = true
  | [], _ => rfl
  | d :: ds, h => by
    rw [gdAll, Bool.and_eq_true] at h
    rw [txtAll, gd_txt d h.1, gdAll_txt ds h.2]
    rfl
end
theorem big41 : (10 : Nat) ^ 41 ≤ 2 ^ 1920 := Nat.le_trans (show (10 : Nat) ^ 41 ≤ 2 ^ 200 by decide) (Nat.pow_le_pow_right (by decide) (by decide))
mutual
theorem gd_show : ∀ d : PyData, gd d = true → d.showable = true
  | .none, _ => rfl
  | .bool _, _ => rfl
  | .int i, h => by
    rw [gd] at h
    have h2 : i.natAbs < 10 ^ 41 := of_decide_eq_true h
    rw [PyData.showable]
    apply decide_eq_true
    by_cases h0 : i.natAbs = 0
    · rw [h0]; decide
    · exact (Nat.log2_lt h0).mpr (Nat.lt_of_lt_of_le h2 big41)
  | .str s, h => rfl
  | .list ds, h => by rw [gd] at h; rw [PyData.showable]; exact gdAll_show ds h
  | .tuple ds, h => by rw [gd] at h; rw [PyData.showable]; exact gdAll_show ds h
  | .dict _, h => Bool.noConfusion h
theorem gdAll_show : ∀ ds : List PyData, gdAll ds = true → PyData.showableAll ds = true
  | [], _ => rfl
  | d :: ds, h => by
    rw [gdAll, Bool.and_eq_true] at h
    rw [PyData.showableAll, gd_show d h.1, gdAll_show ds h.2]
    rfl
end
theorem textFrom_le : ∀ (ts : List Str) (k : Nat) (acc : Str), (textFrom k acc ts).length ≤ acc.length + piled ts
  | [], k, acc => by rw [piled_nil]; exact Nat.le_refl _
  | t :: r, k, acc => by
    have ih := textFrom_le r (k + 1) (acc ++ (if k > 0 then ", " else "" : String) ++ t)
    have e : (acc ++ (if k > 0 then ", " else "" : String) ++ t).length ≤ acc.length + 2 + t.length := by
      rw [strLen_append, strLen_append]
      have : ((if k > 0 then ", " else "" : String) : Str).length ≤ 2 := by split <;> decide +kernel
      omega
    show (textFrom (k + 1) _ r).length ≤ _
    rw [piled_cons]
    omega
theorem listText_le (ts : List Str) : (listText ts).length ≤ piled ts + 2 := by
  unfold listText
  rw [strLen_append]
  have h := textFrom_le ts 0 "["
  have e1 : ((("[" : String) : Str)).length = 1 := rfl
  have e2 : ((("]" : String) : Str)).length = 1 := rfl
  rw [e1] at h
  rw [e2]
  omega
mutual
theorem shown_le : ∀ d : PyData, gd d = true → d.shown.length ≤ wt d
  | .none, _ => by decide +kernel
  | .bool true, _ => by decide +kernel
  | .bool false, _ => by decide +kernel
  | .int i, h => by
    rw [gd] at h
    have h2 : i.natAbs < 10 ^ 41 := of_decide_eq_true h
    have h4 : i.natAbs.log2 < 1920 := by
      by_cases h0 : i.natAbs = 0
      · rw [h0]; decide
      · exact (Nat.log2_lt h0).mpr (Nat.lt_of_lt_of_le h2 big41)
    have h3 := PyProof.Rows.int_text_len_1921 h4
    show (Str.ofString (toString i)).length ≤ 1930
    omega
  | .str s, h => by
    rw [gd, Bool.and_eq_true] at h
    have h2 := h.2
    rw [PyData.strOk, ← Array.all_toList, List.all_eq_true] at h2
    have h3 := StrLaws.reprText_len s fun c hc => Nat.lt_of_lt_of_le (of_decide_eq_true (h2 c hc)) (by decide)
    show (reprText s).length ≤ 10 * s.length + 4
    omega
  | .list ds, h => by
    rw [gd] at h
    have h2 := shownAll_le ds h
    have h3 := listText_le (PyData.shownAll ds)
    show (listText (PyData.shownAll ds)).length ≤ 3 + wtAll ds
    omega
  | .tuple ds, h => by
    rw [gd] at h
    have h2 := shownAll_le ds h
    have h3 := fmt_text (PyData.shownAll ds)
    show (tupleText (PyData.shownAll ds)).length ≤ 3 + wtAll ds
    omega
  | .dict _, h => Bool.noConfusion h
theorem shownAll_le : ∀ ds : List PyData, gdAll ds = true → piled (PyData.shownAll ds) ≤ wtAll ds
  | [], _ => Nat.le_refl _
  | d :: ds, h => by
    rw [gdAll, Bool.and_eq_true] at h
    have h1 := shown_le d h.1
    have h2 := shownAll_le ds h.2
    rw [PyData.shownAll, piled_cons, wtAll]
    omega
end
theorem gdAll_get : ∀ {ds : List PyData} {i : Nat} {d : PyData}, gdAll ds = true → ds[i]? = some d → gd d = true ∧ wt d + 2 ≤ wtAll ds ∧ d.depth ≤ PyData.depthAll ds
  | [], _, _, _, e => by simp at e
  | a :: r, 0, d, h, e => by
    rw [gdAll, Bool.and_eq_true] at h
    simp at e
    subst e
    rw [wtAll, PyData.depthAll]
    exact ⟨h.1, by omega, Nat.le_max_left _ _⟩
  | a :: r, i + 1, d, h, e => by
    rw [gdAll, Bool.and_eq_true] at h
    obtain ⟨h1, h2, h3⟩ := gdAll_get (i := i) h.2 (by simpa using e)
    rw [wtAll, PyData.depthAll]
    exact ⟨h1, by omega, Nat.le_trans h3 (Nat.le_max_right _ _)⟩
theorem gdAll_app : ∀ {ds es : List PyData}, gdAll (ds ++ es) = (gdAll ds && gdAll es)
  | [], es => by rw [List.nil_append, gdAll, Bool.true_and]
  | a :: r, es => by rw [List.cons_append, gdAll, gdAll, gdAll_app, Bool.and_assoc]
theorem wtAll_app : ∀ {ds es : List PyData}, wtAll (ds ++ es) = wtAll ds + wtAll es
  | [], es => by rw [List.nil_append, wtAll, Nat.zero_add]
  | a :: r, es => by rw [List.cons_append, wtAll, wtAll, wtAll_app]; omega
theorem depthAll_app : ∀ {ds es : List PyData}, PyData.depthAll (ds ++ es) = max (PyData.depthAll ds) (PyData.depthAll es)
  | [], es => by rw [List.nil_append, PyData.depthAll]; omega
  | a :: r, es => by rw [List.cons_append, PyData.depthAll, PyData.depthAll, depthAll_app]; omega
theorem gdAll_rep {ds : List PyData} (h : gdAll ds = true) : ∀ n, gdAll (List.replicate n ds).flatten = true
  | 0 => rfl
  | n + 1 => by rw [List.replicate_succ, List.flatten_cons, gdAll_app, h, gdAll_rep h n]; rfl
theorem wtAll_rep (ds : List PyData) : ∀ n, wtAll (List.replicate n ds).flatten = n * wtAll ds
  | 0 => by rw [Nat.zero_mul]; rfl
  | n + 1 => by rw [List.replicate_succ, List.flatten_cons, wtAll_app, wtAll_rep ds n, Nat.succ_mul]; omega
theorem depthAll_rep (ds : List PyData) : ∀ n, PyData.depthAll (List.replicate n ds).flatten ≤ PyData.depthAll ds
  | 0 => Nat.zero_le _
  | n + 1 => by
    have := depthAll_rep ds n
    rw [List.replicate_succ, List.flatten_cons, depthAll_app]
    omega
theorem depthAll_le {ds : List PyData} {m : Nat} : (∀ d ∈ ds, d.depth ≤ m) → PyData.depthAll ds ≤ m := by
  induction ds with
  | nil => intro _; exact Nat.zero_le _
  | cons a r ih =>
    intro h
    rw [PyData.depthAll]
    have h1 := h a List.mem_cons_self
    have h2 := ih fun d hd => h d (List.mem_cons_of_mem _ hd)
    omega
theorem gdAll_of {ds : List PyData} : (∀ d ∈ ds, gd d = true) → gdAll ds = true := by
  induction ds with
  | nil => intro _; rfl
  | cons a r ih =>
    intro h
    rw [gdAll, h a List.mem_cons_self, ih fun d hd => h d (List.mem_cons_of_mem _ hd)]
    rfl
theorem len_wt : ∀ ds : List PyData, 2 * ds.length ≤ wtAll ds
  | [] => Nat.zero_le _
  | a :: r => by
    have := len_wt r
    rw [wtAll, List.length_cons]
    omega

/-! ### trees -/
def tags6 : List Str := ["a", "b", "ab", "zz", "abcdefgh", "z"]
def tagOk (s : Str) : Prop := 1 ≤ s.length ∧ s.length ≤ 8 ∧ (PyData.strOk s = true ∧ s ∈ tags6)
def TrD : Nat → PyData → Prop
  | 0, _ => False
  | h + 1, d => ∃ (s : Str) (ks : List PyData), d = .tuple [.str s, .tuple ks] ∧ tagOk s ∧ ∀ k ∈ ks, TrD h k
theorem TrD.mono : ∀ {h h' : Nat} {d : PyData}, h ≤ h' → TrD h d → TrD h' d
  | 0, _, _, _, t => t.elim
  | h + 1, 0, _, e, _ => by omega
  | h + 1, h' + 1, d, e, t => by
    obtain ⟨s, ks, rfl, a, b⟩ := t
    exact ⟨s, ks, rfl, a, fun k hk => TrD.mono (by omega) (b k hk)⟩
theorem gd_tag {s : Str} (h : tagOk s) : gd (.str s) = true := by
  rw [gd, h.2.2.1, decide_eq_true (by have := h.2.1; omega)]
  rfl
theorem TrD.gd : ∀ {h : Nat} {d : PyData}, TrD h d → gd d = true ∧ d.depth ≤ 2 * h
  | 0, _, t => t.elim
  | h + 1, d, t => by
    obtain ⟨s, ks, rfl, a, b⟩ := t
    have g1 : gdAll ks = true := gdAll_of fun k hk => (TrD.gd (b k hk)).1
    have g2 : PyData.depthAll ks ≤ 2 * h := depthAll_le fun k hk => (TrD.gd (b k hk)).2
    refine ⟨?_, ?_⟩
    · rw [Tl.gd, gdAll, gdAll, gdAll, gd_tag a, Tl.gd, g1]
      rfl
    · simp only [PyData.depth, PyData.depthAll]
      omega
theorem wt_node (s : Str) (ks : List PyData) : wt (.tuple [.str s, .tuple ks]) = 10 * s.length + 14 + wtAll ks := by
  simp only [wt, wtAll]
  omega

/-! ### the heap: data in F within H, the source of numbers at st -/
structure Gw (F H F' H' : Hp) : Prop where
  ff : Same F F'
  fh : Same F' H'
  hh : Same H H'
  nw : ∀ b, H b ≠ none → F b = none → F' b = none
theorem Gw.refl {F H : Hp} (e : Same F H) : Gw F H F H := ⟨Same.refl _, e, Same.refl _, fun _ _ h => h⟩
theorem Gw.trans {F H F1 H1 F2 H2 : Hp} (a : Gw F H F1 H1) (b : Gw F1 H1 F2 H2) : Gw F H F2 H2 :=
  ⟨a.ff.trans b.ff, b.fh, a.hh.trans b.hh, fun x h1 h2 => b.nw x (fun z => h1 (a.hh.free z)) (a.nw x h1 h2)⟩
theorem Gw.new {F H : Hp} {p : Addr} {o : HO} (e : Same F H) (h : H p = none) : Gw F H (upd F p o) (upd H p o) := by
  refine ⟨same_new (e.free h), fun b u q => ?_, same_new h, fun b h1 h2 => ?_⟩
  · by_cases z : b = p
    · subst z
      rw [upd_same] at q ⊢
      exact q
    · rw [upd_ne z] at q ⊢
      exact e b u q
  · rw [upd_ne (fun z => h1 (by rw [z]; exact h))]
    exact h2
theorem Gw.temp {F H : Hp} {p : Addr} {o : HO} (e : Same F H) (h : H p = none) : Gw F H F (upd H p o) :=
  ⟨Same.refl _, same_mut e (e.free h), same_new h, fun _ _ h2 => h2⟩
theorem Gw.more {F H F1 H1 H2 : Hp} (a : Gw F H F1 H1) (b : Same H1 H2) : Gw F H F1 H2 := ⟨a.ff, a.fh.trans b, a.hh.trans b, a.nw⟩
end Tl

set_option Elab.async false
set_option linter.all false
set_option maxRecDepth 100000
set_option maxHeartbeats 4000000
namespace Tl
open PySem PySem.Spec PyProof.Rows L2
/-! An exception that a suite has put into another name, and that is looked at behind the try. -/
/-- the caught thing at a, of the class cls, its dict d -/
def CgO (cls : Value) (d : Option Addr) (a : Addr) : HO := .ext fun h => ∃ (oe : Obj) (vs : Array Value), h.get? a = some oe ∧ Zc cls d oe ∧ oe.data = .fields vs
theorem cg_ok {P : Program} {w : World} {H : Hp} {h : Heap} {a : Addr} {cls : Value} {d : Option Addr} {oe : Obj} {vs : Array Value} (e : h.get? a = some oe) (z : Zc cls d oe) (q : oe.data = .fields vs) : ObjOk P w H h a (CgO cls d a) :=
  ⟨⟨oe, vs, e, z, q⟩, ⟨oe, e⟩, fun _ _ ⟨o, v, p, r⟩ k => ⟨o, v, k o p, r⟩⟩
/-- what was there, and not ours to track, is tracked from now on -/
theorem take_up {X : Cx} {pins : List (Addr × Obj)} {σ : L2.St} {H : Hp} {s : Shared} {a : Addr} {o : HO} {oe : Obj} {vs : Array Value} (J : Inv X pins σ H s) (hn : H a = none) (h0 : X.s_0.heap.get? a = none) (nL : a ≠ X.env.locals)
    (np : ∀ p ∈ X.pn ++ pins, p.1 ≠ a) (ho : s.heap.get? a = some oe) (hd : oe.data = .fields vs) (new : ObjOk X.prog X.w (upd H a o) s.heap a o) : Inv X pins σ (upd H a o) s where
  ok := J.ok
  os := J.os
  bare := J.bare
  base := ⟨J.base.keep, J.base.slot, fun b u q n x => by rw [upd_ne (fun z => by rw [z, h0] at q; cases q)]; exact J.base.free b u q n x, J.base.there,
    fun b xs q => by rw [upd_ne (ne_of_none (J.base.tups b xs q) hn)]; exact J.base.tups b xs q,
    fun b u xs q => by rw [upd_ne (ne_of_none (J.base.frzs b u xs q) hn)]; exact J.base.frzs b u xs q,
    fun b ps q => by
      obtain ⟨m, e⟩ := J.base.tbls b ps q
      exact ⟨m, by rw [upd_ne (ne_of_none e hn)]; exact e⟩⟩
  loc := J.loc
  cell := J.cell
  free := by rw [upd_ne (Ne.symm nL)]; exact J.free
  freeC := fun x c q => by
    obtain ⟨v, hv⟩ := J.cell x c q
    rw [upd_ne]
    · exact J.freeC x c q
    · rintro rfl
      obtain ⟨oc, e1, e2⟩ := hv
      rw [ho] at e1
      cases e1
      simp_all
  pin := fun p hp => by
    obtain ⟨q1, q2, q3⟩ := J.pin p hp
    exact ⟨q1, by rw [upd_ne (np p hp)]; exact q2, q3⟩
  hok := J.hok.laidN (fun _ _ q => q) hn new
  len := J.len
/-- what 'except x as n' wishes of the body, the caught thing looked at behind -/
def wKeep (K : PySem.W.Frag) (c : Value) (i : Nat) (ts : Addr → Value → Option Addr → TS) (Wout : WX) (D : Ends) : WX := fun cls d σ H =>
  ∃ yes, PySem.W.exmOne K cls c = some yes ∧
    (yes = true → ∀ a, H a = none →
      ts a cls d ⟨fun σ' H' => D.nx (σ'.set i none) (upd H' a (CgO cls d a)), D.rt, fun σ' H' => D.bk (σ'.set i none) H', fun σ' H' => D.ct (σ'.set i none) H'⟩ (σ.set i (some (.ref a))) H) ∧
    (yes = false → Wout cls d σ H)
section
variable {X : Cx} {x n : Str} {c : Value} {i : Nat} {bd su : List Stmt} {s0 : Stmt} {np ps pt : Pos} {tb : WX → TS} {ts : Addr → Value → Option Addr → TS} {Wout : WX}
/-- the end of the try where its body has raised -/
theorem keep_catch (hs : X.stack = X.env :: X.outer) (hf : X.env.frame = some X.env.locals) (hex : X.ex = []) (hN : X.N.Nodup) (hi : X.N[i]? = some n) (hln : X.env.kindOf n = some .local) (hc : Names X x c) (tk : Takes X Wout)
    (hsu : ∀ (a : Addr) (oe : Obj) (cls : Value) (d : Option Addr) (pn : List (Addr × Obj)), Zc cls d oe → (∃ vs, oe.data = .fields vs) → PSs (X.suite a ((a, oe) :: pn)) (s0 :: su) (ts a cls d))
    {pins pn' : List (Addr × Obj)} {xe' : Value → Shared → Prop} {D : Ends} {u : Value} {t : Shared} (ok : X.Ok) (xx : XE (X.tr (X.pn ++ pins) xe') (wKeep X.K c i ts Wout D) u t) :
    wpAny (model X.prog X.w) X.A (noteFrame u X.env) (fun _ t2 => wpAny (model X.prog X.w) X.A (setFlight u none) (fun _ t3 =>
      wpAny (model X.prog X.w) X.A (handleBy u X.env [.ExceptHandler (some (.Name x np)) (some n) (s0 :: su) ps]) (SP X pins D) X.xe t3) X.xe t2) X.xe t := by
  obtain ⟨a, B, t0, _, τ, G, cls, d, rfl, J0, nb, up, sky, na, os, ag, yes, hy, hyes, hno⟩ := xx
  have J : Inv X pins τ G t0 := by
    have := J0.ofTry ok
    exact this
  have frames : X.A.frames = some (X.env :: X.outer) := by rw [ok.frames, hs]
  have sky1 : Sky B (X.env :: X.outer) a (Zc cls d) X.env.locals t.heap := hs ▸ sky
  have nB : B.get? a = none := by
    rcases sky1 with q | q | q
    · exact q.2.1
    · exact q.2.1
    · exact q.2.1
  refine Sky.land Zc.steady frames hf sky1 fun hA flA upA => ?_
  have JA : Inv X pins τ G { t with heap := hA } := J.landed nb flA.1 (up.trans upA) os ag
  obtain ⟨oA, vA, gA, zA, dA⟩ := flA.there
  -- no frame, so no object of the state ahead
  have far : a ∉ frs (X.env :: X.outer) := fun m => by
    obtain ⟨_, o2, g2, no⟩ := flA.2.2.1.mem m
    have e2 : oA = o2 := Option.some.inj (gA.symm.trans g2)
    exact no _ (e2 ▸ dA)
  have nL : a ≠ X.env.locals := fun z => far (List.mem_filterMap.mpr ⟨_, List.mem_cons_self, by rw [hf, z]⟩)
  have nF : a ∉ X.fs := fun m => by
    obtain ⟨e, me, qe⟩ := List.mem_filterMap.mp m
    exact far (List.mem_filterMap.mpr ⟨e, .tail _ me, qe⟩)
  have n0 : t0.heap.get? a = none := by
    cases e : t0.heap.get? a with
    | none => rfl
    | some o =>
      have := nb a o e (by show a ∉ frs X.stack; rw [hs]; exact far)
      rw [nB] at this
      cases this
  have ns : X.s_0.heap.get? a = none := by
    cases e : X.s_0.heap.get? a with
    | none => rfl
    | some o =>
      obtain ⟨o', e'⟩ := J.base.there a o e (by rw [hex]; exact List.not_mem_nil)
      rw [n0] at e'
      cases e'
  have npin : ∀ p ∈ X.pn ++ pins, p.1 ≠ a := fun p hp z => by
    have := (J.pin p hp).1
    rw [z, n0] at this
    cases this
  have SA := JA.suite gA dA na nL nF
  refine wpAny_handleBy_cons (codeAny_handlers_test ?_) (fun q => nomatch q)
  have fits := PySem.W.exm_one (M := model X.prog X.w) JA.kIn (fun A Q E r k q => wpAny_typeOf_ref (k _ _ gA) (by rw [zA.1]; exact q)) hy
  have name : ∀ {Q : Value → Shared → Prop} {E : Value → Shared → Prop}, Q c { t with heap := hA } → wpAny (model X.prog X.w) (X.A.mark (some (.ref a))) (eval (.Name x np) X.env) Q E { t with heap := hA } := by
    intro Q E q
    rcases hc with ⟨g, db, m | ⟨m, v, nn⟩⟩
    · exact ld_glob (X := X.suite a ((a, oA) :: (X.pn ++ pins))) SA g m q db
    · exact ld_blt (X := X.suite a ((a, oA) :: (X.pn ++ pins))) SA g m v q nn db
  refine name (fits.here ?_)
  cases yes with
  | false =>
    show wpAny _ X.A (handleBy (.ref a) X.env []) _ _ _
    refine wpAny_handleBy_nil ?_
    obtain ⟨_, _, _, o5, v5, tr, _, _, g5, _, d5, h5, _⟩ := id flA
    unfold PySem.passOn
    refine wpAny_bind (wpAny_field g5 d5 h5 ?_)
    rw [if_neg (by simp)]
    have last : wpAny (model X.prog X.w) X.A (setFlight (.ref a) X.env.frame) (fun _ t4 => wpAny (model X.prog X.w) X.A (throw (.ref a) : Sem Flow) (SP X pins D) X.xe t4) X.xe { t with heap := hA } := by
      rw [hf]
      refine HandSPX.setFlight_upZ flA fun h6 hl6 up6 => wpAny_throw (tk _ _ ⟨a, B, t0, pins, τ, G, cls, d, rfl, J, nb, (up.trans upA).trans up6, ?_, na, os, ag, hno rfl⟩)
      rw [hs]
      exact .inr (.inr hl6)
    first
      | exact wpAny_bind (wpAny_pure (wpAny_bind last))
      | exact wpAny_bind last
  | true =>
    refine codeAny_handlers_suite_as (HandSPX.lands_againZ flA fun hC flC upC => ?_)
    have JC : Inv X pins τ G { t with heap := hC } := J.landed nb flC.1 ((up.trans upA).trans upC) os ag
    obtain ⟨oC, vC, gC, zC, dC⟩ := flC.there
    refine store_ok (X := X.suite a ((a, oC) :: (X.pn ++ pins))) (v := .ref a) (JC.suite gC dC na nL nF) hN hi (.inl hln) rfl (fun t5 S5 => ?_) (.inr hln)
    refine wpAny_mono ((hsu a oC cls d (X.pn ++ pins) zC ⟨_, dC⟩).run [] t5 _ G _ S5 (hyes rfl a na)) (fun f t6 got => ?_) (fun _ _ z => z.elim)
    have plain : ∀ {τ6 : L2.St} {G6 : Hp} {Q : Shared → Prop}, Inv (X.suite a ((a, oC) :: (X.pn ++ pins))) [] τ6 G6 t6 → (∀ t7, Inv X pins (τ6.set i none) G6 t7 → Q t7) →
        wpAny (model X.prog X.w) X.A (do bindName X.env n .none; unbindBehindTheSuite X.env n ps) (fun _ t7 => Q t7) X.xe t6 := fun S q => gone_ok (S.unsuite ok) hN hi hln q
    cases f with
    | next =>
      obtain ⟨τ6, G6, S6, q6⟩ := got
      obtain ⟨p1, p2, _⟩ := S6.pin (a, oC) (List.mem_append_left _ List.mem_cons_self)
      have T6 := take_up (o := CgO cls d a) (S6.unsuite ok) p2 ns nL npin p1 dC (cg_ok p1 zC dC)
      exact gone_ok T6 hN hi hln fun t7 J7 => ⟨_, _, J7, q6⟩
    | brk =>
      obtain ⟨_, _, S6, q6⟩ := got
      exact plain S6 fun _ J7 => ⟨_, _, J7, q6⟩
    | cont =>
      obtain ⟨_, _, S6, q6⟩ := got
      exact plain S6 fun _ J7 => ⟨_, _, J7, q6⟩
    | ret v =>
      obtain ⟨_, _, _, S6, r6, q6⟩ := got
      exact plain S6 fun _ J7 => ⟨_, _, _, J7, r6, q6⟩
/-- try: body / except x as n: suite, the caught thing looked at behind -/
theorem ps_try_keep (hs : X.stack = X.env :: X.outer) (hf : X.env.frame = some X.env.locals) (hex : X.ex = []) (hN : X.N.Nodup) (hi : X.N[i]? = some n) (hln : X.env.kindOf n = some .local) (hc : Names X x c) (tk : Takes X Wout)
    (hb : ∀ (W : WX) (pn : List (Addr × Obj)) (xe : Value → Shared → Prop), Takes (X.tr pn xe) W → PassesOwn (model X.prog X.w) X.A X.env xe → PSs (X.tr pn xe) bd (tb W))
    (hsu : ∀ (a : Addr) (oe : Obj) (cls : Value) (d : Option Addr) (pn : List (Addr × Obj)), Zc cls d oe → (∃ vs, oe.data = .fields vs) → PSs (X.suite a ((a, oe) :: pn)) (s0 :: su) (ts a cls d)) :
    PS X (.Try bd [.ExceptHandler (some (.Name x np)) (some n) (s0 :: su) ps] [] [] pt) (fun D σ H => tb (wKeep X.K c i ts Wout D) D σ H) := by
  refine ⟨fun pins s σ H D I h => wpAny_Try_except ?_⟩
  have ok := I.ok
  refine wpAny_mono ((hb _ (X.pn ++ pins) _ (fun u t xx => keep_catch (pn' := []) hs hf hex hN hi hln hc tk hsu ok xx) PassesOwn.looking).run [] s σ H D (I.toTry _) h) (fun f t got => ?_) (fun _ _ z => z)
  cases f with
  | next =>
    obtain ⟨_, _, S, q⟩ := got
    exact wpAny_execs_nil ⟨_, _, S.ofTry ok, q⟩
  | brk =>
    obtain ⟨_, _, S, q⟩ := got
    exact ⟨_, _, S.ofTry ok, q⟩
  | cont =>
    obtain ⟨_, _, S, q⟩ := got
    exact ⟨_, _, S.ofTry ok, q⟩
  | ret v =>
    obtain ⟨_, _, _, S, r, q⟩ := got
    exact ⟨_, _, _, S.ofTry ok, r, q⟩
end
/-- a dict that is tracked, where there is one -/
def DxO (H : Hp) : Option Addr → Prop
  | none => True
  | some dd => ∃ fs, H dd = some (.xd fs)
theorem cg_inst {X : Cx} {pins : List (Addr × Obj)} {σ : L2.St} {H : Hp} {s : Shared} {a D : Addr} {d : Option Addr} (I : Inv X pins σ H s) (ha : H a = some (CgO (.ref D) d a)) (hd : DxO H d) : ∃ ox od, PySem.W.InstAt s.heap a ox D od := by
  obtain ⟨⟨oe, vs, g, z, q⟩, _⟩ := I.hok a _ ha
  have no : PySem.W.notCls oe = true := by unfold PySem.W.notCls; rw [q] <;> rfl
  cases d with
  | none => exact ⟨oe, none, g, z.1, no, by rw [z.2]; trivial⟩
  | some dd =>
    obtain ⟨fs, hf⟩ := hd
    obtain ⟨mA, hns, _⟩ : ∃ mA, s.heap.Ns1 dd mA ∧ ∀ f, RelO (fs.lookup f) (mA f) := I.hok dd _ hf
    obtain ⟨od, ho, _⟩ := lookIn_ns hns
    exact ⟨oe, some od, g, z.1, no, by rw [z.2]; exact ho⟩
/-- isinstance(caught, c) -/
def rIsK (K : PySem.W.Frag) : List V → Hp → VK → Prop := fun xs H Q => ∃ (a D : Addr) (d : Option Addr) (c : V) (cv : Value) (b : Bool),
  xs = [.ref a, c] ∧ H a = some (CgO (.ref D) d a) ∧ DxO H d ∧ ExcC K D ∧ (∀ u, RelV c u → u = cv) ∧ PySem.W.kitOne K (.ref D) cv = some b ∧ Q (.bl b) H
theorem call_isK {X : Cx} : CallR X (.builtin "isinstance") (rIsK X.K) := by
  intro pins s σ H xs us Q I r h
  obtain ⟨a, D, d, c, cv, b, rfl, ha, hd, C, hc, hk, q⟩ := h
  rcases r with _ | ⟨rx, r⟩
  rcases r with _ | ⟨rt, r⟩
  cases r
  cases rx
  obtain rfl := hc _ rt
  obtain ⟨ox, od, J⟩ := cg_inst I ha hd
  obtain ⟨cd, hcd, _⟩ := PySem.W.any_some C.hd
  exact PySem.W.kia_one (PySem.W.kitx_exc (by rw [hcd]; rfl) C.hg C.hk C.hs C.ha C.hn C.ht C.hm) I.kIn J hk (fun z => nomatch z) fun tk => ⟨.bl b, H, I.kept (t' := tk) fun _ _ z => z, rfl, q⟩
section
variable {X : Cx}
/-- caught.n -/
theorem pe_kf {C0 : Addr} {e : Expr} {te : TE} {pos : Pos} {n : Str} (T1 : XfC X.K C0) (hno : PySem.W.findIn X.K (.ref C0) n = some none) (he : PE X e te) (hb : attributeBase e n X.env (eval e X.env) = eval e X.env := by rfl) :
    PE X (.Attribute e n pos) (fun σ H Q => te σ H fun x H1 => ∃ (a dd : Addr) (fs : List (Str × V)) (v : V), x = .ref a ∧ H1 a = some (CgO (.ref C0) (some dd) a) ∧ H1 dd = some (.xd fs) ∧ fs.lookup n = some v ∧ Q v H1) := by
  refine ⟨fun pins s σ H Q I h => attr_of hb (thn (he.run pins s σ H _ I h) fun u s1 hh => ?_)⟩
  obtain ⟨x, H1, I1, rx, a, dd, fs, v, rfl, ha, hd, l, q⟩ := hh
  cases rx
  obtain ⟨⟨oe, vs, g, z, dv⟩, _⟩ := I1.hok a _ ha
  obtain ⟨mA, hns, hr⟩ : ∃ mA, s1.heap.Ns1 dd mA ∧ ∀ f, RelO (fs.lookup f) (mA f) := I1.hok dd _ hd
  obtain ⟨od, ho, hl⟩ := lookIn_ns hns
  obtain ⟨u2, hu, ru⟩ := RelO.some_of (v := v) (o := mA n) (by rw [← l]; exact hr n)
  have J : PySem.W.InstAt s1.heap a oe C0 (some od) := ⟨g, z.1, by unfold PySem.W.notCls; rw [dv] <;> rfl, by rw [z.2]; exact ho⟩
  exact HandSPX.exc_get I1.kIn J T1.ga T1.gg T1.exC (PySem.W.findObj_own T1.hdC hno rfl (by rw [hl, hu])) (handed_of ru) ⟨v, H1, I1.tok _, ru, q⟩
/-- X(), an own error without a word -/
theorem pmk_own0 {C : Addr} {bmB : List Value} {B newId initId : String} {x : Str} {p pos : Pos} (F : ExcBaseFacts B newId initId bmB) (q : PySem.W.excIn X.K C bmB newId = true) (gC : X.mg x = some (.ref C)) (kC : PySem.W.keepIn X.K (.ref C) = true) (r : Raises X (.ref C)) (hg : Gl X x)
    (hdb : (x == ("__debug__" : Str)) = false := by decide) : PMk X (.Call (.Name x p) [] [] pos) (fun _ H Q => Q (.ref C) none H) := by
  intro pins s σ H Q I h
  refine wpAny_Call_Name_kw (ld_glob I hg gC ?_ hdb)
  refine PySem.W.callWith_K0 I.kIn kC ?_
  obtain ⟨bm, N, nm, qn, bs, hdct, sn, sub, ab, col, dd, k0, k1, k2, k3, k5, mN, hC, hN, hni, T⟩ := exc_obj I.kIn q
  exact wpAny_call_exc_subT F T hC hN hni (fun h' e hm => mk_of I hm r h (I.hok.gone hm.new)) (Nat.zero_le _)
end
end Tl

set_option Elab.async false
set_option linter.all false
set_option maxRecDepth 100000
set_option maxHeartbeats 4000000
namespace Tl
open PySem PySem.Spec PyProof.Rows L2
theorem ints_get {xs : List Int} {its : List Value} (r : Vals (xs.map V.int) its) (i : Nat) (v : Value) (h : its.toArray[i]? = some v) : ∃ t, v = .int (xs.getD i 0) t := by
  have h' : its[i]? = some v := by simpa using h
  have hi : i < its.length := (List.getElem?_eq_some_iff.mp h').1
  have hl := r.length
  rw [List.length_map] at hl
  obtain ⟨u, hu, ru⟩ := r.get (i := i) (x := V.int (xs.getD i 0)) (by
    rw [List.getElem?_map, List.getElem?_eq_getElem (by omega), List.getD_eq_getElem?_getD, List.getElem?_eq_getElem (by omega)]
    rfl)
  rw [h'] at hu
  cases hu
  exact ru
/-- max(xs, default=d), numbers -/
def rMaxDf (K : PySem.W.Frag) : List V → List V → Hp → VK → Prop := fun vs zs H Q => ∃ (a : Addr) (ns : List Int) (d : Int), vs = [.ref a] ∧ zs = [.int d] ∧ SqL K H a (ns.map V.int) ∧
  (ns = [] → Q (.int d) H) ∧ ∀ m, m ∈ ns → (∀ y, y ∈ ns → y ≤ m) → Q (.int m) H
theorem ck_max {X : Cx} (hc : X.calm = true) : CallRK X (.builtin "max") [Str.ofString "default"] (rMaxDf X.K) := by
  intro pins s σ H vs zs us ws Q I r rz h
  obtain ⟨a, ns, d, rfl, rfl, hs, q0, q1⟩ := h
  obtain ⟨its, rv, hl, _⟩ := I.list hs
  rw [Vals.ref1 r]
  rcases rz with _ | ⟨rd, rz⟩
  cases rz
  rename_i dv
  have hlen : ns.length = its.length := by
    have := rv.length
    rwa [List.length_map] at this
  show wpAny _ _ (call (.builtin "max") [.ref a] [(Str.ofString "default", dv)]) _ _ _
  refine call_max_walkD (PySem.W.iter_listW (A := X.A.in1) (I.ok.hd hc) hl.isList fun s₂ e W st hfp hw hk => ?_)
  refine ⟨_, _, _, _, _, _, _, s.heap, (fun i j => decide (ns.getD i 0 > ns.getD j 0)), rfl, W, st, hfp, hw, hk, fun hz s' m => ?_, fun hp => ⟨fun i j vi vj t Q' E' _ hi hj q => ?_, fun v s' hP m => ?_⟩⟩
  · obtain ⟨h', tk, rfl, hk'⟩ := PySem.W.moved_old e rfl m
    have : ns = [] := List.eq_nil_of_length_eq_zero (by rw [hlen]; simpa using hz)
    exact ⟨.int d, H, I.kept hk', rd, q0 this⟩
  · exact CmpOf.ints_gt (fun i => ns.getD i 0) (fun k v h => ints_get rv k v h) i j vi vj t Q' E' hi hj q
  · obtain ⟨h', tk, rfl, hk'⟩ := PySem.W.moved_old e rfl m
    obtain ⟨t, rfl⟩ := ints_get rv _ _ hP
    obtain ⟨b1, b2⟩ := argBest_gt (fun i => ns.getD i 0) (its.toArray.size - 1)
    have hp' : 0 < its.length := by simpa using hp
    refine ⟨.int _, H, I.kept hk', ⟨t, rfl⟩, q1 _ ?_ fun y hy => ?_⟩
    · exact PySem.getD_mem (by have sz : its.toArray.size = its.length := by simp
                               omega)
    · obtain ⟨j, hj, rfl⟩ := mem_getD hy
      exact b2 j (by simp; omega)
end Tl

set_option Elab.async false
set_option linter.all false
set_option maxRecDepth 100000
set_option maxHeartbeats 4000000
/-! A second layer over the hand layer: values are data or named objects; a memory M tells the objects that may change, all else is data for good. -/
namespace Tl
open PySem L2
mutual
/-- data at v, as F knows it; the empty dict may stand anywhere -/
inductive Dx (K : PySem.W.Frag) (F : Hp) : V → PyData → Prop
  | non : Dx K F .non .none
  | bl (b : Bool) : Dx K F (.bl b) (.bool b)
  | int (i : Int) : Dx K F (.int i) (.int i)
  | str (x : Str) : Dx K F (.str x) (.str x)
  | lst {a : Addr} {xs : List V} {ds : List PyData} : F a = some (.lst xs) → DxL K F xs ds → Dx K F (.ref a) (.list ds)
  | tup {a : Addr} {xs : List V} {ds : List PyData} : SqT K F a xs → DxL K F xs ds → Dx K F (.ref a) (.tuple ds)
  | dic {a : Addr} : F a = some (.dK []) → Dx K F (.ref a) (.dict [])
inductive DxL (K : PySem.W.Frag) (F : Hp) : List V → List PyData → Prop
  | nil : DxL K F [] []
  | cons {v : V} {vs : List V} {d : PyData} {ds : List PyData} : Dx K F v d → DxL K F vs ds → DxL K F (v :: vs) (d :: ds)
end
/-- one of two, by a truth -/
inductive IfB (c : Bool) (A B : Prop) : Prop where
  | t (h : c = true) (q : A) : IfB c A B
  | f (h : c = false) (q : B) : IfB c A B
theorem IfB.ite {c : Bool} {A B : Prop} (h : IfB c A B) : if c = true then A else B := by
  cases h with
  | t h q => rw [if_pos h]; exact q
  | f h q => rw [h, if_neg Bool.false_ne_true]; exact q
theorem IfB.of {c : Bool} {A B : Prop} (h1 : c = true → A) (h2 : c = false → B) : IfB c A B := by
  cases c with
  | true => exact .t rfl (h1 rfl)
  | false => exact .f rfl (h2 rfl)
theorem IfB.d {p A B : Prop} [Decidable p] (h1 : p → A) (h2 : ¬ p → B) : IfB (decide p) A B := IfB.of (fun h => h1 (of_decide_eq_true h)) fun h => h2 (of_decide_eq_false h)
theorem IfB.n {p A B : Prop} [Decidable p] (h1 : ¬ p → B) (h2 : p → A) : IfB (decide p) A B := IfB.d h2 h1
theorem IfB.not {c : Bool} {A B : Prop} (h : IfB c B A) : IfB (!c) A B := by
  cases h with
  | t h q => exact .f (by rw [h]; rfl) q
  | f h q => exact .t (by rw [h]; rfl) q
def ng : Bool → Bool → Bool
  | true, b => !b
  | false, b => b
theorem IfB.ngt {c : Bool} {A B : Prop} (h : IfB c B A) : IfB (ng true c) A B := h.not
theorem IfB.ngf {c : Bool} {A B : Prop} (h : IfB c A B) : IfB (ng false c) A B := h
theorem IfB.yes {p A B : Prop} [Decidable p] (h : p) (q : A) : IfB (decide p) A B := .t (decide_eq_true h) q
theorem IfB.no {p A B : Prop} [Decidable p] (h : ¬ p) (q : B) : IfB (decide p) A B := .f (decide_eq_false h) q
/-- a value -/
inductive W where
  | d (x : PyData)
  | r (a : Addr)
  | o (v : V)
  /-- a caught error: where it stands, its class, its dict, its fields -/
  | x (a C : Addr) (dd : Option Addr) (fs : List (Str × PyData))
/-- an object that may change -/
inductive MO where
  | lst (ws : List W)
  | src (b : Bool)
  | dK (kvs : List (Key × W))
  | dT (kvs : List (List Key × W))
  | ins (C dx : Addr) (fs : List (Str × W))
  | exc (C : Addr) (dd : Option Addr)
abbrev Mem := Addr → Option MO
abbrev EnvD := List (Option W)
def mset (M : Mem) (a : Addr) (o : MO) : Mem := fun b => if b = a then some o else M b
def mdel (M : Mem) (a : Addr) : Mem := fun b => if b = a then none else M b
theorem mset_same {M : Mem} {a : Addr} {o : MO} : mset M a o a = some o := if_pos rfl
theorem mset_ne {M : Mem} {a b : Addr} {o : MO} (h : b ≠ a) : mset M a o b = M b := if_neg h
theorem mdel_same {M : Mem} {a : Addr} : mdel M a a = none := if_pos rfl
theorem mdel_ne {M : Mem} {a b : Addr} (h : b ≠ a) : mdel M a b = M b := if_neg h
theorem mset_mset {M : Mem} {a : Addr} {o u : MO} : mset (mset M a o) a u = mset M a u := by
  funext b
  by_cases h : b = a
  · rw [h, mset_same, mset_same]
  · rw [mset_ne h, mset_ne h, mset_ne h]
theorem mdel_mset {M : Mem} {a : Addr} {o : MO} : mdel (mset M a o) a = mdel M a := by
  funext b
  by_cases h : b = a
  · rw [h, mdel_same, mdel_same]
  · rw [mdel_ne h, mdel_ne h, mset_ne h]
theorem mdel_none {M : Mem} {a : Addr} (h : M a = none) : mdel M a = M := by
  funext b; unfold mdel; split
  · rename_i e; rw [e, h]
  · rfl
theorem mset_id {M : Mem} {a : Addr} {o : MO} (h : M a = some o) : mset M a o = M := by
  funext b; unfold mset; split
  · rename_i e; rw [e, h]
  · rfl
mutual
theorem Dx.mono {K : PySem.W.Frag} {H H' : Hp} (e : Same H H') : ∀ (d : PyData) (v : V), Dx K H v d → Dx K H' v d
  | .none, _, h => by cases h; exact .non
  | .bool b, _, h => by cases h; exact .bl b
  | .int i, _, h => by cases h; exact .int i
  | .str x, _, h => by cases h; exact .str x
  | .list ds, _, h => by
    cases h with
    | lst hs ha => exact .lst (e _ _ hs) (DxL.mono e ds _ ha)
  | .tuple ds, _, h => by
    cases h with
    | tup hs ha => exact .tup (same_t e hs) (DxL.mono e ds _ ha)
  | .dict _, _, h => by cases h with | dic h => exact .dic (e _ _ h)
theorem DxL.mono {K : PySem.W.Frag} {H H' : Hp} (e : Same H H') : ∀ (ds : List PyData) (vs : List V), DxL K H vs ds → DxL K H' vs ds
  | [], _, h => by cases h; exact .nil
  | d :: ds, _, h => by
    cases h with
    | cons h1 h2 => exact .cons (Dx.mono e d _ h1) (DxL.mono e ds _ h2)
end
mutual
/-- no list within -/
def noL : PyData → Bool
  | .list _ => false
  | .tuple ds => noLs ds
  | _ => true
def noLs : List PyData → Bool
  | [] => true
  | d :: ds => noL d && noLs ds
end
mutual
theorem Dx.of {K : PySem.W.Frag} {H : Hp} : ∀ (d : PyData) (v : V), Dp K H v d → noL d = true → Dx K H v d
  | .none, _, h, _ => by cases h; exact .non
  | .bool b, _, h, _ => by cases h; exact .bl b
  | .int i, _, h, _ => by cases h; exact .int i
  | .str x, _, h, _ => by cases h; exact .str x
  | .list ds, _, h, n => by rw [noL] at n; cases n
  | .tuple ds, _, h, n => by
    cases h with
    | tup hs ha => exact .tup hs (DxL.of ds _ ha (by rw [noL] at n; exact n))
  | .dict _, _, h, _ => by cases h
theorem DxL.of {K : PySem.W.Frag} {H : Hp} : ∀ (ds : List PyData) (vs : List V), DpAll K H vs ds → noLs ds = true → DxL K H vs ds
  | [], _, h, _ => by cases h; exact .nil
  | d :: ds, _, h, n => by
    rw [noLs, Bool.and_eq_true] at n
    cases h with
    | cons h1 h2 => exact .cons (Dx.of d _ h1 n.1) (DxL.of ds _ h2 n.2)
end
mutual
theorem Dx.dp {K : PySem.W.Frag} {H : Hp} : ∀ (d : PyData) (v : V), Dx K H v d → d.hasDict = false → Dp K H v d
  | .none, _, h, _ => by cases h; exact .non
  | .bool b, _, h, _ => by cases h; exact .bl b
  | .int i, _, h, _ => by cases h; exact .int i
  | .str x, _, h, _ => by cases h; exact .str x
  | .list ds, _, h, n => by
    cases h with
    | lst hs ha => exact .lst (SqL.of hs) (DxL.dp ds _ ha (by rw [PyData.hasDict] at n; exact n))
  | .tuple ds, _, h, n => by
    cases h with
    | tup hs ha => exact .tup hs (DxL.dp ds _ ha (by rw [PyData.hasDict] at n; exact n))
  | .dict _, _, h, n => by rw [PyData.hasDict] at n; cases n
theorem DxL.dp {K : PySem.W.Frag} {H : Hp} : ∀ (ds : List PyData) (vs : List V), DxL K H vs ds → PyData.hasDictAll ds = false → DpAll K H vs ds
  | [], _, h, _ => by cases h; exact .nil
  | d :: ds, _, h, n => by
    rw [PyData.hasDictAll, Bool.or_eq_false_iff] at n
    cases h with
    | cons h1 h2 => exact .cons (Dx.dp d _ h1 n.1) (DxL.dp ds _ h2 n.2)
end
theorem DxL.len {K : PySem.W.Frag} {H : Hp} : ∀ {vs : List V} {ds : List PyData}, DxL K H vs ds → vs.length = ds.length
  | _, _, .nil => rfl
  | _, _, .cons _ h => by rw [List.length_cons, List.length_cons, DxL.len h]
theorem DxL.got {K : PySem.W.Frag} {H : Hp} : ∀ {vs : List V} {ds : List PyData} {i : Nat} {d : PyData}, DxL K H vs ds → ds[i]? = some d → ∃ v, vs[i]? = some v ∧ Dx K H v d
  | _, _, _, _, .nil, e => by simp at e
  | _, _, 0, _, .cons h _, e => by simp at e; subst e; exact ⟨_, rfl, h⟩
  | _, _, i + 1, d, .cons _ h, e => by
    obtain ⟨v, h1, h2⟩ := DxL.got (i := i) (d := d) h (by simpa using e)
    exact ⟨v, by simpa using h1, h2⟩
theorem DxL.get {K : PySem.W.Frag} {H : Hp} : ∀ {vs : List V} {ds : List PyData} {i : Nat} {v : V}, DxL K H vs ds → vs[i]? = some v → ∃ d, ds[i]? = some d ∧ Dx K H v d
  | _, _, _, _, .nil, e => by simp at e
  | _, _, 0, _, .cons h _, e => by simp at e; subst e; exact ⟨_, rfl, h⟩
  | _, _, i + 1, v, .cons _ h, e => by
    obtain ⟨d, h1, h2⟩ := DxL.get (i := i) (v := v) h (by simpa using e)
    exact ⟨d, by simpa using h1, h2⟩
theorem DxL.app {K : PySem.W.Frag} {H : Hp} : ∀ {vs ws : List V} {ds es : List PyData}, DxL K H vs ds → DxL K H ws es → DxL K H (vs ++ ws) (ds ++ es)
  | _, _, _, _, .nil, h => h
  | _, _, _, _, .cons a b, h => .cons a (DxL.app b h)
theorem DxL.take {K : PySem.W.Frag} {H : Hp} : ∀ {vs : List V} {ds : List PyData} (n : Nat), DxL K H vs ds → DxL K H (vs.take n) (ds.take n)
  | _, _, 0, _ => .nil
  | _, _, _ + 1, .nil => .nil
  | _, _, n + 1, .cons a b => .cons a (DxL.take n b)
theorem DxL.drop {K : PySem.W.Frag} {H : Hp} : ∀ {vs : List V} {ds : List PyData} (n : Nat), DxL K H vs ds → DxL K H (vs.drop n) (ds.drop n)
  | _, _, 0, h => h
  | _, _, _ + 1, .nil => .nil
  | _, _, n + 1, .cons a b => DxL.drop n b
theorem DxL.rev {K : PySem.W.Frag} {H : Hp} : ∀ {vs : List V} {ds : List PyData}, DxL K H vs ds → DxL K H vs.reverse ds.reverse
  | _, _, .nil => .nil
  | _, _, .cons a b => by rw [List.reverse_cons, List.reverse_cons]; exact DxL.app (DxL.rev b) (.cons a .nil)
theorem DxL.rep {K : PySem.W.Frag} {H : Hp} {vs : List V} {ds : List PyData} (h : DxL K H vs ds) : ∀ n : Nat, DxL K H (List.replicate n vs).flatten (List.replicate n ds).flatten
  | 0 => .nil
  | n + 1 => by
    rw [List.replicate_succ, List.replicate_succ, List.flatten_cons, List.flatten_cons]
    exact DxL.app h (DxL.rep h n)
/-- an error's fields stand in its dict -/
def FX (K : PySem.W.Frag) (F : Hp) (d : Option Addr) (fs : List (Str × PyData)) : Prop := match d with
  | none => fs = []
  | some dd => ∃ fv, F dd = some (.xd fv) ∧ fv.map (·.1) = fs.map (·.1) ∧ DxL K F (fv.map (·.2)) (fs.map (·.2))
theorem FX.mono {K : PySem.W.Frag} {F F' : Hp} (e : Same F F') {d : Option Addr} {fs : List (Str × PyData)} (h : FX K F d fs) : FX K F' d fs := by
  cases d with
  | none => exact h
  | some dd =>
    obtain ⟨fv, h1, h2, h3⟩ := h
    exact ⟨fv, e _ _ h1, h2, DxL.mono e _ _ h3⟩
/-- v is the value x -/
inductive RW (K : PySem.W.Frag) (F : Hp) : V → W → Prop
  | d {v : V} {x : PyData} : Dx K F v x → RW K F v (.d x)
  | r (a : Addr) : RW K F (.ref a) (.r a)
  | o (v : V) : RW K F v (.o v)
  | x {a C : Addr} {dd : Option Addr} {fs : List (Str × PyData)} : FX K F dd fs → RW K F (.ref a) (.x a C dd fs)
inductive RWs (K : PySem.W.Frag) (F : Hp) : List V → List W → Prop
  | nil : RWs K F [] []
  | cons {v : V} {vs : List V} {x : W} {xs : List W} : RW K F v x → RWs K F vs xs → RWs K F (v :: vs) (x :: xs)
section
variable {K : PySem.W.Frag} {F F' H H' : Hp}
theorem RW.mono (e : Same F F') {v : V} {x : W} (h : RW K F v x) : RW K F' v x := by
  cases h with
  | d h => exact .d (Dx.mono e _ _ h)
  | r a => exact .r a
  | o v => exact .o v
  | x h => exact .x (h.mono e)
theorem RWs.mono (e : Same F F') : ∀ {vs : List V} {xs : List W}, RWs K F vs xs → RWs K F' vs xs
  | _, _, .nil => .nil
  | _, _, .cons h t => .cons (h.mono e) (t.mono e)
theorem RWs.len : ∀ {vs : List V} {xs : List W}, RWs K F vs xs → vs.length = xs.length
  | _, _, .nil => rfl
  | _, _, .cons _ t => by rw [List.length_cons, List.length_cons, t.len]
theorem RWs.got : ∀ {vs : List V} {xs : List W} {i : Nat} {x : W}, RWs K F vs xs → xs[i]? = some x → ∃ v, vs[i]? = some v ∧ RW K F v x
  | _, _, _, _, .nil, e => by simp at e
  | _, _, 0, _, .cons h _, e => by simp at e; subst e; exact ⟨_, rfl, h⟩
  | _, _, i + 1, x, .cons _ h, e => by
    obtain ⟨v, h1, h2⟩ := RWs.got (i := i) (x := x) h (by simpa using e)
    exact ⟨v, by simpa using h1, h2⟩
theorem RWs.get : ∀ {vs : List V} {xs : List W} {i : Nat} {v : V}, RWs K F vs xs → vs[i]? = some v → ∃ x, xs[i]? = some x ∧ RW K F v x
  | _, _, _, _, .nil, e => by simp at e
  | _, _, 0, _, .cons h _, e => by simp at e; subst e; exact ⟨_, rfl, h⟩
  | _, _, i + 1, v, .cons _ h, e => by
    obtain ⟨x, h1, h2⟩ := RWs.get (i := i) (v := v) h (by simpa using e)
    exact ⟨x, by simpa using h1, h2⟩
theorem RWs.app : ∀ {vs ws : List V} {xs ys : List W}, RWs K F vs xs → RWs K F ws ys → RWs K F (vs ++ ws) (xs ++ ys)
  | _, _, _, _, .nil, h => h
  | _, _, _, _, .cons a b, h => .cons a (RWs.app b h)
theorem RWs.take : ∀ {vs : List V} {xs : List W} (n : Nat), RWs K F vs xs → RWs K F (vs.take n) (xs.take n)
  | _, _, 0, _ => .nil
  | _, _, _ + 1, .nil => .nil
  | _, _, n + 1, .cons a b => .cons a (RWs.take n b)
theorem RWs.drop : ∀ {vs : List V} {xs : List W} (n : Nat), RWs K F vs xs → RWs K F (vs.drop n) (xs.drop n)
  | _, _, 0, h => h
  | _, _, _ + 1, .nil => .nil
  | _, _, n + 1, .cons a b => RWs.drop n b
theorem RWs.rev : ∀ {vs : List V} {xs : List W}, RWs K F vs xs → RWs K F vs.reverse xs.reverse
  | _, _, .nil => .nil
  | _, _, .cons a b => by rw [List.reverse_cons, List.reverse_cons]; exact RWs.app (RWs.rev b) (.cons a .nil)
theorem RWs.set {v : V} {x : W} (h : RW K F v x) : ∀ {vs : List V} {xs : List W} (n : Nat), RWs K F vs xs → RWs K F (vs.set n v) (xs.set n x)
  | _, _, _, .nil => .nil
  | _, _, 0, .cons _ t => .cons h t
  | _, _, n + 1, .cons a t => .cons a (RWs.set h n t)
theorem RWs.dat : ∀ {vs : List V} {ds : List PyData}, DxL K F vs ds → RWs K F vs (ds.map W.d)
  | _, _, .nil => .nil
  | _, _, .cons a b => .cons (.d a) (RWs.dat b)
theorem RWs.undat : ∀ {ds : List PyData} {vs : List V}, RWs K F vs (ds.map W.d) → DxL K F vs ds
  | [], _, h => by cases h; exact .nil
  | d :: ds, _, h => by
    cases h with
    | cons a b =>
      cases a with
      | d a => exact .cons a (RWs.undat b)
end
/-- the law's own source of numbers: its cells, three numbers -/
def SrcV (K : PySem.W.Frag) (F : Hp) (b : Bool) (vs : List V) : Prop := ∃ (c : Addr) (cs : List Int) (i p z : Int), vs = [.ref c, .int i, .int p, .int z] ∧ SqL K F c (cs.map V.int) ∧ cs.length ≤ 63 ∧ (b = true → 0 < cs.length) ∧ 0 ≤ i ∧ 0 ≤ p ∧ 0 ≤ z ∧ z < (if b = true then 2147483647 else 2305843009213693951)
theorem SrcV.mono {K : PySem.W.Frag} {F F' : Hp} (e : Same F F') {b : Bool} {vs : List V} (h : SrcV K F b vs) : SrcV K F' b vs := by
  obtain ⟨c, cs, i, p, z, h1, h2, h3⟩ := h
  exact ⟨c, cs, i, p, z, h1, same_l e h2, h3⟩
def PrR {κ : Type} (K : PySem.W.Frag) (F : Hp) (kv : List (κ × V)) (kw : List (κ × W)) : Prop := kv.map (·.1) = kw.map (·.1) ∧ RWs K F (kv.map (·.2)) (kw.map (·.2))
theorem PrR.mono {κ : Type} {K : PySem.W.Frag} {F F' : Hp} (e : Same F F') {kv : List (κ × V)} {kw : List (κ × W)} (h : PrR K F kv kw) : PrR K F' kv kw := ⟨h.1, h.2.mono e⟩
/-- what stands there is the object o -/
def OR (K : PySem.W.Frag) (F : Hp) (a : Addr) (u : HO) : MO → Prop
  | .lst ws => ∃ vs, u = .lst vs ∧ RWs K F vs ws
  | .src b => ∃ vs, u = .lst vs ∧ SrcV K F b vs
  | .dK kw => ∃ kv, u = .dK kv ∧ PrR K F kv kw
  | .dT kw => ∃ kv, u = .dT kv ∧ PrR K F kv kw
  | .ins C dx fw => ∃ fv, u = .ins C dx fv ∧ PrR K F fv fw
  | .exc C dd => u = CgO (.ref C) dd a
theorem OR.mono {K : PySem.W.Frag} {F F' : Hp} (e : Same F F') {a : Addr} {u : HO} {o : MO} (h : OR K F a u o) : OR K F' a u o := by
  cases o with
  | lst ws =>
    obtain ⟨vs, h1, h2⟩ := h
    exact ⟨vs, h1, h2.mono e⟩
  | src b =>
    obtain ⟨vs, h1, h2⟩ := h
    exact ⟨vs, h1, h2.mono e⟩
  | dK kw =>
    obtain ⟨vs, h1, h2⟩ := h
    exact ⟨vs, h1, h2.mono e⟩
  | dT kw =>
    obtain ⟨vs, h1, h2⟩ := h
    exact ⟨vs, h1, h2.mono e⟩
  | ins C dx fw =>
    obtain ⟨vs, h1, h2⟩ := h
    exact ⟨vs, h1, h2.mono e⟩
  | exc C dd => exact h
/-- F: what is data for good; M: what may change; H: what stands there -/
structure Rl (K : PySem.W.Frag) (F H : Hp) (M : Mem) : Prop where
  fh : Same F H
  mf : ∀ a o, M a = some o → F a = none
  at_ : ∀ a o, M a = some o → ∃ u, H a = some u ∧ OR K F a u o
/-- from one state to a later one: what is neither data nor told by M stays as it is -/
structure Gr (F H : Hp) (M : Mem) (F' H' : Hp) (M' : Mem) : Prop where
  ff : Same F F'
  un : ∀ b u, H b = some u → M b = none → H' b = some u ∧ M' b = none
  nf : ∀ b u, H b = some u → M b = none → F b = none → F' b = none
theorem Gr.refl {F H : Hp} {M : Mem} : Gr F H M F H M := ⟨Same.refl _, fun _ _ h n => ⟨h, n⟩, fun _ _ _ _ h => h⟩
theorem Gr.trans {F H F1 H1 F2 H2 : Hp} {M M1 M2 : Mem} (a : Gr F H M F1 H1 M1) (b : Gr F1 H1 M1 F2 H2 M2) : Gr F H M F2 H2 M2 :=
  ⟨a.ff.trans b.ff, fun c u h n => b.un c u (a.un c u h n).1 (a.un c u h n).2, fun c u h n f => b.nf c u (a.un c u h n).1 (a.un c u h n).2 (a.nf c u h n f)⟩
section
variable {K : PySem.W.Frag} {F H : Hp} {M : Mem}
theorem Rl.there (h : Rl K F H M) {a : Addr} {o : MO} (e : M a = some o) : ∃ u, H a = some u := by
  obtain ⟨u, h1, _⟩ := h.at_ a o e
  exact ⟨u, h1⟩
theorem Rl.new (h : Rl K F H M) {p : Addr} (e : H p = none) : M p = none := by
  cases c : M p with
  | none => rfl
  | some o =>
    obtain ⟨u, h1, _⟩ := h.at_ p o c
    rw [e] at h1
    cases h1
theorem Rl.step (h : Rl K F H M) {F' H' : Hp} (ff : Same F F') (fh : Same F' H') (hm : ∀ a o, M a = some o → H' a = H a ∧ F' a = none) : Rl K F' H' M :=
  ⟨fh, fun a o e => (hm a o e).2, fun a o e => by
    obtain ⟨u, h1, h2⟩ := h.at_ a o e
    exact ⟨u, by rw [(hm a o e).1]; exact h1, h2.mono ff⟩⟩
/-- the heap grows by what nobody tells of -/
theorem Rl.same (h : Rl K F H M) {H' : Hp} (e : Same H H') : Rl K F H' M ∧ Gr F H M F H' M := by
  refine ⟨h.step (Same.refl _) (h.fh.trans e) fun a o c => ?_, Same.refl _, fun b u c n => ⟨e b u c, n⟩, fun _ _ _ _ f => f⟩
  obtain ⟨u, hu⟩ := h.there c
  exact ⟨by rw [hu]; exact e a u hu, h.mf a o c⟩
/-- a new thing that stays as it is -/
theorem Rl.fresh (h : Rl K F H M) {p : Addr} {u : HO} (e : H p = none) : Rl K (upd F p u) (upd H p u) M ∧ Gr F H M (upd F p u) (upd H p u) M := by
  have g := Gw.new (o := u) h.fh e
  refine ⟨h.step g.ff g.fh fun a o c => ?_, g.ff, fun b v c n => ⟨g.hh b v c, n⟩, fun b v c n f => ?_⟩
  · obtain ⟨v, hv⟩ := h.there c
    have n : a ≠ p := ne_of_none hv e
    exact ⟨upd_ne n, by rw [upd_ne n]; exact h.mf a o c⟩
  · rw [upd_ne (ne_of_none c e)]
    exact f
/-- a new object that may change -/
theorem Rl.born (h : Rl K F H M) {p : Addr} {u : HO} {o : MO} (e : H p = none) (r : OR K F p u o) : Rl K F (upd H p u) (mset M p o) ∧ Gr F H M F (upd H p u) (mset M p o) := by
  have fp := h.fh.free e
  refine ⟨⟨same_mut h.fh fp, fun a o' c => ?_, fun a o' c => ?_⟩, Same.refl _, fun b v c n => ?_, fun _ _ _ _ f => f⟩
  · by_cases z : a = p
    · rw [z]; exact fp
    · rw [mset_ne z] at c; exact h.mf a o' c
  · by_cases z : a = p
    · subst z
      rw [mset_same] at c
      cases c
      exact ⟨u, upd_same, r⟩
    · rw [mset_ne z] at c
      rw [upd_ne z]
      exact h.at_ a o' c
  · have z : b ≠ p := ne_of_none c e
    rw [upd_ne z, mset_ne z]
    exact ⟨c, n⟩
/-- an object changes -/
theorem Rl.put (h : Rl K F H M) {p : Addr} {u : HO} {o o' : MO} (e : M p = some o') (r : OR K F p u o) : Rl K F (upd H p u) (mset M p o) ∧ Gr F H M F (upd H p u) (mset M p o) := by
  have fp := h.mf p o' e
  refine ⟨⟨same_mut h.fh fp, fun a o' c => ?_, fun a o' c => ?_⟩, Same.refl _, fun b v c n => ?_, fun _ _ _ _ f => f⟩
  · by_cases z : a = p
    · rw [z]; exact fp
    · rw [mset_ne z] at c; exact h.mf a o' c
  · by_cases z : a = p
    · subst z
      rw [mset_same] at c
      cases c
      exact ⟨u, upd_same, r⟩
    · rw [mset_ne z] at c
      rw [upd_ne z]
      exact h.at_ a o' c
  · have z : b ≠ p := fun z => by rw [z, e] at n; cases n
    rw [upd_ne z, mset_ne z]
    exact ⟨c, n⟩
/-- a list of data is data from now on -/
theorem Rl.freeze (h : Rl K F H M) {p : Addr} {ds : List PyData} (e : M p = some (.lst (ds.map W.d))) : ∃ F', Rl K F' H (mdel M p) ∧ Gr F H M F' H (mdel M p) ∧ Dx K F' (.ref p) (.list ds) := by
  obtain ⟨_, h1, vs, rfl, h2⟩ := h.at_ p _ e
  have fp := h.mf p _ e
  have ff : Same F (upd F p (.lst vs)) := same_new fp
  have r : DxL K F vs ds := RWs.undat h2
  refine ⟨upd F p (.lst vs), ⟨fun b u q => ?_, fun a o c => ?_, fun a o c => ?_⟩, ⟨ff, fun b v c n => ⟨c, ?_⟩, fun b v c n f => ?_⟩, .lst upd_same (DxL.mono ff _ _ r)⟩
  · by_cases z : b = p
    · subst z
      rw [upd_same] at q
      rw [h1]
      exact q
    · rw [upd_ne z] at q
      exact h.fh b u q
  · have z : a ≠ p := fun z => by rw [z, mdel_same] at c; cases c
    rw [mdel_ne z] at c
    rw [upd_ne z]
    exact h.mf a o c
  · have z : a ≠ p := fun z => by rw [z, mdel_same] at c; cases c
    rw [mdel_ne z] at c
    obtain ⟨u, g1, g2⟩ := h.at_ a o c
    exact ⟨u, g1, g2.mono ff⟩
  · by_cases z : b = p
    · rw [z]; exact mdel_same
    · rw [mdel_ne z]; exact n
  · have z : b ≠ p := fun z => by rw [z, e] at n; cases n
    rw [upd_ne z]
    exact f
/-- an object that is not looked at any more -/
theorem Rl.drop (h : Rl K F H M) (p : Addr) : Rl K F H (mdel M p) ∧ Gr F H M F H (mdel M p) := by
  refine ⟨⟨h.fh, fun a o c => ?_, fun a o c => ?_⟩, Same.refl _, fun b v c n => ⟨c, ?_⟩, fun b v c n f => f⟩
  · have z : a ≠ p := fun z => by rw [z, mdel_same] at c; cases c
    rw [mdel_ne z] at c
    exact h.mf a o c
  · have z : a ≠ p := fun z => by rw [z, mdel_same] at c; cases c
    rw [mdel_ne z] at c
    exact h.at_ a o c
  · by_cases z : b = p
    · rw [z]; exact mdel_same
    · rw [mdel_ne z]; exact n
/-- the heap of a thing nobody tells of changes (an object made in between, not told by M, not data) -/
theorem Rl.hid (h : Rl K F H M) {p : Addr} {u : HO} (hf : F p = none) (hm : M p = none) : Rl K F (upd H p u) M :=
  h.step (Same.refl _) (same_mut h.fh hf) fun a o c => ⟨upd_ne (fun z => by rw [z, hm] at c; cases c), h.mf a o c⟩
end
/-! ### slots -/
@[reducible] def slot : EnvD → Nat → Option W
  | [], _ => none
  | x :: _, 0 => x
  | _ :: r, n + 1 => slot r n
@[reducible] def put : EnvD → Nat → Option W → EnvD
  | [], _, _ => []
  | _ :: r, 0, w => w :: r
  | x :: r, n + 1, w => x :: put r n w
theorem put_len : ∀ (ρ : EnvD) (i : Nat) (w : Option W), (put ρ i w).length = ρ.length
  | [], _, _ => rfl
  | _ :: r, 0, _ => rfl
  | _ :: r, n + 1, w => congrArg (· + 1) (put_len r n w)
theorem slot_put : ∀ {ρ : EnvD} {i : Nat} {w : Option W} {x : W}, slot (put ρ i w) i = some x → w = some x ∧ i < ρ.length
  | [], _, _, _, h => by cases h
  | _ :: r, 0, _, _, h => ⟨h, Nat.succ_pos _⟩
  | _ :: r, n + 1, w, x, h => by
    obtain ⟨h1, h2⟩ := slot_put (ρ := r) (i := n) h
    exact ⟨h1, Nat.succ_lt_succ h2⟩
theorem slot_put_ne : ∀ {ρ : EnvD} {i j : Nat} {w : Option W}, j ≠ i → slot (put ρ i w) j = slot ρ j
  | [], _, _, _, _ => rfl
  | _ :: r, 0, 0, _, h => absurd rfl h
  | _ :: r, 0, j + 1, _, _ => rfl
  | _ :: r, n + 1, 0, w, h => rfl
  | _ :: r, n + 1, j + 1, w, h => slot_put_ne (ρ := r) fun z => h (by rw [z])
theorem slot_lt : ∀ {ρ : EnvD} {i : Nat} {x : W}, slot ρ i = some x → i < ρ.length
  | [], _, _, h => by cases h
  | _ :: r, 0, _, h => Nat.succ_pos _
  | _ :: r, n + 1, x, h => Nat.succ_lt_succ (slot_lt (ρ := r) h)
structure RelS (K : PySem.W.Frag) (F : Hp) (σ : L2.St) (ρ : EnvD) : Prop where
  len : σ.length = ρ.length
  at_ : ∀ i x, slot ρ i = some x → ∃ v, σ[i]? = some (some v) ∧ RW K F v x
section
variable {K : PySem.W.Frag} {F F' : Hp} {σ : L2.St} {ρ : EnvD}
theorem RelS.mono (e : Same F F') (h : RelS K F σ ρ) : RelS K F' σ ρ := ⟨h.len, fun i x c => by
  obtain ⟨v, h1, h2⟩ := h.at_ i x c
  exact ⟨v, h1, h2.mono e⟩⟩
theorem RelS.set (h : RelS K F σ ρ) {v : V} {x : W} (r : RW K F v x) (i : Nat) : RelS K F (σ.set i (some v)) (put ρ i (some x)) := by
  refine ⟨by rw [List.length_set, put_len]; exact h.len, fun j y c => ?_⟩
  by_cases z : j = i
  · subst z
    obtain ⟨h1, h2⟩ := slot_put c
    cases h1
    exact ⟨v, by rw [List.getElem?_set_self (by rw [h.len]; exact h2)], r⟩
  · rw [slot_put_ne z] at c
    rw [List.getElem?_set_ne (fun q => z q.symm)]
    exact h.at_ j y c
theorem RelS.del (h : RelS K F σ ρ) (i : Nat) (w : Option V) : RelS K F (σ.set i w) (put ρ i none) := by
  refine ⟨by rw [List.length_set, put_len]; exact h.len, fun j y c => ?_⟩
  by_cases z : j = i
  · subst z
    obtain ⟨h1, h2⟩ := slot_put c
    cases h1
  · rw [slot_put_ne z] at c
    rw [List.getElem?_set_ne (fun q => z q.symm)]
    exact h.at_ j y c
end
end Tl

set_option Elab.async false
set_option linter.all false
set_option maxRecDepth 100000
set_option maxHeartbeats 4000000
/-! Readings at the second layer, and that they hold. -/
namespace Tl
open PySem L2
abbrev TDE := EnvD → Mem → (W → Mem → Prop) → Prop
abbrev TDA := EnvD → Mem → (List W → Mem → Prop) → Prop
abbrev TDT := EnvD → Mem → (Bool → Mem → Prop) → Prop
/-- a thing that is raised: its class, its fields -/
structure Ex where
  cls : Value
  fs : List (Str × PyData)
abbrev REx := Ex → EnvD → Mem → Prop
def XRel (K : PySem.W.Frag) (F : Hp) (cls : Value) (d : Option Addr) (x : Ex) : Prop := cls = x.cls ∧ FX K F d x.fs
def XOk (K : PySem.W.Frag) (F H : Hp) (M : Mem) (Wx : WX) (RE : REx) : Prop :=
  ∀ F' H' M' σ ρ cls d x, Gr F H M F' H' M' → Rl K F' H' M' → RelS K F' σ ρ → XRel K F' cls d x → RE x ρ M' → Wx cls d σ H'
theorem XOk.mono {K : PySem.W.Frag} {F H F' H' : Hp} {M M' : Mem} {Wx : WX} {RE : REx} (x : XOk K F H M Wx RE) (g : Gr F H M F' H' M') : XOk K F' H' M' Wx RE :=
  fun F2 H2 M2 σ ρ cls d e g2 => x F2 H2 M2 σ ρ cls d e (g.trans g2)
/-- what is wanted of a value, there as here -/
abbrev Kt (K : PySem.W.Frag) (F H : Hp) (M : Mem) (R : W → Mem → Prop) (Q : VK) : Prop := ∀ v H' F' M' x, Rl K F' H' M' → Gr F H M F' H' M' → RW K F' v x → R x M' → Q v H'
def SE (K : PySem.W.Frag) (Wx : WX) (RE : REx) (t : TE) (T : TDE) : Prop :=
  ∀ F H M σ ρ R Q, Rl K F H M → XOk K F H M Wx RE → RelS K F σ ρ → T ρ M R → Kt K F H M R Q → t σ H Q
def ST (K : PySem.W.Frag) (Wx : WX) (RE : REx) (t : TT) (T : TDT) : Prop :=
  ∀ F H M σ ρ (R : Bool → Mem → Prop) (Q : Bool → Hp → Prop), Rl K F H M → XOk K F H M Wx RE → RelS K F σ ρ → T ρ M R → (∀ b H' F' M', Rl K F' H' M' → Gr F H M F' H' M' → R b M' → Q b H') → t σ H Q
def SA (K : PySem.W.Frag) (Wx : WX) (RE : REx) (t : TA) (T : TDA) : Prop :=
  ∀ F H M σ ρ (R : List W → Mem → Prop) (Q : List V → Hp → Prop), Rl K F H M → XOk K F H M Wx RE → RelS K F σ ρ → T ρ M R → (∀ vs H' F' M' xs, Rl K F' H' M' → Gr F H M F' H' M' → RWs K F' vs xs → R xs M' → Q vs H') → t σ H Q
abbrev F2 := W → W → Mem → (W → Mem → Prop) → Prop
abbrev FL := List W → Mem → (W → Mem → Prop) → Prop
def SO (K : PySem.W.Frag) (r : R2) (f : F2) : Prop := ∀ F H M v u x y R Q, Rl K F H M → RW K F v x → RW K F u y → f x y M R → Kt K F H M R Q → r v u H Q
def SU (K : PySem.W.Frag) (r : V → Hp → VK → Prop) (f : W → Mem → (W → Mem → Prop) → Prop) : Prop := ∀ F H M v x R Q, Rl K F H M → RW K F v x → f x M R → Kt K F H M R Q → r v H Q
def SC (K : PySem.W.Frag) (r : List V → Hp → VK → Prop) (f : FL) : Prop := ∀ F H M vs xs R Q, Rl K F H M → RWs K F vs xs → f xs M R → Kt K F H M R Q → r vs H Q
inductive gO {α : Type} (o : Option α) (k : α → Prop) : Prop where
  | mk (a : α) (h : o = some a) (q : k a) : gO o k
theorem gO_of {α : Type} {o : Option α} {k : α → Prop} (h : gO o k) : ∃ a, o = some a ∧ k a := by
  cases h with
  | mk a h q => exact ⟨a, h, q⟩
theorem gO_i {α : Type} {o : Option α} {a : α} {k : α → Prop} (h : o = some a) (q : k a) : gO o k := .mk a h q
/-! ### what a value is -/
@[reducible] def gI (x : W) (k : Int → Prop) : Prop := match x with | .d (.int a) => k a | _ => False
@[reducible] def gS (x : W) (k : Str → Prop) : Prop := match x with | .d (.str a) => k a | _ => False
@[reducible] def gB (x : W) (k : Bool → Prop) : Prop := match x with | .d (.bool a) => k a | _ => False
@[reducible] def gT (x : W) (k : List PyData → Prop) : Prop := match x with | .d (.tuple a) => k a | _ => False
@[reducible] def gL (x : W) (k : List PyData → Prop) : Prop := match x with | .d (.list a) => k a | _ => False
@[reducible] def gD (x : W) (k : PyData → Prop) : Prop := match x with | .d a => k a | _ => False
@[reducible] def gR (x : W) (k : Addr → Prop) : Prop := match x with | .r a => k a | _ => False
theorem gI_of {x : W} {k : Int → Prop} (h : gI x k) : ∃ a, x = .d (.int a) ∧ k a := by
  unfold gI at h
  split at h
  · exact ⟨_, rfl, h⟩
  · exact h.elim
theorem gS_of {x : W} {k : Str → Prop} (h : gS x k) : ∃ a, x = .d (.str a) ∧ k a := by
  unfold gS at h
  split at h
  · exact ⟨_, rfl, h⟩
  · exact h.elim
theorem gB_of {x : W} {k : Bool → Prop} (h : gB x k) : ∃ a, x = .d (.bool a) ∧ k a := by
  unfold gB at h
  split at h
  · exact ⟨_, rfl, h⟩
  · exact h.elim
theorem gT_of {x : W} {k : List PyData → Prop} (h : gT x k) : ∃ a, x = .d (.tuple a) ∧ k a := by
  unfold gT at h
  split at h
  · exact ⟨_, rfl, h⟩
  · exact h.elim
theorem gL_of {x : W} {k : List PyData → Prop} (h : gL x k) : ∃ a, x = .d (.list a) ∧ k a := by
  unfold gL at h
  split at h
  · exact ⟨_, rfl, h⟩
  · exact h.elim
theorem gD_of {x : W} {k : PyData → Prop} (h : gD x k) : ∃ a, x = .d a ∧ k a := by
  unfold gD at h
  split at h
  · exact ⟨_, rfl, h⟩
  · exact h.elim
theorem gR_of {x : W} {k : Addr → Prop} (h : gR x k) : ∃ a, x = .r a ∧ k a := by
  unfold gR at h
  split at h
  · exact ⟨_, rfl, h⟩
  · exact h.elim
section
variable {K : PySem.W.Frag} {F H : Hp} {M : Mem} {v : V}
theorem RW.int {a : Int} (h : RW K F v (.d (.int a))) : v = .int a := by cases h with | d h => cases h; rfl
theorem RW.str {a : Str} (h : RW K F v (.d (.str a))) : v = .str a := by cases h with | d h => cases h; rfl
theorem RW.bl {a : Bool} (h : RW K F v (.d (.bool a))) : v = .bl a := by cases h with | d h => cases h; rfl
theorem RW.non (h : RW K F v (.d .none)) : v = .non := by cases h with | d h => cases h; rfl
theorem RW.dx {x : PyData} (h : RW K F v (.d x)) : Dx K F v x := by cases h with | d h => exact h
theorem RW.ref {a : Addr} (h : RW K F v (.r a)) : v = .ref a := by cases h; rfl
theorem RW.tup {ds : List PyData} (h : RW K F v (.d (.tuple ds))) : ∃ a xs, v = .ref a ∧ SqT K F a xs ∧ DxL K F xs ds := by
  cases h with
  | d h => cases h with | tup h1 h2 => exact ⟨_, _, rfl, h1, h2⟩
theorem RW.lst {ds : List PyData} (h : RW K F v (.d (.list ds))) : ∃ a xs, v = .ref a ∧ F a = some (.lst xs) ∧ DxL K F xs ds := by
  cases h with
  | d h => cases h with | lst h1 h2 => exact ⟨_, _, rfl, h1, h2⟩
theorem Rl.lst (h : Rl K F H M) {a : Addr} {ws : List W} (e : M a = some (.lst ws)) : ∃ vs, H a = some (.lst vs) ∧ RWs K F vs ws := by
  obtain ⟨_, h1, vs, rfl, h2⟩ := h.at_ a _ e
  exact ⟨vs, h1, h2⟩
/-- a new tuple of data -/
theorem Rl.tup (h : Rl K F H M) {p : Addr} {xs : List V} {ds : List PyData} (e : H p = none) (r : DxL K F xs ds) : Rl K (upd F p (.tup xs)) (upd H p (.tup xs)) M ∧ Gr F H M (upd F p (.tup xs)) (upd H p (.tup xs)) M ∧ RW K (upd F p (.tup xs)) (.ref p) (.d (.tuple ds)) := by
  obtain ⟨h1, h2⟩ := h.fresh (u := .tup xs) e
  exact ⟨h1, h2, .d (.tup (.inl (.inl upd_same)) (DxL.mono h2.ff _ _ r))⟩
theorem Rl.list (h : Rl K F H M) {p : Addr} {xs : List V} {ds : List PyData} (e : H p = none) (r : DxL K F xs ds) : Rl K (upd F p (.lst xs)) (upd H p (.lst xs)) M ∧ Gr F H M (upd F p (.lst xs)) (upd H p (.lst xs)) M ∧ RW K (upd F p (.lst xs)) (.ref p) (.d (.list ds)) := by
  obtain ⟨h1, h2⟩ := h.fresh (u := .lst xs) e
  exact ⟨h1, h2, .d (.lst upd_same (DxL.mono h2.ff _ _ r))⟩
end
section
variable {K : PySem.W.Frag} {Wx : WX} {RE : REx}
/-! ### names, constants -/
@[reducible] def nmT (i : Nat) : TDE := fun ρ M R => match slot ρ i with | some x => R x M | none => False
@[reducible] def cT (x : W) : TDE := fun _ M R => R x M
theorem se_nm {i : Nat} : SE K Wx RE (tVar i) (nmT i) := fun F H M σ ρ R Q hr hx hs ht k => by
  unfold nmT at ht
  cases c : slot ρ i with
  | none => rw [c] at ht; exact ht.elim
  | some x =>
    rw [c] at ht
    obtain ⟨v, h1, h2⟩ := hs.at_ i x c
    exact ⟨v, h1, k v H F M x hr .refl h2 ht⟩
theorem se_int {i : Int} : SE K Wx RE (tC (.int i)) (cT (.d (.int i))) := fun F H M σ ρ R Q hr hx hs ht k => k _ H F M _ hr .refl (.d (.int i)) ht
theorem se_str {i : Str} : SE K Wx RE (tC (.str i)) (cT (.d (.str i))) := fun F H M σ ρ R Q hr hx hs ht k => k _ H F M _ hr .refl (.d (.str i)) ht
theorem se_bl {i : Bool} : SE K Wx RE (tC (.bl i)) (cT (.d (.bool i))) := fun F H M σ ρ R Q hr hx hs ht k => k _ H F M _ hr .refl (.d (.bl i)) ht
theorem se_non : SE K Wx RE (tC .non) (cT (.d .none)) := fun F H M σ ρ R Q hr hx hs ht k => k _ H F M _ hr .refl (.d .non) ht
theorem se_o {v : V} : SE K Wx RE (tC v) (cT (.o v)) := fun F H M σ ρ R Q hr hx hs ht k => k _ H F M _ hr .refl (.o v) ht
/-- a thing of the module's own that is data -/
theorem se_k {v : V} {x : PyData} (h : ∀ F, Dx K F v x) : SE K Wx RE (tC v) (cT (.d x)) := fun F H M σ ρ R Q hr hx hs ht k => k _ H F M _ hr .refl (.d (h F)) ht
/-! ### operators -/
@[reducible] def opT (f : F2) (Ta Tb : TDE) : TDE := fun ρ M R => Ta ρ M fun x M1 => Tb ρ M1 fun y M2 => f x y M2 R
@[reducible] def unT (f : W → Mem → (W → Mem → Prop) → Prop) (Ta : TDE) : TDE := fun ρ M R => Ta ρ M fun x M1 => f x M1 R
theorem se_op {r : R2} {f : F2} {ta tb : TE} {Ta Tb : TDE} (ho : SO K r f) (ha : SE K Wx RE ta Ta) (hb : SE K Wx RE tb Tb) : SE K Wx RE (tOp r ta tb) (opT f Ta Tb) := fun F H M σ ρ R Q hr hx hs ht k =>
  ha F H M σ ρ _ _ hr hx hs ht fun v H1 F1 M1 x r1 g1 rx ht1 => hb F1 H1 M1 σ ρ _ _ r1 (hx.mono g1) (hs.mono g1.ff) ht1 fun u H2 F2 M2 y r2 g2 ry ht2 =>
    ho F2 H2 M2 v u x y R Q r2 (rx.mono g2.ff) ry ht2 fun w H3 F3 M3 z r3 g3 rz hz => k w H3 F3 M3 z r3 ((g1.trans g2).trans g3) rz hz
theorem se_un {r : V → Hp → VK → Prop} {f : W → Mem → (W → Mem → Prop) → Prop} {ta : TE} {Ta : TDE} (ho : SU K r f) (ha : SE K Wx RE ta Ta) : SE K Wx RE (tUn r ta) (unT f Ta) := fun F H M σ ρ R Q hr hx hs ht k =>
  ha F H M σ ρ _ _ hr hx hs ht fun v H1 F1 M1 x r1 g1 rx ht1 => ho F1 H1 M1 v x R Q r1 rx ht1 fun w H3 F3 M3 z r3 g3 rz hz => k w H3 F3 M3 z r3 (g1.trans g3) rz hz
@[reducible] def fI (g : Int → Int → PyData) : F2 := fun x y M R => gI x fun a => gI y fun b => R (.d (g a b)) M
@[reducible] def fIc (C : Int → Int → Prop) (g : Int → Int → PyData) : F2 := fun x y M R => gI x fun a => gI y fun b => C a b ∧ R (.d (g a b)) M
theorem so_I {gv : Int → Int → V} {g : Int → Int → PyData} (h : ∀ F i j, Dx K F (gv i j) (g i j)) : SO K (rI0 gv) (fI g) := fun F H M v u x y R Q hr rx ry hf k => by
  obtain ⟨a, rfl, hf1⟩ := gI_of hf
  obtain ⟨b, rfl, hf2⟩ := gI_of hf1
  exact ⟨a, b, rx.int, ry.int, k _ H F M _ hr .refl (.d (h F a b)) hf2⟩
theorem so_Ic {C : Int → Int → Prop} {gv : Int → Int → V} {g : Int → Int → PyData} (h : ∀ F i j, Dx K F (gv i j) (g i j)) : SO K (rI C gv) (fIc C g) := fun F H M v u x y R Q hr rx ry hf k => by
  obtain ⟨a, rfl, hf1⟩ := gI_of hf
  obtain ⟨b, rfl, hc, hf2⟩ := gI_of hf1
  exact ⟨a, b, rx.int, ry.int, hc, k _ H F M _ hr .refl (.d (h F a b)) hf2⟩
@[reducible] def fAdd : F2 := fI fun a b => .int (a + b)
@[reducible] def fSub : F2 := fI fun a b => .int (a - b)
@[reducible] def fMul : F2 := fIc CMul fun a b => .int (a * b)
@[reducible] def fMod : F2 := fIc (fun _ j => 0 < j) fun a b => .int (a % b)
@[reducible] def fDiv : F2 := fIc (fun _ j => 0 < j ∧ j < 1000000000) fun a b => .int (a / b)
@[reducible] def fPow : F2 := fIc CPow fun a b => .int (a ^ b.toNat)
@[reducible] def fLt : F2 := fI fun a b => .bool (decide (a < b))
@[reducible] def fLe : F2 := fI fun a b => .bool (decide (a ≤ b))
@[reducible] def fGt : F2 := fI fun a b => .bool (decide (b < a))
@[reducible] def fGe : F2 := fI fun a b => .bool (decide (b ≤ a))
theorem so_add : SO K (rI0 fun i j => .int (i + j)) fAdd := so_I fun _ _ _ => .int _
theorem so_sub : SO K (rI0 fun i j => .int (i - j)) fSub := so_I fun _ _ _ => .int _
theorem so_mul : SO K (rI CMul fun i j => .int (i * j)) fMul := so_Ic fun _ _ _ => .int _
theorem so_mod : SO K (rI (fun _ j => j ≠ 0) fun i j => .int (i.fmod j)) fMod := fun F H M v u x y R Q hr rx ry hf k => by
  obtain ⟨a, rfl, hf1⟩ := gI_of hf
  obtain ⟨b, rfl, hc, hf2⟩ := gI_of hf1
  refine ⟨a, b, rx.int, ry.int, by omega, ?_⟩
  show Q (V.int (a.fmod b)) H
  rw [Int.fmod_eq_emod_of_nonneg _ (by omega)]
  exact k _ H F M _ hr .refl (.d (.int _)) hf2
theorem so_div : SO K (rI CDivN fun i j => .int (i.fdiv j)) fDiv := fun F H M v u x y R Q hr rx ry hf k => by
  obtain ⟨a, rfl, hf1⟩ := gI_of hf
  obtain ⟨b, rfl, hc, hf2⟩ := gI_of hf1
  refine ⟨a, b, rx.int, ry.int, ⟨by omega, by omega⟩, ?_⟩
  show Q (V.int (a.fdiv b)) H
  rw [Int.fdiv_eq_ediv_of_nonneg _ (by omega)]
  exact k _ H F M _ hr .refl (.d (.int _)) hf2
theorem so_pow : SO K (rI CPow fun i j => .int (i ^ j.toNat)) fPow := so_Ic fun _ _ _ => .int _
theorem so_lt : SO K (rI0 fun i j => .bl (decide (i < j))) fLt := so_I fun _ _ _ => .bl _
theorem so_le : SO K (rI0 fun i j => .bl (decide (i ≤ j))) fLe := so_I fun _ _ _ => .bl _
theorem so_gt : SO K (rI0 fun i j => .bl (decide (j < i))) fGt := so_I fun _ _ _ => .bl _
theorem so_ge : SO K (rI0 fun i j => .bl (decide (j ≤ i))) fGe := so_I fun _ _ _ => .bl _
@[reducible] def fNeg : W → Mem → (W → Mem → Prop) → Prop := fun x M R => gI x fun a => R (.d (.int (-a))) M
theorem su_neg : SU K (rU fun i => .int (-i)) fNeg := fun F H M v x R Q hr rx hf k => by
  obtain ⟨a, rfl, hf⟩ := gI_of hf
  exact ⟨a, rx.int, k _ H F M _ hr .refl (.d (.int _)) hf⟩
/-- texts -/
@[reducible] def fS (g : Str → Str → PyData) : F2 := fun x y M R => gS x fun a => gS y fun b => R (.d (g a b)) M
@[reducible] def fAddS : F2 := fun x y M R => gS x fun a => gS y fun b => a.length + b.length ≤ sizeLine ∧ R (.d (.str (a ++ b))) M
theorem so_addS : SO K (fun x y H Q => ∃ i j, x = V.str i ∧ y = V.str j ∧ i.length + j.length ≤ sizeLine ∧ Q (.str (i ++ j)) H) fAddS := fun F H M v u x y R Q hr rx ry hf k => by
  obtain ⟨a, rfl, hf1⟩ := gS_of hf
  obtain ⟨b, rfl, hc, hf2⟩ := gS_of hf1
  exact ⟨a, b, rx.str, ry.str, hc, k _ H F M _ hr .refl (.d (.str _)) hf2⟩
@[reducible] def fLeS : F2 := fS fun i j => .bool (!decide (j.cps.toList < i.cps.toList))
theorem so_leS : SO K (fun x y H Q => ∃ i j, x = V.str i ∧ y = V.str j ∧ Q (.bl (!decide (j.cps.toList < i.cps.toList))) H) fLeS := fun F H M v u x y R Q hr rx ry hf k => by
  obtain ⟨a, rfl, hf1⟩ := gS_of hf
  obtain ⟨b, rfl, hf2⟩ := gS_of hf1
  exact ⟨a, b, rx.str, ry.str, k _ H F M _ hr .refl (.d (.bl _)) hf2⟩
@[reducible] def fRepS : F2 := fun x y M R => gS x fun a => gI y fun n => (a.length = 1 ∧ 0 ≤ n ∧ n ≤ 1000) ∧ R (.d (.str (repS a n.toNat))) M
theorem so_repS : SO K (fun x y H Q => ∃ (a : Str) (n : Int), x = .str a ∧ y = .int n ∧ a.length = 1 ∧ 0 ≤ n ∧ n ≤ 1000 ∧ Q (.str (repS a n.toNat)) H) fRepS := fun F H M v u x y R Q hr rx ry hf k => by
  obtain ⟨a, rfl, hf1⟩ := gS_of hf
  obtain ⟨b, rfl, ⟨h1, h2, h3⟩, hf2⟩ := gI_of hf1
  exact ⟨a, b, rx.str, ry.int, h1, h2, h3, k _ H F M _ hr .refl (.d (.str _)) hf2⟩
/-- one sign in a text -/
@[reducible] def gC (x : W) (k : Nat → Prop) : Prop := gS x fun a => ∃ c, a = ⟨#[c]⟩ ∧ k c
@[reducible] def fInS (neg : Bool) : F2 := fun x y M R => gS x fun a => gS y fun z => ∃ c, a = ⟨#[c]⟩ ∧ R (.d (.bool (ng neg (decide (c ∈ z.cps.toList))))) M
theorem so_inS : SO K (fun x y H Q => ∃ (c : Nat) (z : Str), x = .str ⟨#[c]⟩ ∧ y = .str z ∧ Q (.bl (decide (c ∈ z.cps.toList))) H) (fInS false) := fun F H M v u x y R Q hr rx ry hf k => by
  obtain ⟨a, rfl, hf1⟩ := gS_of hf
  obtain ⟨b, rfl, c, rfl, hf2⟩ := gS_of hf1
  exact ⟨c, b, rx.str, ry.str, k _ H F M _ hr .refl (.d (.bl _)) hf2⟩
theorem so_ninS : SO K (fun x y H Q => ∃ (c : Nat) (z : Str), x = .str ⟨#[c]⟩ ∧ y = .str z ∧ Q (.bl (!decide (c ∈ z.cps.toList))) H) (fInS true) := fun F H M v u x y R Q hr rx ry hf k => by
  obtain ⟨a, rfl, hf1⟩ := gS_of hf
  obtain ⟨b, rfl, c, rfl, hf2⟩ := gS_of hf1
  exact ⟨c, b, rx.str, ry.str, k _ H F M _ hr .refl (.d (.bl _)) hf2⟩
/-! ### is None -/
@[reducible] def isN : W → Option Bool
  | .d .none => some true
  | .d _ => some false
  | .r _ => some false
  | .o _ => none
  | .x _ _ _ _ => some false
@[reducible] def fIsN (neg : Bool) : F2 := fun x y M R => y = .d .none ∧ gO (isN x) fun b => R (.d (.bool (ng neg b))) M
theorem isN_of {F : Hp} {v : V} {x : W} {b : Bool} (r : RW K F v x) (h : isN x = some b) : decide (v = .non) = b := by
  cases r with
  | d r => cases r <;> (cases h; simp)
  | r a => cases h; simp
  | o v => cases h
  | x _ => cases h; simp
theorem so_isN : SO K (fun x y H Q => y = V.non ∧ Q (.bl (decide (x = .non))) H) (fIsN false) := fun F H M v u x y R Q hr rx ry hf k => by
  obtain ⟨rfl, hf⟩ := hf
  obtain ⟨b, c, hf⟩ := gO_of hf
  refine ⟨ry.non, ?_⟩
  rw [isN_of rx c]
  exact k _ H F M _ hr .refl (.d (.bl _)) hf
theorem so_notN : SO K (fun x y H Q => y = V.non ∧ Q (.bl (!decide (x = .non))) H) (fIsN true) := fun F H M v u x y R Q hr rx ry hf k => by
  obtain ⟨rfl, hf⟩ := hf
  obtain ⟨b, c, hf⟩ := gO_of hf
  refine ⟨ry.non, ?_⟩
  rw [isN_of rx c]
  exact k _ H F M _ hr .refl (.d (.bl _)) hf
/-! ### == -/
/-- a list of data that may change, or data, as data -/
@[reducible] def asD (M : Mem) (x : W) (k : PyData → Prop) : Prop := match x with
  | .d a => k a
  | .r a => ∃ ds, M a = some (.lst (ds.map W.d)) ∧ k (.list ds)
  | _ => False
theorem asD_of {F H : Hp} {M : Mem} {v : V} {x : W} {k : PyData → Prop} (hr : Rl K F H M) (r : RW K F v x) (h : asD M x k) : ∃ a F', Same F F' ∧ Same F' H ∧ Dx K F' v a ∧ k a := by
  cases x with
  | d a => exact ⟨a, F, Same.refl _, hr.fh, r.dx, h⟩
  | r a =>
    obtain ⟨ds, h1, h2⟩ := h
    obtain ⟨F', r', g', d'⟩ := hr.freeze h1
    rw [r.ref]
    exact ⟨_, F', g'.ff, r'.fh, d', h2⟩
  | o v => exact h.elim
  | x a C dd fs => exact h.elim
def eqOk (d : PyData) : Bool := !d.hasDict && SeqAt.shaped d
theorem eqOk_of {d : PyData} (h : eqOk d = true) : d.hasDict = false ∧ SeqAt.shaped d = true := by
  unfold eqOk at h
  rw [Bool.and_eq_true] at h
  exact ⟨by simpa using h.1, h.2⟩
@[reducible] def fEqD (neg : Bool) : F2 := fun x y M R => asD M x fun a => asD M y fun b => (eqOk a = true ∧ eqOk b = true) ∧ R (.d (.bool (ng neg (PyData.eqv a b)))) M
theorem so_eqD : SO K (rEqD K) (fEqD false) := fun F H M v u x y R Q hr rx ry hf k => by
  obtain ⟨a, F1, e1, f1, da, hf⟩ := asD_of hr rx hf
  obtain ⟨b, F2, e2, f2, db, ⟨ha, hb⟩, hf⟩ := asD_of hr ry hf
  exact ⟨a, b, Dx.dp _ _ (Dx.mono f1 _ _ da) (eqOk_of ha).1, Dx.dp _ _ (Dx.mono f2 _ _ db) (eqOk_of hb).1, (eqOk_of ha).2, (eqOk_of hb).2, k _ H F M _ hr .refl (.d (.bl _)) hf⟩
theorem so_neD : SO K (rNeD K) (fEqD true) := fun F H M v u x y R Q hr rx ry hf k => by
  obtain ⟨a, F1, e1, f1, da, hf⟩ := asD_of hr rx hf
  obtain ⟨b, F2, e2, f2, db, ⟨ha, hb⟩, hf⟩ := asD_of hr ry hf
  exact ⟨a, b, Dx.dp _ _ (Dx.mono f1 _ _ da) (eqOk_of ha).1, Dx.dp _ _ (Dx.mono f2 _ _ db) (eqOk_of hb).1, (eqOk_of ha).2, (eqOk_of hb).2, k _ H F M _ hr .refl (.d (.bl _)) hf⟩
/-- plain values: numbers, texts, truths, None -/
@[reducible] def eqS : PyData → PyData → Option Bool
  | .int a, .int b => some (decide (a = b))
  | .str a, .str b => some (decide (a = b))
  | .bool a, .bool b => some (decide (a = b))
  | .none, .none => some true
  | .none, .int _ => some false
  | .none, .str _ => some false
  | .none, .bool _ => some false
  | .int _, .none => some false
  | .str _, .none => some false
  | .bool _, .none => some false
  | .int _, .str _ => some false
  | .str _, .int _ => some false
  | .bool _, .str _ => some false
  | .str _, .bool _ => some false
  | _, _ => none
@[reducible] def fEqS (neg : Bool) : F2 := fun x y M R => gD x fun a => gD y fun b => gO (eqS a b) fun c => R (.d (.bool (ng neg c))) M
theorem eqS_of {F : Hp} {v u : V} {a b : PyData} {c : Bool} (ra : Dx K F v a) (rb : Dx K F u b) (h : eqS a b = some c) : scal v u = true ∧ decide (v = u) = c := by
  cases ra <;> cases rb <;> first | (cases h; done) | (simp only [eqS, Option.some.injEq] at h; subst h; refine ⟨rfl, ?_⟩; simp)
theorem so_eqS : SO K rEq (fEqS false) := fun F H M v u x y R Q hr rx ry hf k => by
  obtain ⟨a, rfl, hf1⟩ := gD_of hf
  obtain ⟨b, rfl, hf2⟩ := gD_of hf1
  obtain ⟨e, c, hf2⟩ := gO_of hf2
  obtain ⟨h1, h2⟩ := eqS_of rx.dx ry.dx c
  refine ⟨h1, ?_⟩
  rw [h2]
  exact k _ H F M _ hr .refl (.d (.bl _)) hf2
theorem so_neS : SO K rNe (fEqS true) := fun F H M v u x y R Q hr rx ry hf k => by
  obtain ⟨a, rfl, hf1⟩ := gD_of hf
  obtain ⟨b, rfl, hf2⟩ := gD_of hf1
  obtain ⟨e, c, hf2⟩ := gO_of hf2
  obtain ⟨h1, h2⟩ := eqS_of rx.dx ry.dx c
  refine ⟨h1, ?_⟩
  rw [h2]
  exact k _ H F M _ hr .refl (.d (.bl _)) hf2
end
end Tl

set_option Elab.async false
set_option linter.all false
set_option maxRecDepth 100000
set_option maxHeartbeats 4000000
namespace Tl
open PySem L2
section
variable {K : PySem.W.Frag} {Wx : WX} {RE : REx}
/-! ### tests -/
@[reducible] def tbT (T : TDE) : TDT := fun ρ M R => T ρ M fun x M1 => gB x fun c => R c M1
@[reducible] def andT (T U : TDT) : TDT := fun ρ M R => T ρ M fun c M1 => IfB c (U ρ M1 R) (R false M1)
@[reducible] def orT (T U : TDT) : TDT := fun ρ M R => T ρ M fun c M1 => IfB c (R true M1) (U ρ M1 R)
@[reducible] def notT (T : TDT) : TDT := fun ρ M R => T ρ M fun c M1 => R (!c) M1
@[reducible] def andV (T U : TDE) : TDE := fun ρ M R => T ρ M fun x M1 => gB x fun c => IfB c (U ρ M1 R) (R (.d (.bool false)) M1)
@[reducible] def orV (T U : TDE) : TDE := fun ρ M R => T ρ M fun x M1 => gB x fun c => IfB c (R (.d (.bool true)) M1) (U ρ M1 R)
@[reducible] def notV (T : TDE) : TDE := fun ρ M R => T ρ M fun x M1 => gB x fun c => R (.d (.bool (!c))) M1
@[reducible] def ifT (T : TDT) (A B : TDE) : TDE := fun ρ M R => T ρ M fun c M1 => IfB c (A ρ M1 R) (B ρ M1 R)
theorem st_val {t : TE} {T : TDE} (h : SE K Wx RE t T) : ST K Wx RE (tB t) (tbT T) := fun F H M σ ρ R Q hr hx hs ht k =>
  h F H M σ ρ _ _ hr hx hs ht fun v H1 F1 M1 x r1 g1 rx h1 => by
    obtain ⟨c, rfl, h2⟩ := gB_of h1
    exact ⟨c, rx.bl, k c H1 F1 M1 r1 g1 h2⟩
theorem st_test {t : TE} {T : TDE} (h : SE K Wx RE t T) : ST K Wx RE (tTest t) (tbT T) := fun F H M σ ρ R Q hr hx hs ht k =>
  h F H M σ ρ _ _ hr hx hs ht fun v H1 F1 M1 x r1 g1 rx h1 => by
    obtain ⟨c, rfl, h2⟩ := gB_of h1
    exact ⟨c, rx.bl, k c H1 F1 M1 r1 g1 h2⟩
theorem st_and {t u : TT} {T U : TDT} (ha : ST K Wx RE t T) (hb : ST K Wx RE u U) : ST K Wx RE (tAnd t u) (andT T U) := fun F H M σ ρ R Q hr hx hs ht k =>
  ha F H M σ ρ _ _ hr hx hs ht fun c H1 F1 M1 r1 g1 h1 => by
    have h1 := h1.ite
    by_cases hc : c = true
    · rw [if_pos hc] at h1 ⊢
      exact hb F1 H1 M1 σ ρ R Q r1 (hx.mono g1) (hs.mono g1.ff) h1 fun b H2 F2 M2 r2 g2 h2 => k b H2 F2 M2 r2 (g1.trans g2) h2
    · rw [if_neg hc] at h1 ⊢
      exact k _ H1 F1 M1 r1 g1 h1
theorem st_or {t u : TT} {T U : TDT} (ha : ST K Wx RE t T) (hb : ST K Wx RE u U) : ST K Wx RE (tOr t u) (orT T U) := fun F H M σ ρ R Q hr hx hs ht k =>
  ha F H M σ ρ _ _ hr hx hs ht fun c H1 F1 M1 r1 g1 h1 => by
    have h1 := h1.ite
    by_cases hc : c = true
    · rw [if_pos hc] at h1 ⊢
      exact k _ H1 F1 M1 r1 g1 h1
    · rw [if_neg hc] at h1 ⊢
      exact hb F1 H1 M1 σ ρ R Q r1 (hx.mono g1) (hs.mono g1.ff) h1 fun b H2 F2 M2 r2 g2 h2 => k b H2 F2 M2 r2 (g1.trans g2) h2
theorem st_not {t : TT} {T : TDT} (ha : ST K Wx RE t T) : ST K Wx RE (tNot t) (notT T) := fun F H M σ ρ R Q hr hx hs ht k =>
  ha F H M σ ρ _ _ hr hx hs ht fun c H1 F1 M1 r1 g1 h1 => k _ H1 F1 M1 r1 g1 h1
theorem se_and {t u : TE} {T U : TDE} (ha : SE K Wx RE t T) (hb : SE K Wx RE u U) : SE K Wx RE (tAndV t u) (andV T U) := fun F H M σ ρ R Q hr hx hs ht k =>
  ha F H M σ ρ _ _ hr hx hs ht fun v H1 F1 M1 x r1 g1 rx h1 => by
    obtain ⟨c, rfl, h2⟩ := gB_of h1
    refine ⟨c, rx.bl, ?_⟩
    have h2 := h2.ite
    by_cases hc : c = true
    · rw [if_pos hc] at h2 ⊢
      exact hb F1 H1 M1 σ ρ R Q r1 (hx.mono g1) (hs.mono g1.ff) h2 fun b H2 F2 M2 x r2 g2 h3 h4 => k b H2 F2 M2 x r2 (g1.trans g2) h3 h4
    · rw [if_neg hc] at h2 ⊢
      exact k _ H1 F1 M1 _ r1 g1 (.d (.bl _)) h2
theorem se_or {t u : TE} {T U : TDE} (ha : SE K Wx RE t T) (hb : SE K Wx RE u U) : SE K Wx RE (tOrV t u) (orV T U) := fun F H M σ ρ R Q hr hx hs ht k =>
  ha F H M σ ρ _ _ hr hx hs ht fun v H1 F1 M1 x r1 g1 rx h1 => by
    obtain ⟨c, rfl, h2⟩ := gB_of h1
    refine ⟨c, rx.bl, ?_⟩
    have h2 := h2.ite
    by_cases hc : c = true
    · rw [if_pos hc] at h2 ⊢
      exact k _ H1 F1 M1 _ r1 g1 (.d (.bl _)) h2
    · rw [if_neg hc] at h2 ⊢
      exact hb F1 H1 M1 σ ρ R Q r1 (hx.mono g1) (hs.mono g1.ff) h2 fun b H2 F2 M2 x r2 g2 h3 h4 => k b H2 F2 M2 x r2 (g1.trans g2) h3 h4
theorem se_not {t : TE} {T : TDE} (ha : SE K Wx RE t T) : SE K Wx RE (tNotV t) (notV T) := fun F H M σ ρ R Q hr hx hs ht k =>
  ha F H M σ ρ _ _ hr hx hs ht fun v H1 F1 M1 x r1 g1 rx h1 => by
    obtain ⟨c, rfl, h2⟩ := gB_of h1
    exact ⟨c, rx.bl, k _ H1 F1 M1 _ r1 g1 (.d (.bl _)) h2⟩
theorem se_if {t : TT} {T : TDT} {ta tb : TE} {A B : TDE} (hc : ST K Wx RE t T) (ha : SE K Wx RE ta A) (hb : SE K Wx RE tb B) : SE K Wx RE (tIf t ta tb) (ifT T A B) := fun F H M σ ρ R Q hr hx hs ht k =>
  hc F H M σ ρ _ _ hr hx hs ht fun c H1 F1 M1 r1 g1 h1 => by
    have h1 := h1.ite
    by_cases hc : c = true
    · rw [if_pos hc] at h1 ⊢
      exact ha F1 H1 M1 σ ρ R Q r1 (hx.mono g1) (hs.mono g1.ff) h1 fun b H2 F2 M2 x r2 g2 h3 h4 => k b H2 F2 M2 x r2 (g1.trans g2) h3 h4
    · rw [if_neg hc] at h1 ⊢
      exact hb F1 H1 M1 σ ρ R Q r1 (hx.mono g1) (hs.mono g1.ff) h1 fun b H2 F2 M2 x r2 g2 h3 h4 => k b H2 F2 M2 x r2 (g1.trans g2) h3 h4
@[reducible] def chT (f f' : F2) (Ta Tb Tc : TDE) : TDE := fun ρ M R => Ta ρ M fun x M1 => Tb ρ M1 fun y M2 => f x y M2 fun z M3 => gB z fun c => IfB c (Tc ρ M3 fun w M4 => f' y w M4 R) (R (.d (.bool false)) M3)
theorem se_chain {r r' : R2} {f f' : F2} {ta tb tc : TE} {Ta Tb Tc : TDE} (ho : SO K r f) (ho' : SO K r' f') (ha : SE K Wx RE ta Ta) (hb : SE K Wx RE tb Tb) (hc : SE K Wx RE tc Tc) : SE K Wx RE (tChain r r' ta tb tc) (chT f f' Ta Tb Tc) := fun F H M σ ρ R Q hr hx hs ht k =>
  ha F H M σ ρ _ _ hr hx hs ht fun v H1 F1 M1 x r1 g1 rx ht1 => hb F1 H1 M1 σ ρ _ _ r1 (hx.mono g1) (hs.mono g1.ff) ht1 fun u H2 F2 M2 y r2 g2 ry ht2 =>
    ho F2 H2 M2 v u x y _ _ r2 (rx.mono g2.ff) ry ht2 fun w H3 F3 M3 z r3 g3 rz hz => by
      obtain ⟨c, rfl, h2⟩ := gB_of hz
      refine ⟨c, rz.bl, ?_⟩
      have g := (g1.trans g2).trans g3
      have h2 := h2.ite
      by_cases hc' : c = true
      · rw [if_pos hc'] at h2 ⊢
        exact hc F3 H3 M3 σ ρ _ _ r3 (hx.mono g) (hs.mono g.ff) h2 fun w4 H4 F4 M4 z4 r4 g4 rz4 h4 =>
          ho' F4 H4 M4 u w4 y z4 R Q r4 (ry.mono (g3.trans g4).ff) rz4 h4 fun w5 H5 F5 M5 z5 r5 g5 rz5 h5 => k w5 H5 F5 M5 z5 r5 ((g.trans g4).trans g5) rz5 h5
      · rw [if_neg hc'] at h2 ⊢
        exact k _ H3 F3 M3 _ r3 g (.d (.bl _)) h2
/-! ### arguments, displays -/
def SAn (K : PySem.W.Frag) (Wx : WX) (RE : REx) (n : Nat) (t : TA) (T : TDA) : Prop :=
  ∀ F H M σ ρ (R : List W → Mem → Prop) (Q : List V → Hp → Prop), Rl K F H M → XOk K F H M Wx RE → RelS K F σ ρ → T ρ M R → (∀ vs H' F' M' xs, Rl K F' H' M' → Gr F H M F' H' M' → RWs K F' vs xs → xs.length = n → R xs M' → Q vs H') → t σ H Q
@[reducible] def nilA : TDA := fun _ M R => R [] M
@[reducible] def consA (T : TDE) (U : TDA) : TDA := fun ρ M R => T ρ M fun x M1 => U ρ M1 fun xs M2 => R (x :: xs) M2
theorem sa_nil : SAn K Wx RE 0 tNil nilA := fun F H M σ ρ R Q hr hx hs ht k => k [] H F M [] hr .refl .nil rfl ht
theorem sa_cons {n : Nat} {t : TE} {u : TA} {T : TDE} {U : TDA} (ha : SE K Wx RE t T) (hb : SAn K Wx RE n u U) : SAn K Wx RE (n + 1) (tCons t u) (consA T U) := fun F H M σ ρ R Q hr hx hs ht k =>
  ha F H M σ ρ _ _ hr hx hs ht fun v H1 F1 M1 x r1 g1 rx h1 => hb F1 H1 M1 σ ρ _ _ r1 (hx.mono g1) (hs.mono g1.ff) h1 fun vs H2 F2 M2 xs r2 g2 rxs hl h2 =>
    k (v :: vs) H2 F2 M2 (x :: xs) r2 (g1.trans g2) (.cons (rx.mono g2.ff) rxs) (by rw [List.length_cons, hl]) h2
/-- all of them data -/
inductive gDs (xs : List W) (k : List PyData → Prop) : Prop where
  | mk (ds : List PyData) (h : xs = ds.map W.d) (q : k ds)
theorem gDs_of {xs : List W} {k : List PyData → Prop} (h : gDs xs k) : ∃ ds, xs = ds.map W.d ∧ k ds := by
  cases h with
  | mk ds h q => exact ⟨ds, h, q⟩
theorem map_injD {α β : Type} {f : α → β} (hf : ∀ a b, f a = f b → a = b) : ∀ {xs ys : List α}, xs.map f = ys.map f → xs = ys
  | [], [], _ => rfl
  | [], _ :: _, h => by cases h
  | _ :: _, [], h => by cases h
  | x :: xs, y :: ys, h => by
    rw [List.map_cons, List.map_cons] at h
    injection h with h1 h2
    rw [hf _ _ h1, map_injD hf h2]
theorem gDs_map {ds : List PyData} {k : List PyData → Prop} : gDs (ds.map W.d) k = k ds := propext ⟨fun h => by
  obtain ⟨es, e, q⟩ := gDs_of h
  rw [map_injD (fun a b h => by injection h) e]
  exact q, fun q => .mk ds rfl q⟩
theorem gDs_n {k : List PyData → Prop} (q : k []) : gDs [] k := .mk [] rfl q
theorem gDs_c {a : PyData} {r : List W} {k : List PyData → Prop} (h : gDs r fun ds => k (a :: ds)) : gDs (.d a :: r) k := by
  obtain ⟨ds, rfl, q⟩ := gDs_of h
  exact .mk (a :: ds) rfl q
@[reducible] def tupT (T : TDA) : TDE := fun ρ M R => T ρ M fun xs M1 => gDs xs fun ds => R (.d (.tuple ds)) M1
@[reducible] def lsfT (T : TDA) : TDE := fun ρ M R => T ρ M fun xs M1 => gDs xs fun ds => R (.d (.list ds)) M1
@[reducible] def lstT (T : TDA) : TDE := fun ρ M R => T ρ M fun xs M1 => ∀ p, M1 p = none → R (.r p) (mset M1 p (.lst xs))
theorem se_tup {n : Nat} {t : TA} {T : TDA} (h : SAn K Wx RE n t T) (hn : n ≤ 1000 := by decide) : SE K Wx RE (tTup t) (tupT T) := fun F H M σ ρ R Q hr hx hs ht k =>
  h F H M σ ρ _ _ hr hx hs ht fun vs H1 F1 M1 xs r1 g1 rxs hl h1 => by
    obtain ⟨ds, rfl, h2⟩ := gDs_of h1
    refine ⟨by rw [rxs.len, hl]; exact sz1000 hn, fun p hp => ?_⟩
    obtain ⟨r2, g2, rz⟩ := r1.tup hp rxs.undat
    exact k _ _ _ _ _ r2 (g1.trans g2) rz h2
theorem se_lsf {n : Nat} {t : TA} {T : TDA} (h : SAn K Wx RE n t T) (hn : n ≤ 1000 := by decide) : SE K Wx RE (tLst t) (lsfT T) := fun F H M σ ρ R Q hr hx hs ht k =>
  h F H M σ ρ _ _ hr hx hs ht fun vs H1 F1 M1 xs r1 g1 rxs hl h1 => by
    obtain ⟨ds, rfl, h2⟩ := gDs_of h1
    refine ⟨by rw [rxs.len, hl]; exact sz1000 hn, fun p hp => ?_⟩
    obtain ⟨r2, g2, rz⟩ := r1.list hp rxs.undat
    exact k _ _ _ _ _ r2 (g1.trans g2) rz h2
theorem se_lst {n : Nat} {t : TA} {T : TDA} (h : SAn K Wx RE n t T) (hn : n ≤ 1000 := by decide) : SE K Wx RE (tLst t) (lstT T) := fun F H M σ ρ R Q hr hx hs ht k =>
  h F H M σ ρ _ _ hr hx hs ht fun vs H1 F1 M1 xs r1 g1 rxs hl h1 => by
    refine ⟨by rw [rxs.len, hl]; exact sz1000 hn, fun p hp => ?_⟩
    obtain ⟨r2, g2⟩ := r1.born (u := .lst vs) (o := .lst xs) hp ⟨vs, rfl, rxs⟩
    exact k _ _ _ _ _ r2 (g1.trans g2) (.r p) (h1 p (r1.new hp))
/-- whatever it is, a list that may change becomes data -/
@[reducible] def frT (T : TDE) : TDE := fun ρ M R => T ρ M fun x M1 => match x with
  | .r a => ∃ ds, M1 a = some (.lst (ds.map W.d)) ∧ R (.d (.list ds)) (mdel M1 a)
  | x => R x M1
theorem se_fr {t : TE} {T : TDE} (h : SE K Wx RE t T) : SE K Wx RE t (frT T) := fun F H M σ ρ R Q hr hx hs ht k =>
  h F H M σ ρ _ _ hr hx hs ht fun v H1 F1 M1 x r1 g1 rx h1 => by
    cases x with
    | d a => exact k v H1 F1 M1 _ r1 g1 rx h1
    | o a => exact k v H1 F1 M1 _ r1 g1 rx h1
    | x a C dd fs => exact k v H1 F1 M1 _ r1 g1 rx h1
    | r a =>
      obtain ⟨ds, h2, h3⟩ := h1
      obtain ⟨F2, r2, g2, d2⟩ := r1.freeze h2
      rw [rx.ref] at *
      exact k _ H1 F2 _ _ r2 (g1.trans g2) (.d d2) h3
/-! ### items -/
/-- the items of a list, data or not -/
@[reducible] def gW (M : Mem) (x : W) (k : List W → Prop) : Prop := match x with
  | .d (.list ds) => k (ds.map W.d)
  | .r a => ∃ ws, M a = some (.lst ws) ∧ k ws
  | _ => False
theorem gW_of {F H : Hp} {M : Mem} {v : V} {x : W} {k : List W → Prop} (hr : Rl K F H M) (r : RW K F v x) (h : gW M x k) : ∃ a vs ws, v = .ref a ∧ H a = some (.lst vs) ∧ RWs K F vs ws ∧ k ws := by
  unfold gW at h
  split at h
  · obtain ⟨a, xs, rfl, h1, h2⟩ := r.lst
    exact ⟨a, xs, _, rfl, hr.fh _ _ h1, .dat h2, h⟩
  · obtain ⟨ws, h1, h2⟩ := h
    obtain ⟨vs, h3, h4⟩ := hr.lst h1
    exact ⟨_, vs, ws, r.ref, h3, h4, h2⟩
  · exact h.elim
theorem atI_map {α β : Type} (f : α → β) (xs : List α) (i : Int) : atI (xs.map f) i = (atI xs i).map f := by
  unfold atI
  rw [List.length_map]
  cases ixN xs.length i with
  | none => rfl
  | some j => simp
theorem atI_rw {F : Hp} {vs : List V} {xs : List W} {i : Int} {x : W} (r : RWs K F vs xs) (h : atI xs i = some x) : ∃ v, atI vs i = some v ∧ RW K F v x := by
  unfold atI at h ⊢
  rw [r.len]
  cases c : ixN xs.length i with
  | none => rw [c] at h; cases h
  | some j => rw [c] at h; exact r.got h
theorem atI_dx {F : Hp} {vs : List V} {ds : List PyData} {i : Int} {d : PyData} (r : DxL K F vs ds) (h : atI ds i = some d) : ∃ v, atI vs i = some v ∧ Dx K F v d := by
  unfold atI at h ⊢
  rw [r.len]
  cases c : ixN ds.length i with
  | none => rw [c] at h; cases h
  | some j => rw [c] at h; exact r.got h
@[reducible] def fIxT : F2 := fun x y M R => gT x fun ds => gI y fun i => gO (atI ds i) fun d => R (.d d) M
@[reducible] def fIxL : F2 := fun x y M R => gW M x fun ws => gI y fun i => gO (atI ws i) fun w => R w M
@[reducible] def fIxS : F2 := fun x y M R => gS x fun z => gI y fun i => z.length ≤ sizeLine ∧ gO (atI z.cps.toList i) fun c => R (.d (.str ⟨#[c]⟩)) M
theorem so_ixT : SO K (rIxT K) fIxT := fun F H M v u x y R Q hr rx ry hf k => by
  obtain ⟨ds, rfl, h1⟩ := gT_of hf
  obtain ⟨i, rfl, h2⟩ := gI_of h1
  obtain ⟨d, h3, h4⟩ := gO_of h2
  obtain ⟨a, xs, rfl, h5, h6⟩ := rx.tup
  obtain ⟨w, h7, h8⟩ := atI_dx h6 h3
  exact ⟨a, xs, i, w, rfl, ry.int, same_t hr.fh h5, h7, k _ H F M _ hr .refl (.d h8) h4⟩
theorem so_ixL : SO K (rIxL K) fIxL := fun F H M v u x y R Q hr rx ry hf k => by
  obtain ⟨a, vs, ws, rfl, h1, h2, h3⟩ := gW_of hr rx hf
  obtain ⟨i, rfl, h4⟩ := gI_of h3
  obtain ⟨w, h5, h6⟩ := gO_of h4
  obtain ⟨u2, h7, h8⟩ := atI_rw h2 h5
  exact ⟨a, vs, i, u2, rfl, ry.int, SqL.of h1, h7, k _ H F M _ hr .refl h8 h6⟩
theorem so_ixS : SO K rIxS fIxS := fun F H M v u x y R Q hr rx ry hf k => by
  obtain ⟨z, rfl, h1⟩ := gS_of hf
  obtain ⟨i, rfl, hz, h2⟩ := gI_of h1
  obtain ⟨c, h3, h4⟩ := gO_of h2
  exact ⟨z, i, c, rx.str, ry.int, hz, h3, k _ H F M _ hr .refl (.d (.str _)) h4⟩
/-! ### slices -/
abbrev TDO := EnvD → Mem → (Option Int → Mem → Prop) → Prop
def SPt (K : PySem.W.Frag) (Wx : WX) (RE : REx) (t : TO) (T : TDO) : Prop :=
  ∀ F H M σ ρ (R : Option Int → Mem → Prop) (Q : Option Int → Hp → Prop), Rl K F H M → XOk K F H M Wx RE → RelS K F σ ρ → T ρ M R → (∀ o H' F' M', Rl K F' H' M' → Gr F H M F' H' M' → R o M' → Q o H') → t σ H Q
@[reducible] def noP : TDO := fun _ M R => R none M
@[reducible] def someP (T : TDE) : TDO := fun ρ M R => T ρ M fun x M1 => gI x fun i => R (some i) M1
theorem sp_no : SPt K Wx RE tNoPart noP := fun F H M σ ρ R Q hr hx hs ht k => k none H F M hr .refl ht
theorem sp_some {t : TE} {T : TDE} (h : SE K Wx RE t T) : SPt K Wx RE (tPart t) (someP T) := fun F H M σ ρ R Q hr hx hs ht k =>
  h F H M σ ρ _ _ hr hx hs ht fun v H1 F1 M1 x r1 g1 rx h1 => by
    obtain ⟨i, rfl, h2⟩ := gI_of h1
    exact ⟨i, rx.int, k _ H1 F1 M1 r1 g1 h2⟩
abbrev FSl := W → Option Int → Option Int → Mem → (W → Mem → Prop) → Prop
def SSl (K : PySem.W.Frag) (r : V → Option Int → Option Int → Hp → VK → Prop) (f : FSl) : Prop := ∀ F H M v x lo hi R Q, Rl K F H M → RW K F v x → f x lo hi M R → Kt K F H M R Q → r v lo hi H Q
@[reducible] def slT (f : FSl) (T : TDE) (Tl Th : TDO) : TDE := fun ρ M R => T ρ M fun x M1 => Tl ρ M1 fun lo M2 => Th ρ M2 fun hi M3 => f x lo hi M3 R
theorem se_sl {r : V → Option Int → Option Int → Hp → VK → Prop} {f : FSl} {te : TE} {tl th : TO} {T : TDE} {Tl Th : TDO} (ho : SSl K r f) (he : SE K Wx RE te T) (hl : SPt K Wx RE tl Tl) (hh : SPt K Wx RE th Th) : SE K Wx RE (tSl r te tl th) (slT f T Tl Th) := fun F H M σ ρ R Q hr hx hs ht k =>
  he F H M σ ρ _ _ hr hx hs ht fun v H1 F1 M1 x r1 g1 rx h1 => hl F1 H1 M1 σ ρ _ _ r1 (hx.mono g1) (hs.mono g1.ff) h1 fun lo H2 F2 M2 r2 g2 h2 =>
    hh F2 H2 M2 σ ρ _ _ r2 (hx.mono (g1.trans g2)) (hs.mono (g1.trans g2).ff) h2 fun hi H3 F3 M3 r3 g3 h3 =>
      ho F3 H3 M3 v x lo hi R Q r3 (rx.mono (g2.trans g3).ff) h3 fun w H4 F4 M4 z r4 g4 rz hz => k w H4 F4 M4 z r4 (((g1.trans g2).trans g3).trans g4) rz hz
def cut {α : Type} (xs : List α) (lo hi : Option Int) : List α := (xs.drop (HT.sIx xs.length 0 lo)).take (HT.sIx xs.length xs.length hi - HT.sIx xs.length 0 lo)
theorem cut_dx {F : Hp} {vs : List V} {ds : List PyData} {lo hi : Option Int} (r : DxL K F vs ds) : DxL K F (cutV vs lo hi) (cut ds lo hi) := by
  unfold cutV cut
  rw [r.len]
  exact (r.drop _).take _
theorem cut_rw {F : Hp} {vs : List V} {ds : List W} {lo hi : Option Int} (r : RWs K F vs ds) : RWs K F (cutV vs lo hi) (cut ds lo hi) := by
  unfold cutV cut
  rw [r.len]
  exact (r.drop _).take _
theorem cut_whole {α : Type} {xs : List α} {lo hi : Option Int} (h : HT.sIx xs.length 0 lo = 0 ∧ HT.sIx xs.length xs.length hi = xs.length) : cut xs lo hi = xs := by
  unfold cut
  rw [h.1, h.2, List.drop_zero, Nat.sub_zero, List.take_length]
theorem cut_map {α β : Type} (f : α → β) (xs : List α) (lo hi : Option Int) : cut (xs.map f) lo hi = (cut xs lo hi).map f := by
  unfold cut
  rw [List.length_map, List.map_take, List.map_drop]
@[reducible] def fSlT : FSl := fun x lo hi M R => gT x fun ds => R (.d (.tuple (cut ds lo hi))) M
theorem sl_T : SSl K (rSlA K) fSlT := fun F H M v x lo hi R Q hr rx hf k => by
  obtain ⟨ds, rfl, h1⟩ := gT_of hf
  obtain ⟨a, xs, rfl, h2, h3⟩ := rx.tup
  refine ⟨a, xs, rfl, same_t hr.fh h2, fun hw => ?_, fun _ p hp => ?_⟩
  · rw [h3.len] at hw
    rw [cut_whole hw] at h1
    exact k _ H F M _ hr .refl rx h1
  · obtain ⟨r2, g2, rz⟩ := hr.tup hp (cut_dx (lo := lo) (hi := hi) h3)
    exact k _ _ _ _ _ r2 g2 rz h1
/-- a slice of a list: data -/
@[reducible] def fSlF : FSl := fun x lo hi M R => gW M x fun ws => gDs ws fun ds => R (.d (.list (cut ds lo hi))) M
theorem sl_F : SSl K (rSlL K) fSlF := fun F H M v x lo hi R Q hr rx hf k => by
  obtain ⟨a, vs, ws, rfl, h1, h2, h3⟩ := gW_of hr rx hf
  obtain ⟨ds, rfl, h4⟩ := gDs_of h3
  refine ⟨a, vs, rfl, SqL.of h1, fun p hp => ?_⟩
  obtain ⟨r2, g2, rz⟩ := hr.list hp (cut_dx (lo := lo) (hi := hi) h2.undat)
  exact k _ _ _ _ _ r2 g2 rz h4
/-- a slice of a list: a list that may change -/
@[reducible] def fSlL : FSl := fun x lo hi M R => gW M x fun ws => ∀ p, M p = none → R (.r p) (mset M p (.lst (cut ws lo hi)))
theorem sl_L : SSl K (rSlL K) fSlL := fun F H M v x lo hi R Q hr rx hf k => by
  obtain ⟨a, vs, ws, rfl, h1, h2, h3⟩ := gW_of hr rx hf
  refine ⟨a, vs, rfl, SqL.of h1, fun p hp => ?_⟩
  obtain ⟨r2, g2⟩ := hr.born (u := .lst (cutV vs lo hi)) (o := .lst (cut ws lo hi)) hp ⟨_, rfl, cut_rw h2⟩
  exact k _ _ _ _ _ r2 g2 (.r p) (h3 p (hr.new hp))
@[reducible] def fSlS : FSl := fun x lo hi M R => gS x fun z => z.length ≤ sizeLine ∧ R (.d (.str (cutS z lo hi))) M
theorem sl_S : SSl K rSlS fSlS := fun F H M v x lo hi R Q hr rx hf k => by
  obtain ⟨z, rfl, hz, h1⟩ := gS_of hf
  exact ⟨z, rx.str, hz, k _ H F M _ hr .refl (.d (.str _)) h1⟩
@[reducible] def rvF (T : TDE) : TDE := fun ρ M R => T ρ M fun x M1 => gW M1 x fun ws => gDs ws fun ds => R (.d (.list ds.reverse)) M1
theorem se_rvF {t : TE} {T : TDE} (h : SE K Wx RE t T) : SE K Wx RE (tRevL K t) (rvF T) := fun F H M σ ρ R Q hr hx hs ht k =>
  h F H M σ ρ _ _ hr hx hs ht fun v H1 F1 M1 x r1 g1 rx h1 => by
    obtain ⟨a, vs, ws, rfl, h2, h3, h4⟩ := gW_of r1 rx h1
    obtain ⟨ds, rfl, h5⟩ := gDs_of h4
    refine ⟨a, vs, rfl, SqL.of h2, fun p hp => ?_⟩
    obtain ⟨r2, g2, rz⟩ := r1.list hp h3.undat.rev
    exact k _ _ _ _ _ r2 (g1.trans g2) rz h5
/-! ### + and * of rows -/
@[reducible] def fCatT : F2 := fun x y M R => gT x fun a => gT y fun b => a.length + b.length ≤ sizeLine ∧ R (.d (.tuple (a ++ b))) M
theorem so_catT : SO K (rCatA K) fCatT := fun F H M v u x y R Q hr rx ry hf k => by
  obtain ⟨a, rfl, h1⟩ := gT_of hf
  obtain ⟨b, rfl, hz, h2⟩ := gT_of h1
  obtain ⟨p, xs, rfl, h3, h4⟩ := rx.tup
  obtain ⟨q, ys, rfl, h5, h6⟩ := ry.tup
  refine ⟨p, q, xs, ys, rfl, rfl, same_t hr.fh h3, same_t hr.fh h5, by rw [h4.len, h6.len]; exact hz, fun e => ?_, fun _ e => ?_, fun _ _ t ht => ?_⟩
  · have ea : a = [] := by
      apply List.eq_nil_of_length_eq_zero
      rw [← h4.len, e]
      rfl
    subst ea
    exact k _ H F M _ hr .refl ry h2
  · have eb : b = [] := by
      apply List.eq_nil_of_length_eq_zero
      rw [← h6.len, e]
      rfl
    subst eb
    rw [List.append_nil] at h2
    exact k _ H F M _ hr .refl rx h2
  · obtain ⟨r2, g2, rz⟩ := hr.tup ht (h4.app h6)
    exact k _ _ _ _ _ r2 g2 rz h2
/-- list + list: data -/
@[reducible] def fCatF : F2 := fun x y M R => gW M x fun a => gW M y fun b => gDs a fun a => gDs b fun b => a.length + b.length ≤ sizeLine ∧ R (.d (.list (a ++ b))) M
theorem so_catF : SO K rCat fCatF := fun F H M v u x y R Q hr rx ry hf k => by
  obtain ⟨p, vs, ws, rfl, h1, h2, h3⟩ := gW_of hr rx hf
  obtain ⟨q, us, zs, rfl, h4, h5, h6⟩ := gW_of hr ry h3
  obtain ⟨a, rfl, h7⟩ := gDs_of h6
  obtain ⟨b, rfl, hz, h8⟩ := gDs_of h7
  refine ⟨p, q, vs, us, rfl, rfl, h1, h4, by rw [h2.len, h5.len, List.length_map, List.length_map]; exact hz, fun t ht => ?_⟩
  obtain ⟨r2, g2, rz⟩ := hr.list ht (h2.undat.app h5.undat)
  exact k _ _ _ _ _ r2 g2 rz h8
@[reducible] def fCatL : F2 := fun x y M R => gW M x fun a => gW M y fun b => a.length + b.length ≤ sizeLine ∧ ∀ p, M p = none → R (.r p) (mset M p (.lst (a ++ b)))
theorem so_catL : SO K rCat fCatL := fun F H M v u x y R Q hr rx ry hf k => by
  obtain ⟨p, vs, ws, rfl, h1, h2, h3⟩ := gW_of hr rx hf
  obtain ⟨q, us, zs, rfl, h4, h5, hz, h6⟩ := gW_of hr ry h3
  refine ⟨p, q, vs, us, rfl, rfl, h1, h4, by rw [h2.len, h5.len]; exact hz, fun t ht => ?_⟩
  obtain ⟨r2, g2⟩ := hr.born (u := .lst (vs ++ us)) (o := .lst (ws ++ zs)) ht ⟨_, rfl, h2.app h5⟩
  exact k _ _ _ _ _ r2 g2 (.r t) (h6 t (hr.new ht))
@[reducible] def fRepT : F2 := fun x y M R => gT x fun a => gI y fun n => (0 ≤ n ∧ n ≤ 1000 ∧ a.length ≤ 1000) ∧ R (.d (.tuple (List.replicate n.toNat a).flatten)) M
theorem so_repT : SO K (rRepA K) fRepT := fun F H M v u x y R Q hr rx ry hf k => by
  obtain ⟨a, rfl, h1⟩ := gT_of hf
  obtain ⟨n, rfl, ⟨c1, c2, c3⟩, h2⟩ := gI_of h1
  obtain ⟨p, xs, rfl, h3, h4⟩ := rx.tup
  refine ⟨p, n, xs, rfl, ry.int, same_t hr.fh h3, c1, c2, by rw [h4.len]; exact c3, fun e => ?_, fun _ t ht => ?_⟩
  · have ea : (List.replicate n.toNat a).flatten = a := by
      rcases e with e | e
      · have : a = [] := by
          apply List.eq_nil_of_length_eq_zero
          rw [← h4.len, e]
          rfl
        subst this
        simp
      · subst e
        simp
    rw [ea] at h2
    exact k _ H F M _ hr .refl rx h2
  · obtain ⟨r2, g2, rz⟩ := hr.tup ht (h4.rep n.toNat)
    exact k _ _ _ _ _ r2 g2 rz h2
end
end Tl

set_option Elab.async false
set_option linter.all false
set_option maxRecDepth 100000
set_option maxHeartbeats 4000000
namespace Tl
open PySem L2
section
variable {K : PySem.W.Frag} {Wx : WX} {RE : REx}
/-! ### built-in calls -/
@[reducible] def cbT (f : FL) (T : TDA) : TDE := fun ρ M R => T ρ M fun xs M1 => f xs M1 R
theorem se_cb {n : Nat} {r : List V → Hp → VK → Prop} {f : FL} {t : TA} {T : TDA} (ho : SC K r f) (h : SAn K Wx RE n t T) : SE K Wx RE (tCB r t) (cbT f T) := fun F H M σ ρ R Q hr hx hs ht k =>
  h F H M σ ρ _ _ hr hx hs ht fun vs H1 F1 M1 xs r1 g1 rxs hl h1 => ho F1 H1 M1 vs xs R Q r1 rxs h1 fun w H2 F2 M2 z r2 g2 rz hz => k w H2 F2 M2 z r2 (g1.trans g2) rz hz
@[reducible] def g1 (xs : List W) (k : W → Prop) : Prop := match xs with | [x] => k x | _ => False
@[reducible] def g2 (xs : List W) (k : W → W → Prop) : Prop := match xs with | [x, y] => k x y | _ => False
theorem g1_of {xs : List W} {k : W → Prop} (h : g1 xs k) : ∃ x, xs = [x] ∧ k x := by
  unfold g1 at h
  split at h
  · exact ⟨_, rfl, h⟩
  · exact h.elim
theorem g2_of {xs : List W} {k : W → W → Prop} (h : g2 xs k) : ∃ x y, xs = [x, y] ∧ k x y := by
  unfold g2 at h
  split at h
  · exact ⟨_, _, rfl, h⟩
  · exact h.elim
theorem RWs.one {F : Hp} {vs : List V} {x : W} (r : RWs K F vs [x]) : ∃ v, vs = [v] ∧ RW K F v x := by
  cases r with
  | cons a b => cases b; exact ⟨_, rfl, a⟩
theorem RWs.two {F : Hp} {vs : List V} {x y : W} (r : RWs K F vs [x, y]) : ∃ v u, vs = [v, u] ∧ RW K F v x ∧ RW K F u y := by
  cases r with
  | cons a b => cases b with | cons b c => cases c; exact ⟨_, _, rfl, a, b⟩
/-- the length of a row -/
@[reducible] def fLen : FL := fun xs M R => g1 xs fun x => match x with
  | .d (.tuple ds) => R (.d (.int ds.length)) M
  | x => gW M x fun ws => R (.d (.int ws.length)) M
theorem sc_len : SC K (fun xs H Q => ∃ p ys, xs = [V.ref p] ∧ (SqL K H p ys ∨ SqT K H p ys) ∧ Q (.int ys.length) H) fLen := fun F H M vs xs R Q hr rx hf k => by
  obtain ⟨x, rfl, h1⟩ := g1_of hf
  obtain ⟨v, rfl, r⟩ := rx.one
  have hw : (∀ ds, x ≠ .d (.tuple ds)) → gW M x (fun ws => R (.d (.int ws.length)) M) := fun hn => by
    cases x with
    | d a =>
      cases a with
      | tuple ds => exact absurd rfl (hn ds)
      | _ => exact h1
    | r a => exact h1
    | o a => exact h1
    | x a C dd fs => exact h1
  by_cases c : ∃ ds, x = .d (.tuple ds)
  · obtain ⟨ds, rfl⟩ := c
    obtain ⟨a, xs, rfl, h2, h3⟩ := r.tup
    refine ⟨a, xs, rfl, .inr (same_t hr.fh h2), ?_⟩
    rw [h3.len]
    exact k _ H F M _ hr .refl (.d (.int _)) h1
  · obtain ⟨a, us, ws, rfl, h2, h3, h4⟩ := gW_of hr r (hw fun ds e => c ⟨ds, e⟩)
    refine ⟨a, us, rfl, .inl (SqL.of h2), ?_⟩
    rw [h3.len]
    exact k _ H F M _ hr .refl (.d (.int _)) h4
@[reducible] def fLenS : FL := fun xs M R => g1 xs fun x => gS x fun z => z.length ≤ sizeLine ∧ R (.d (.int z.length)) M
theorem sc_lenS : SC K (fun xs H Q => ∃ z, xs = [V.str z] ∧ z.length ≤ sizeLine ∧ Q (.int z.length) H) fLenS := fun F H M vs xs R Q hr rx hf k => by
  obtain ⟨x, rfl, h1⟩ := g1_of hf
  obtain ⟨v, rfl, r⟩ := rx.one
  obtain ⟨z, rfl, hz, h2⟩ := gS_of h1
  exact ⟨z, by rw [r.str], hz, k _ H F M _ hr .refl (.d (.int _)) h2⟩
/-- all truths -/
inductive gBs (xs : List W) (k : List Bool → Prop) : Prop where
  | mk (bs : List Bool) (h : xs = bs.map fun b => W.d (.bool b)) (q : k bs)
theorem gBs_of {xs : List W} {k : List Bool → Prop} (h : gBs xs k) : ∃ bs : List Bool, xs = bs.map (fun b => W.d (.bool b)) ∧ k bs := by
  cases h with
  | mk bs h q => exact ⟨bs, h, q⟩
theorem gBs_map {α : Type} (g : α → Bool) {xs : List α} {k : List Bool → Prop} : gBs (xs.map fun a => W.d (.bool (g a))) k = k (xs.map g) := propext ⟨fun h => by
  obtain ⟨es, e, q⟩ := gBs_of h
  rw [show (xs.map fun a => W.d (.bool (g a))) = (xs.map g).map fun b => W.d (.bool b) by rw [List.map_map]; rfl] at e
  rw [map_injD (fun a b h => by injection h with h; injection h) e]
  exact q, fun q => .mk (xs.map g) (by rw [List.map_map]; rfl) q⟩
theorem gBs_n {k : List Bool → Prop} (q : k []) : gBs [] k := .mk [] rfl q
theorem gBs_c {x : W} {r : List W} {k : List Bool → Prop} (h : gB x fun b => gBs r fun bs => k (b :: bs)) : gBs (x :: r) k := by
  obtain ⟨a, rfl, h⟩ := gB_of h
  obtain ⟨bs, rfl, q⟩ := gBs_of h
  exact .mk (a :: bs) rfl q
inductive gIs (xs : List W) (k : List Int → Prop) : Prop where
  | mk (bs : List Int) (h : xs = bs.map fun b => W.d (.int b)) (q : k bs)
theorem gIs_of {xs : List W} {k : List Int → Prop} (h : gIs xs k) : ∃ bs : List Int, xs = bs.map (fun b => W.d (.int b)) ∧ k bs := by
  cases h with
  | mk bs h q => exact ⟨bs, h, q⟩
theorem gIs_map {α : Type} (g : α → Int) {xs : List α} {k : List Int → Prop} : gIs (xs.map fun a => W.d (.int (g a))) k = k (xs.map g) := propext ⟨fun h => by
  obtain ⟨es, e, q⟩ := gIs_of h
  rw [show (xs.map fun a => W.d (.int (g a))) = (xs.map g).map fun b => W.d (.int b) by rw [List.map_map]; rfl] at e
  rw [map_injD (fun a b h => by injection h with h; injection h) e]
  exact q, fun q => .mk (xs.map g) (by rw [List.map_map]; rfl) q⟩
theorem gIs_n {k : List Int → Prop} (q : k []) : gIs [] k := .mk [] rfl q
theorem gIs_c {x : W} {r : List W} {k : List Int → Prop} (h : gI x fun b => gIs r fun bs => k (b :: bs)) : gIs (x :: r) k := by
  obtain ⟨a, rfl, h⟩ := gI_of h
  obtain ⟨bs, rfl, q⟩ := gIs_of h
  exact .mk (a :: bs) rfl q
inductive gSs (xs : List W) (k : List Str → Prop) : Prop where
  | mk (bs : List Str) (h : xs = bs.map fun b => W.d (.str b)) (q : k bs)
theorem gSs_of {xs : List W} {k : List Str → Prop} (h : gSs xs k) : ∃ bs : List Str, xs = bs.map (fun b => W.d (.str b)) ∧ k bs := by
  cases h with
  | mk bs h q => exact ⟨bs, h, q⟩
theorem gSs_map {α : Type} (g : α → Str) {xs : List α} {k : List Str → Prop} : gSs (xs.map fun a => W.d (.str (g a))) k = k (xs.map g) := propext ⟨fun h => by
  obtain ⟨es, e, q⟩ := gSs_of h
  rw [show (xs.map fun a => W.d (.str (g a))) = (xs.map g).map fun b => W.d (.str b) by rw [List.map_map]; rfl] at e
  rw [map_injD (fun a b h => by injection h with h; injection h) e]
  exact q, fun q => .mk (xs.map g) (by rw [List.map_map]; rfl) q⟩
theorem gSs_n {k : List Str → Prop} (q : k []) : gSs [] k := .mk [] rfl q
theorem gSs_c {x : W} {r : List W} {k : List Str → Prop} (h : gS x fun b => gSs r fun bs => k (b :: bs)) : gSs (x :: r) k := by
  obtain ⟨a, rfl, h⟩ := gS_of h
  obtain ⟨bs, rfl, q⟩ := gSs_of h
  exact .mk (a :: bs) rfl q
theorem rws_bl {F : Hp} : ∀ {bs : List Bool} {vs : List V}, RWs K F vs (bs.map fun b => W.d (.bool b)) → vs = bs.map V.bl
  | [], _, h => by cases h; rfl
  | b :: bs, _, h => by
    cases h with
    | cons a c => rw [rws_bl c, a.bl]; rfl
theorem rws_int {F : Hp} : ∀ {bs : List Int} {vs : List V}, RWs K F vs (bs.map fun b => W.d (.int b)) → vs = bs.map V.int
  | [], _, h => by cases h; rfl
  | b :: bs, _, h => by
    cases h with
    | cons a c => rw [rws_int c, a.int]; rfl
theorem rws_str {F : Hp} : ∀ {bs : List Str} {vs : List V}, RWs K F vs (bs.map fun b => W.d (.str b)) → vs = bs.map V.str
  | [], _, h => by cases h; rfl
  | b :: bs, _, h => by
    cases h with
    | cons a c => rw [rws_str c, a.str]; rfl
@[reducible] def fAll : FL := fun xs M R => g1 xs fun x => gW M x fun ws => gBs ws fun bs => R (.d (.bool (bs.all id))) M
theorem sc_all : SC K (rAll K) fAll := fun F H M vs xs R Q hr rx hf k => by
  obtain ⟨x, rfl, h1⟩ := g1_of hf
  obtain ⟨v, rfl, r⟩ := rx.one
  obtain ⟨a, us, ws, rfl, h2, h3, h4⟩ := gW_of hr r h1
  obtain ⟨bs, rfl, h5⟩ := gBs_of h4
  refine ⟨a, bs, rfl, ?_, k _ H F M _ hr .refl (.d (.bl _)) h5⟩
  rw [← rws_bl h3]
  exact SqL.of h2
@[reducible] def fSum : FL := fun xs M R => g1 xs fun x => gW M x fun ws => gIs ws fun bs => R (.d (.int bs.sum)) M
theorem sc_sum : SC K (rSum K) fSum := fun F H M vs xs R Q hr rx hf k => by
  obtain ⟨x, rfl, h1⟩ := g1_of hf
  obtain ⟨v, rfl, r⟩ := rx.one
  obtain ⟨a, us, ws, rfl, h2, h3, h4⟩ := gW_of hr r h1
  obtain ⟨bs, rfl, h5⟩ := gIs_of h4
  refine ⟨a, bs, rfl, ?_, k _ H F M _ hr .refl (.d (.int _)) h5⟩
  rw [← rws_int h3]
  exact SqL.of h2
/-- the greatest of some numbers -/
def mxI : List Int → Int
  | [] => 0
  | [x] => x
  | x :: r => max x (mxI r)
theorem mxI_mem : ∀ {l : List Int}, l ≠ [] → mxI l ∈ l ∧ ∀ y ∈ l, y ≤ mxI l
  | [], h => absurd rfl h
  | [x], _ => ⟨List.mem_singleton.mpr rfl, fun y hy => by rw [List.mem_singleton.mp hy]; exact Int.le_refl _⟩
  | x :: z :: r, _ => by
    obtain ⟨h1, h2⟩ := mxI_mem (l := z :: r) (by simp)
    have e : mxI (x :: z :: r) = max x (mxI (z :: r)) := rfl
    rw [e]
    constructor
    · rcases Int.le_total x (mxI (z :: r)) with c | c
      · rw [Int.max_eq_right c]; exact List.mem_cons_of_mem _ h1
      · rw [Int.max_eq_left c]; exact List.mem_cons_self
    · intro y hy
      rcases List.mem_cons.mp hy with rfl | hy
      · exact Int.le_max_left _ _
      · exact Int.le_trans (h2 y hy) (Int.le_max_right _ _)
theorem mxI_eq {l : List Int} {m : Int} (h1 : m ∈ l) (h2 : ∀ y ∈ l, y ≤ m) : mxI l = m := by
  obtain ⟨a, b⟩ := mxI_mem (l := l) (List.ne_nil_of_mem h1)
  exact Int.le_antisymm (h2 _ a) (b _ h1)
@[reducible] def fMax : FL := fun xs M R => g1 xs fun x => gW M x fun ws => gIs ws fun bs => 0 < bs.length ∧ R (.d (.int (mxI bs))) M
theorem sc_max : SC K (rMax K) fMax := fun F H M vs xs R Q hr rx hf k => by
  obtain ⟨x, rfl, h1⟩ := g1_of hf
  obtain ⟨v, rfl, r⟩ := rx.one
  obtain ⟨a, us, ws, rfl, h2, h3, h4⟩ := gW_of hr r h1
  obtain ⟨bs, rfl, h0, h5⟩ := gIs_of h4
  refine ⟨a, bs, rfl, ?_, h0, fun m m1 m2 => ?_⟩
  · rw [← rws_int h3]
    exact SqL.of h2
  · rw [mxI_eq m1 m2] at h5
    exact k _ H F M _ hr .refl (.d (.int _)) h5
@[reducible] def fMax2 : FL := fun xs M R => g2 xs fun x y => gI x fun i => gI y fun j => R (.d (.int (max i j))) M
theorem sc_max2 : SC K (fun xs H Q => ∃ i j, xs = [V.int i, .int j] ∧ Q (.int (if j > i then j else i)) H) fMax2 := fun F H M vs xs R Q hr rx hf k => by
  obtain ⟨x, y, rfl, h1⟩ := g2_of hf
  obtain ⟨v, u, rfl, r, r'⟩ := rx.two
  obtain ⟨i, rfl, h2⟩ := gI_of h1
  obtain ⟨j, rfl, h3⟩ := gI_of h2
  refine ⟨i, j, by rw [r.int, r'.int], ?_⟩
  rw [show (if j > i then j else i) = max i j by omega]
  exact (k _ H F M _ hr .refl (.d (.int _)) h3)
/-- max(.., default=..) -/
@[reducible] def ckT (f : List W → List W → Mem → (W → Mem → Prop) → Prop) (T U : TDA) : TDE := fun ρ M R => T ρ M fun xs M1 => U ρ M1 fun ys M2 => f xs ys M2 R
@[reducible] def fMaxD : List W → List W → Mem → (W → Mem → Prop) → Prop := fun xs ys M R => g1 xs fun x => g1 ys fun y => gI y fun d => gW M x fun ws => gIs ws fun bs => R (.d (.int (if bs.length = 0 then d else mxI bs))) M
/-- tuple(..) -/
@[reducible] def fTuple : FL := fun xs M R => g1 xs fun x => match x with
  | .d (.tuple ds) => R (.d (.tuple ds)) M
  | x => gW M x fun ws => gDs ws fun ds => R (.d (.tuple ds)) M
theorem sc_tuple : SC K (fun xs H Q => ∃ p ys, xs = [V.ref p] ∧ ((SqL K H p ys ∧ ∀ l, H l = none → Q (.ref l) (upd H l (.tup ys))) ∨ (SqT K H p ys ∧ Q (.ref p) H))) fTuple := fun F H M vs xs R Q hr rx hf k => by
  obtain ⟨x, rfl, h1⟩ := g1_of hf
  obtain ⟨v, rfl, r⟩ := rx.one
  have hw : (∀ ds, x ≠ .d (.tuple ds)) → gW M x (fun ws => gDs ws fun ds => R (.d (.tuple ds)) M) := fun hn => by
    cases x with
    | d a =>
      cases a with
      | tuple ds => exact absurd rfl (hn ds)
      | _ => exact h1
    | r a => exact h1
    | o a => exact h1
    | x a C dd fs => exact h1
  by_cases c : ∃ ds, x = .d (.tuple ds)
  · obtain ⟨ds, rfl⟩ := c
    obtain ⟨a, xs, rfl, h2, h3⟩ := r.tup
    exact ⟨a, xs, rfl, .inr ⟨same_t hr.fh h2, k _ H F M _ hr .refl r h1⟩⟩
  · obtain ⟨a, us, ws, rfl, h2, h3, h4⟩ := gW_of hr r (hw fun ds e => c ⟨ds, e⟩)
    obtain ⟨ds, rfl, h5⟩ := gDs_of h4
    refine ⟨a, us, rfl, .inl ⟨SqL.of h2, fun l hl => ?_⟩⟩
    obtain ⟨r2, g2, rz⟩ := hr.tup hl h3.undat
    exact k _ _ _ _ _ r2 g2 rz h5
/-- the items of a row as data -/
@[reducible] def gRow (M : Mem) (x : W) (k : List W → Prop) : Prop := match x with
  | .d (.tuple ds) => k (ds.map W.d)
  | x => gW M x k
theorem gRow_of {F H : Hp} {M : Mem} {v : V} {x : W} {k : List W → Prop} (hr : Rl K F H M) (r : RW K F v x) (h : gRow M x k) : ∃ a vs ws, v = .ref a ∧ (SqL K H a vs ∨ SqT K H a vs) ∧ RWs K F vs ws ∧ k ws := by
  unfold gRow at h
  split at h
  · obtain ⟨a, xs, rfl, h1, h2⟩ := r.tup
    exact ⟨a, xs, _, rfl, .inr (same_t hr.fh h1), .dat h2, h⟩
  · obtain ⟨a, vs, ws, h1, h2, h3, h4⟩ := gW_of hr r h
    exact ⟨a, vs, ws, h1, .inl (SqL.of h2), h3, h4⟩
/-- list(..): data; or a list that may change -/
@[reducible] def fListF : FL := fun xs M R => g1 xs fun x => gRow M x fun ws => gDs ws fun ds => R (.d (.list ds)) M
@[reducible] def fListL : FL := fun xs M R => g1 xs fun x => gRow M x fun ws => ∀ p, M p = none → R (.r p) (mset M p (.lst ws))
theorem sc_listF : SC K (fun xs H Q => ∃ p ys, xs = [V.ref p] ∧ (SqL K H p ys ∨ SqT K H p ys) ∧ ∀ l, H l = none → Q (.ref l) (upd H l (.lst ys))) fListF := fun F H M vs xs R Q hr rx hf k => by
  obtain ⟨x, rfl, h1⟩ := g1_of hf
  obtain ⟨v, rfl, r⟩ := rx.one
  obtain ⟨a, us, ws, rfl, h2, h3, h4⟩ := gRow_of hr r h1
  obtain ⟨ds, rfl, h5⟩ := gDs_of h4
  refine ⟨a, us, rfl, h2, fun l hl => ?_⟩
  obtain ⟨r2, g2, rz⟩ := hr.list hl h3.undat
  exact k _ _ _ _ _ r2 g2 rz h5
theorem sc_listL : SC K (fun xs H Q => ∃ p ys, xs = [V.ref p] ∧ (SqL K H p ys ∨ SqT K H p ys) ∧ ∀ l, H l = none → Q (.ref l) (upd H l (.lst ys))) fListL := fun F H M vs xs R Q hr rx hf k => by
  obtain ⟨x, rfl, h1⟩ := g1_of hf
  obtain ⟨v, rfl, r⟩ := rx.one
  obtain ⟨a, us, ws, rfl, h2, h3, h4⟩ := gRow_of hr r h1
  refine ⟨a, us, rfl, h2, fun l hl => ?_⟩
  obtain ⟨r2, g2⟩ := hr.born (u := .lst us) (o := .lst ws) hl ⟨_, rfl, h3⟩
  exact k _ _ _ _ _ r2 g2 (.r l) (h4 l (hr.new hl))
@[reducible] def fInt : FL := fun xs M R => g1 xs fun x => match x with
  | .d (.bool b) => R (.d (.int (if b then 1 else 0))) M
  | x => gI x fun i => R (.d (.int i)) M
theorem sc_int : SC K (fun xs H Q => (∃ i, xs = [V.int i] ∧ Q (.int i) H) ∨ ∃ k, xs = [.bl k] ∧ Q (.int (if k then 1 else 0)) H) fInt := fun F H M vs xs R Q hr rx hf k => by
  obtain ⟨x, rfl, h1⟩ := g1_of hf
  obtain ⟨v, rfl, r⟩ := rx.one
  have hw : (∀ b, x ≠ .d (.bool b)) → gI x (fun i => R (.d (.int i)) M) := fun hn => by
    cases x with
    | d a =>
      cases a with
      | bool b => exact absurd rfl (hn b)
      | _ => exact h1
    | r a => exact h1
    | o a => exact h1
    | x a C dd fs => exact h1
  by_cases c : ∃ b, x = .d (.bool b)
  · obtain ⟨b, rfl⟩ := c
    exact .inr ⟨b, by rw [r.bl], k _ H F M _ hr .refl (.d (.int _)) h1⟩
  · obtain ⟨i, rfl, h2⟩ := gI_of (hw fun b e => c ⟨b, e⟩)
    exact .inl ⟨i, by rw [r.int], k _ H F M _ hr .refl (.d (.int _)) h2⟩
/-- repr: the text of data -/
def shOk (d : PyData) : Prop := d.showable = true ∧ d.depth ≤ 100 ∧ d.shown.length ≤ sizeLine
@[reducible] def isList : PyData → Bool
  | .list _ => true
  | _ => false
/-! ### isinstance -/
def tyIs (d : PyData) (n : String) : Option Bool :=
  if n = "int" then some (isInt d) else if n = "bool" then some (isBl d) else if n = "str" then some (isStr d) else if n = "tuple" then some (isTup d) else if n = "list" then some (isList d) else none
theorem kit_lst (d : PyData) : kitB (tyName d) "list" = some (isList d) := by cases d <;> (simp only [tyName, isList]; decide +kernel)
theorem tyIs_kit {d : PyData} {n : String} {b : Bool} (h : tyIs d n = some b) : kitB (tyName d) n = some b := by
  unfold tyIs at h
  split at h
  · rename_i e; subst e; rw [← h]; exact kit_int d
  · split at h
    · rename_i e; subst e; rw [← h]; exact kit_bl d
    · split at h
      · rename_i e; subst e; rw [← h]; exact kit_str d
      · split at h
        · rename_i e; subst e; rw [← h]; exact kit_tup d
        · split at h
          · rename_i e; subst e; rw [← h]; exact kit_lst d
          · cases h
theorem ty_dx {H : Hp} {v : V} {d : PyData} (h : Dx K H v d) : TyX K H v (.type (tyName d)) := by
  cases h with
  | non => exact .base .non
  | bl b => exact .base (.bl b)
  | int i => exact .base (.int i)
  | str x => exact .base (.str x)
  | lst hs _ => exact .base (.lst hs)
  | tup hs _ =>
    rcases hs with (h | ⟨o, h⟩) | ⟨o, its, n, h1, h2, _⟩
    · exact .base (.tup h)
    · exact .fTuple h
    · exact .kTuple h1 h2
  | dic h => exact .base (.dK h)
@[reducible] def fIsi : FL := fun xs M R => g2 xs fun x y => match y with
  | .o (.ty n) => (match x with
    | .d a => gO (tyIs a n) fun b => R (.d (.bool b)) M
    | .r a => ∃ ws, M a = some (.lst ws) ∧ gO (tyIs (.list []) n) fun b => R (.d (.bool b)) M
    | _ => False)
  | _ => False
theorem sc_isi : SC K (rIsi K) fIsi := fun F H M vs xs R Q hr rx hf k => by
  obtain ⟨x, y, rfl, h1⟩ := g2_of hf
  obtain ⟨v, u, rfl, r, r'⟩ := rx.two
  cases y with
  | d a => exact h1.elim
  | r a => exact h1.elim
  | x a C dd fs => exact h1.elim
  | o z =>
    cases r'
    cases u with
    | ty n =>
      cases x with
      | o a => exact h1.elim
      | x a C dd fs => exact h1.elim
      | d a =>
        obtain ⟨b, h2, h3⟩ := gO_of h1
        exact ⟨v, .ty n, _, _, b, rfl, .ty n, ty_dx (Dx.mono hr.fh _ _ r.dx), kit_ty (tyIs_kit h2), k _ H F M _ hr .refl (.d (.bl _)) h3⟩
      | r a =>
        obtain ⟨ws, h0, h2⟩ := h1
        obtain ⟨b, h3, h4⟩ := gO_of h2
        obtain ⟨us, h5, h6⟩ := hr.lst h0
        rw [r.ref]
        have hk : kitB "list" n = some b := tyIs_kit (d := .list []) h3
        exact ⟨.ref a, .ty n, .type "list", _, b, rfl, .ty n, .base (.lst h5), kit_ty hk, k _ H F M _ hr .refl (.d (.bl _)) h4⟩
    | _ => exact h1.elim
/-! ### methods of a list that may change -/
@[reducible] def bmT (f : W → List W → Mem → (W → Mem → Prop) → Prop) (T : TDE) (U : TDA) : TDE := fun ρ M R => T ρ M fun x M1 => U ρ M1 fun xs M2 => f x xs M2 R
/-- a method of a list -/
def SM (K : PySem.W.Frag) (r : V → List V → Hp → VK → Prop) (f : W → List W → Mem → (W → Mem → Prop) → Prop) : Prop := ∀ F H M v vs x xs R Q, Rl K F H M → RW K F v x → RWs K F vs xs → f x xs M R → Kt K F H M R Q → r v vs H Q
@[reducible] def bmL (f : W → List W → Mem → (W → Mem → Prop) → Prop) (T : TDE) (U : TDA) : TDE := fun ρ M R => T ρ M fun x M1 => gR x fun a => (∃ ws, M1 a = some (.lst ws)) ∧ U ρ M1 fun xs M2 => f (.r a) xs M2 R
theorem se_bmL {n : Nat} {r : V → List V → Hp → VK → Prop} {f : W → List W → Mem → (W → Mem → Prop) → Prop} {to : TE} {t : TA} {T : TDE} {U : TDA} (ho : SM K r f) (h1 : SE K Wx RE to T) (h2 : SAn K Wx RE n t U) :
    SE K Wx RE (tBM K "list" r to t) (bmL f T U) := fun F H M σ ρ R Q hr hx hs ht k =>
  h1 F H M σ ρ _ _ hr hx hs ht fun v H1 F1 M1 x r1 g1 rx q1 => by
    obtain ⟨a, rfl, ⟨ws, hw⟩, q2⟩ := gR_of q1
    rw [rx.ref]
    obtain ⟨vs, h3, h4⟩ := r1.lst hw
    refine ⟨.inl ⟨rfl, _, SqL.of h3⟩, h2 F1 H1 M1 σ ρ _ _ r1 (hx.mono g1) (hs.mono g1.ff) q2 fun us H2 F2 M2 xs r2 g2 rxs hl q3 => ?_⟩
    exact ho F2 H2 M2 _ us _ xs R Q r2 (.r a) rxs q3 fun w H3 F3 M3 z r3 g3 rz hz => k w H3 F3 M3 z r3 ((g1.trans g2).trans g3) rz hz
@[reducible] def fAppend : W → List W → Mem → (W → Mem → Prop) → Prop := fun x xs M R => gR x fun a => g1 xs fun y => ∃ ws, M a = some (.lst ws) ∧ ws.length < sizeLine ∧ R (.d .none) (mset M a (.lst (ws ++ [y])))
theorem sm_append : SM K rAppend fAppend := fun F H M v vs x xs R Q hr rx rxs hf k => by
  obtain ⟨a, rfl, h1⟩ := gR_of hf
  obtain ⟨y, rfl, ws, h2, hz, h3⟩ := g1_of h1
  obtain ⟨u, rfl, ry⟩ := rxs.one
  obtain ⟨us, h4, h5⟩ := hr.lst h2
  rw [rx.ref]
  refine ⟨a, us, u, rfl, rfl, h4, by rw [h5.len]; exact hz, ?_⟩
  obtain ⟨r2, g2⟩ := hr.put (u := .lst (us ++ [u])) (o := .lst (ws ++ [y])) h2 ⟨_, rfl, h5.app (.cons ry .nil)⟩
  exact k _ _ _ _ _ r2 g2 (.d .non) h3
@[reducible] def fExtend : W → List W → Mem → (W → Mem → Prop) → Prop := fun x xs M R => gR x fun a => g1 xs fun y => ∃ ws, M a = some (.lst ws) ∧ gW M y fun zs => ws.length + zs.length ≤ sizeLine ∧ R (.d .none) (mset M a (.lst (ws ++ zs)))
theorem sm_extend : SM K rExtend fExtend := fun F H M v vs x xs R Q hr rx rxs hf k => by
  obtain ⟨a, rfl, h1⟩ := gR_of hf
  obtain ⟨y, rfl, ws, h2, h3⟩ := g1_of h1
  obtain ⟨u, rfl, ry⟩ := rxs.one
  obtain ⟨us, h4, h5⟩ := hr.lst h2
  obtain ⟨b, zv, zs, rfl, h6, h7, hz, h8⟩ := gW_of hr ry h3
  rw [rx.ref]
  refine ⟨a, b, us, zv, rfl, rfl, h4, h6, by rw [h5.len, h7.len]; exact hz, ?_⟩
  obtain ⟨r2, g2⟩ := hr.put (u := .lst (us ++ zv)) (o := .lst (ws ++ zs)) h2 ⟨_, rfl, h5.app h7⟩
  exact k _ _ _ _ _ r2 g2 (.d .non) h8
/-! ### calls of defs -/
abbrev TF := List W → Mem → (W → Mem → Prop) → (Ex → Mem → Prop) → Prop
/-- the promise of a def by the second layer -/
def spD (K : PySem.W.Frag) (n : Nat) (f : TF) : Sp := fun vs H Q E => ∃ F M ws R RX, Rl K F H M ∧ RWs K F vs ws ∧ ws.length = n ∧ f ws M R RX ∧ Kt K F H M R Q ∧
  ∀ cls d H' F' M' x, Rl K F' H' M' → Gr F H M F' H' M' → XRel K F' cls d x → RX x M' → E cls d H'
@[reducible] def callT (f : TF) (T : TDA) : TDE := fun ρ M R => T ρ M fun xs M1 => f xs M1 R fun _ _ => False
@[reducible] def callX (RE : REx) (f : TF) (T : TDA) : TDE := fun ρ M R => T ρ M fun xs M1 => f xs M1 R fun x M' => RE x ρ M'
theorem se_call {n : Nat} {f : TF} {E : XK} {t : TA} {T : TDA} (h : SAn K Wx RE n t T) : SE K Wx RE (tCall (spD K n f) [] E t) (callT f T) := fun F H M σ ρ R Q hr hx hs ht k =>
  h F H M σ ρ _ _ hr hx hs ht fun vs H1 F1 M1 xs r1 g1 rxs hl h1 => by
    show spD K n f (vs ++ []) H1 Q E
    rw [List.append_nil]
    exact ⟨F1, M1, xs, R, _, r1, rxs, hl, h1, fun w H2 F2 M2 z r2 g2 rz hz => k w H2 F2 M2 z r2 (g1.trans g2) rz hz, fun cls d H' F' M' x _ _ _ z => z.elim⟩
theorem se_callX {n : Nat} {f : TF} {t : TA} {T : TDA} (h : SAn K Wx RE n t T) : SE K Wx RE (tCallS (spD K n f) (WE Wx) t) (callX RE f T) := fun F H M σ ρ R Q hr hx hs ht k =>
  h F H M σ ρ _ _ hr hx hs ht fun vs H1 F1 M1 xs r1 g1 rxs hl h1 =>
    ⟨F1, M1, xs, R, _, r1, rxs, hl, h1, fun w H2 F2 M2 z r2 g2 rz hz => k w H2 F2 M2 z r2 (g1.trans g2) rz hz, fun cls d H' F' M' x r2 g2 xr z => hx F' H' M' σ ρ cls d x (g1.trans g2) r2 (hs.mono (g1.trans g2).ff) xr z⟩
end
end Tl

set_option Elab.async false
set_option linter.all false
set_option maxRecDepth 100000
set_option maxHeartbeats 4000000
namespace Tl
open PySem L2
/-! ### what is walked -/
/-- one turn's item: one thing as it stands, or a pair that is made for it -/
def Yd (K : PySem.W.Frag) (F H : Hp) (x : V) (H' : Hp) (row : List W) (pair : Bool) : Prop :=
  if pair = true then ∃ T v1 v2 w1 w2, row = [w1, w2] ∧ x = .ref T ∧ H T = none ∧ H' = upd H T (.tup [v1, v2]) ∧ RW K F v1 w1 ∧ RW K F v2 w2
  else ∃ w, row = [w] ∧ H' = H ∧ RW K F x w
def ItOk (K : PySem.W.Frag) (F H : Hp) (M : Mem) (J : It) (rows : List (List W)) (keep : Mem → Prop) (pair : Bool) : Prop :=
  ∃ (G : Hp → Prop) (Y : Nat → Hp → V → Hp → Prop), Walk J rows.length G Y ∧ (∀ F2 H2 M2, Rl K F2 H2 M2 → Gr F H M F2 H2 M2 → keep M2 → G H2) ∧
    ∀ i x H2 H3 F2 M2 row, rows[i]? = some row → Rl K F2 H2 M2 → Gr F H M F2 H2 M2 → keep M2 → Y i H2 x H3 → Yd K F2 H2 x H3 row pair
theorem ItOk.of {K : PySem.W.Frag} {F H : Hp} {M : Mem} {J : It} {rows : List (List W)} {keep : Mem → Prop} {pair : Bool} {n : Nat} {G : Hp → Prop} {Y : Nat → Hp → V → Hp → Prop} (wk : Walk J n G Y) (hn : rows.length = n)
    (hG : ∀ F2 H2 M2, Rl K F2 H2 M2 → Gr F H M F2 H2 M2 → keep M2 → G H2) (hY : ∀ i x H2 H3 F2 M2 row, rows[i]? = some row → Rl K F2 H2 M2 → Gr F H M F2 H2 M2 → keep M2 → Y i H2 x H3 → Yd K F2 H2 x H3 row pair) : ItOk K F H M J rows keep pair :=
  ⟨G, Y, by rw [hn]; exact wk, hG, hY⟩
abbrev TDI := EnvD → Mem → (List (List W) → (Mem → Prop) → Mem → Prop) → Prop
def SI (K : PySem.W.Frag) (Wx : WX) (RE : REx) (wi : TI) (pair : Bool) (T : TDI) : Prop :=
  ∀ F H M σ ρ (R : List (List W) → (Mem → Prop) → Mem → Prop) (Q : It → Hp → Prop), Rl K F H M → XOk K F H M Wx RE → RelS K F σ ρ → T ρ M R →
    (∀ J H' F' M' rows keep, Rl K F' H' M' → Gr F H M F' H' M' → ItOk K F' H' M' J rows keep pair → R rows keep M' → Q J H') → wi σ H Q
abbrev TDG := List W → EnvD → Mem → (EnvD → Mem → Prop) → Prop
/-- binding a turn's item: the slots vs alone are changed -/
def SG (K : PySem.W.Frag) (g : TG) (pair : Bool) (vs : List Nat) (b : TDG) : Prop :=
  ∀ F H M x H' row σ ρ (R : EnvD → Mem → Prop) (Q : L2.St → Hp → Prop), Rl K F H M → Yd K F H x H' row pair → RelS K F σ ρ → b row ρ M R →
    (∀ σ' H2 F2 M2 ρ', Rl K F2 H2 M2 → Gr F H M F2 H2 M2 → RelS K F2 σ' ρ' → (wipe σ' vs = wipe σ vs) → R ρ' M2 → Q σ' H2) → g x σ H' Q
section
variable {K : PySem.W.Frag} {Wx : WX} {RE : REx}
@[reducible] def any1 : Mem → Prop := fun _ => True
@[reducible] def rows1 (ws : List W) : List (List W) := ws.map fun w => [w]
/-- over a tuple -/
@[reducible] def itTup (T : TDE) : TDI := fun ρ M R => T ρ M fun x M1 => gT x fun ds => R (rows1 (ds.map W.d)) any1 M1
/-- over a list of data -/
@[reducible] def itLst (T : TDE) : TDI := fun ρ M R => T ρ M fun x M1 => match x with
  | .d (.list ds) => R (rows1 (ds.map W.d)) any1 M1
  | .r a => ∃ ws, M1 a = some (.lst ws) ∧ R (rows1 ws) (fun M => M a = some (.lst ws)) M1
  | _ => False
theorem rows1_get {ws : List W} {i : Nat} {row : List W} (h : (rows1 ws)[i]? = some row) : ∃ w, ws[i]? = some w ∧ row = [w] := by
  unfold rows1 at h
  rw [List.getElem?_map] at h
  obtain ⟨w, h1, h2⟩ := Option.map_eq_some_iff.mp h
  exact ⟨w, h1, h2.symm⟩
theorem si_tup {t : TE} {T : TDE} (h : SE K Wx RE t T) : SI K Wx RE (iTup K t) false (itTup T) := fun F H M σ ρ R Q hr hx hs ht k =>
  h F H M σ ρ _ _ hr hx hs ht fun v H1 F1 M1 x r1 g1 rx h1 => by
    obtain ⟨ds, rfl, h2⟩ := gT_of h1
    obtain ⟨a, xs, rfl, h3, h4⟩ := rx.tup
    refine ⟨a, rfl, ⟨xs, same_t r1.fh h3⟩, k _ H1 F1 M1 _ _ r1 g1 ?_ h2⟩
    refine ItOk.of (walk_tup (K := K) (a := a) (xs := xs)) (by unfold rows1; rw [List.length_map, List.length_map, h4.len]) (fun F2 H2 M2 r2 g2 _ => same_t (g2.ff.trans r2.fh) h3) (fun i x H2 H3 F2 M2 row hrow r2 g2 _ y => ?_)
    · obtain ⟨w, hw, rfl⟩ := rows1_get hrow
      rw [List.getElem?_map] at hw
      obtain ⟨d, hd, rfl⟩ := Option.map_eq_some_iff.mp hw
      obtain ⟨v, hv, dv⟩ := h4.got hd
      obtain ⟨rfl, hy⟩ := y
      rw [hv] at hy
      cases hy
      exact ⟨_, rfl, rfl, .d (Dx.mono g2.ff _ _ dv)⟩
theorem si_lst {t : TE} {T : TDE} (h : SE K Wx RE t T) : SI K Wx RE (iList K t) false (itLst T) := fun F H M σ ρ R Q hr hx hs ht k =>
  h F H M σ ρ _ _ hr hx hs ht fun v H1 F1 M1 x r1 g1 rx h1 => by
    cases x with
    | o a => exact h1.elim
    | x a C dd fs => exact h1.elim
    | d a =>
      cases a with
      | list ds =>
        obtain ⟨a, xs, rfl, h3, h4⟩ := rx.lst
        refine ⟨a, rfl, ⟨xs, SqL.of (r1.fh _ _ h3)⟩, k _ H1 F1 M1 _ _ r1 g1 ?_ h1⟩
        refine ItOk.of (walk_list (K := K) (a := a) (xs := xs)) (by unfold rows1; rw [List.length_map, List.length_map, h4.len]) (fun F2 H2 M2 r2 g2 _ => SqL.of ((g2.ff.trans r2.fh) _ _ h3)) (fun i x H2 H3 F2 M2 row hrow r2 g2 _ y => ?_)
        · obtain ⟨w, hw, rfl⟩ := rows1_get hrow
          rw [List.getElem?_map] at hw
          obtain ⟨d, hd, rfl⟩ := Option.map_eq_some_iff.mp hw
          obtain ⟨v, hv, dv⟩ := h4.got hd
          obtain ⟨rfl, hy⟩ := y
          rw [hv] at hy
          cases hy
          exact ⟨_, rfl, rfl, .d (Dx.mono g2.ff _ _ dv)⟩
      | _ => exact h1.elim
    | r a =>
      obtain ⟨ws, hw, h2⟩ := h1
      rw [rx.ref]
      obtain ⟨xs, h3, h4⟩ := r1.lst hw
      refine ⟨a, rfl, ⟨xs, SqL.of h3⟩, k _ H1 F1 M1 _ _ r1 g1 ?_ h2⟩
      refine ⟨fun H => ∃ vs, H a = some (.lst vs) ∧ vs.length = ws.length, fun i H x H' => H' = H ∧ ∀ vs, H a = some (.lst vs) → vs[i]? = some x, ?_, fun F2 H2 M2 r2 g2 hk => ?_, fun i x H2 H3 F2 M2 row hrow r2 g2 hk y => ?_⟩
      · have el : (rows1 ws).length = ws.length := by unfold rows1; rw [List.length_map]
        rw [el]
        refine ⟨fun i H hi ⟨vs, q1, q2⟩ => ⟨vs, vs[i]'(by omega), SqL.of q1, List.getElem?_eq_getElem _⟩, fun H ⟨vs, q1, q2⟩ => ⟨vs, SqL.of q1, by omega⟩, fun i H x H' hi ⟨vs, q1, q2⟩ y => ⟨y.1, fun us hu => y.2 us (SqL.of hu)⟩⟩
      · obtain ⟨vs, q1, q2⟩ := r2.lst hk
        exact ⟨vs, q1, q2.len⟩
      · obtain ⟨w, hw, rfl⟩ := rows1_get hrow
        obtain ⟨vs, q1, q2⟩ := r2.lst hk
        obtain ⟨v, hv, rv⟩ := q2.got hw
        obtain ⟨rfl, hy⟩ := y
        have := hy vs q1
        rw [hv] at this
        cases this
        exact ⟨_, rfl, rfl, rv⟩
/-- over a text -/
def signs (z : Str) : List W := z.cps.toList.map fun c => W.d (.str ⟨#[c]⟩)
@[reducible] def itStr (T : TDE) : TDI := fun ρ M R => T ρ M fun x M1 => gS x fun z => R (rows1 (signs z)) any1 M1
theorem si_str {t : TE} {T : TDE} (h : SE K Wx RE t T) : SI K Wx RE (iStr t) false (itStr T) := fun F H M σ ρ R Q hr hx hs ht k =>
  h F H M σ ρ _ _ hr hx hs ht fun v H1 F1 M1 x r1 g1 rx h1 => by
    obtain ⟨z, rfl, h2⟩ := gS_of h1
    refine ⟨z, rx.str, k _ H1 F1 M1 _ _ r1 g1 ?_ h2⟩
    refine ItOk.of (walk_str (z := z)) (by unfold rows1 signs; rw [List.length_map, List.length_map]; rfl) (fun F2 H2 M2 r2 g2 _ => True.intro) (fun i x H2 H3 F2 M2 row hrow r2 g2 _ y => ?_)
    · obtain ⟨w, hw, rfl⟩ := rows1_get hrow
      unfold signs at hw
      rw [List.getElem?_map] at hw
      obtain ⟨c, hc, rfl⟩ := Option.map_eq_some_iff.mp hw
      obtain ⟨rfl, c', hc', rfl⟩ := y
      rw [Array.getElem?_toList, hc'] at hc
      cases hc
      exact ⟨_, rfl, rfl, .d (.str _)⟩
/-- over a range -/
def rng (lo : Int) (n : Nat) : List W := (List.range n).map fun i => W.d (.int (lo + (i : Nat)))
def rngC (lo c : Int) (n : Nat) : List W := (List.range n).map fun i => W.d (.int (lo + (i : Nat) * c))
/-- small enough for a range -/
def Sm (i : Int) : Prop := -(2 ^ 62) ≤ i ∧ i < 2 ^ 62
theorem sm_of {i : Int} (h1 : -1000000000 ≤ i) (h2 : i ≤ 1000000000) : Sm i := ⟨by omega, by omega⟩
@[reducible] def itR1 (T : TDA) : TDI := fun ρ M R => T ρ M fun xs M1 => g1 xs fun x => gI x fun j => Sm j ∧ R (rows1 (rng 0 j.toNat)) any1 M1
@[reducible] def itR2 (T : TDA) : TDI := fun ρ M R => T ρ M fun xs M1 => g2 xs fun x y => gI x fun i => gI y fun j => (Sm i ∧ Sm j) ∧ R (rows1 (rng i (j - i).toNat)) any1 M1
theorem rng_ok {F H : Hp} {M : Mem} {lo : Int} {n : Nat} : ItOk K F H M (Itr lo n) (rows1 (rng lo n)) any1 false := by
  refine ItOk.of (walk_range (lo := lo) (n := n)) (by unfold rows1 rng; rw [List.length_map, List.length_map, List.length_range]) (fun F2 H2 M2 r2 g2 _ => True.intro) (fun i x H2 H3 F2 M2 row hrow r2 g2 _ y => ?_)
  · obtain ⟨w, hw, rfl⟩ := rows1_get hrow
    unfold rng at hw
    rw [List.getElem?_map] at hw
    obtain ⟨c, hc, rfl⟩ := Option.map_eq_some_iff.mp hw
    have e : c = i := by
      obtain ⟨h1, h2⟩ := List.getElem?_eq_some_iff.mp hc
      rw [← h2]
      simp
    subst e
    obtain ⟨rfl, rfl⟩ := y
    exact ⟨_, rfl, rfl, .d (.int _)⟩
theorem si_r1 {t : TA} {T : TDA} {n : Nat} (h : SAn K Wx RE n t T) : SI K Wx RE (iRng1 t) false (itR1 T) := fun F H M σ ρ R Q hr hx hs ht k =>
  h F H M σ ρ _ _ hr hx hs ht fun vs H1 F1 M1 xs r1 g1 rxs hl h1 => by
    obtain ⟨x, rfl, h2⟩ := g1_of h1
    obtain ⟨j, rfl, ⟨c1, c2⟩, h3⟩ := gI_of h2
    obtain ⟨v, rfl, rv⟩ := rxs.one
    exact ⟨j, by rw [rv.int], c1, c2, k _ H1 F1 M1 _ _ r1 g1 rng_ok h3⟩
theorem si_r2 {t : TA} {T : TDA} {n : Nat} (h : SAn K Wx RE n t T) : SI K Wx RE (iRng2 t) false (itR2 T) := fun F H M σ ρ R Q hr hx hs ht k =>
  h F H M σ ρ _ _ hr hx hs ht fun vs H1 F1 M1 xs r1 g1 rxs hl h1 => by
    obtain ⟨x, y, rfl, h2⟩ := g2_of h1
    obtain ⟨i, rfl, h3⟩ := gI_of h2
    obtain ⟨j, rfl, c, h4⟩ := gI_of h3
    obtain ⟨v, u, rfl, rv, ru⟩ := rxs.two
    exact ⟨i, j, by rw [rv.int, ru.int], ⟨c.1.1, c.1.2, c.2.1, c.2.2⟩, k _ H1 F1 M1 _ _ r1 g1 rng_ok h4⟩
/-- enumerate(..) -/
def enumR (n : Nat) : List W → List (List W)
  | [] => []
  | w :: r => [.d (.int (n : Nat)), w] :: enumR (n + 1) r
theorem enumR_len : ∀ (n : Nat) (ws : List W), (enumR n ws).length = ws.length
  | _, [] => rfl
  | n, w :: r => by rw [enumR, List.length_cons, enumR_len (n + 1) r, List.length_cons]
theorem enumR_get : ∀ {n : Nat} {ws : List W} {i : Nat} {row : List W}, (enumR n ws)[i]? = some row → ∃ w, ws[i]? = some w ∧ row = [.d (.int ((n + i : Nat) : Int)), w]
  | _, [], _, _, h => by simp [enumR] at h
  | n, w :: r, 0, row, h => ⟨w, rfl, by simp [enumR] at h; exact h.symm⟩
  | n, w :: r, i + 1, row, h => by
    obtain ⟨w', h1, h2⟩ := enumR_get (n := n + 1) (ws := r) (i := i) (row := row) (by simpa [enumR] using h)
    exact ⟨w', by simpa using h1, by rw [h2, show n + 1 + i = n + (i + 1) by omega]⟩
@[reducible] def itEnT (T : TDA) : TDI := fun ρ M R => T ρ M fun xs M1 => g1 xs fun x => gT x fun ds => R (enumR 0 (ds.map W.d)) any1 M1
@[reducible] def itEnL (T : TDA) : TDI := fun ρ M R => T ρ M fun xs M1 => g1 xs fun x => match x with
  | .d (.list ds) => R (enumR 0 (ds.map W.d)) any1 M1
  | .r a => ∃ ws, M1 a = some (.lst ws) ∧ R (enumR 0 ws) (fun M => M a = some (.lst ws)) M1
  | _ => False
theorem si_enT {n : Nat} {t : TA} {T : TDA} (h : SAn K Wx RE n t T) : SI K Wx RE (iEnumT K t) true (itEnT T) := fun F H M σ ρ R Q hr hx hs ht k =>
  h F H M σ ρ _ _ hr hx hs ht fun vs H1 F1 M1 xs r1 g1 rxs hl h1 => by
    obtain ⟨x, rfl, h2⟩ := g1_of h1
    obtain ⟨v, rfl, rx⟩ := rxs.one
    obtain ⟨ds, rfl, h5⟩ := gT_of h2
    obtain ⟨a, xs, rfl, h3, h4⟩ := rx.tup
    refine ⟨a, xs, rfl, same_t r1.fh h3, k _ H1 F1 M1 _ _ r1 g1 ?_ h5⟩
    refine ItOk.of (walk_enumT (K := K) (a := a) (xs := xs)) (by rw [enumR_len, List.length_map, ← h4.len]) (fun F2 H2 M2 r2 g2 _ => same_t (g2.ff.trans r2.fh) h3) (fun i x H2 H3 F2 M2 row hrow r2 g2 _ y => ?_)
    · obtain ⟨w, hw, rfl⟩ := enumR_get hrow
      rw [List.getElem?_map] at hw
      obtain ⟨d, hd, rfl⟩ := Option.map_eq_some_iff.mp hw
      obtain ⟨v, hv, dv⟩ := h4.got hd
      obtain ⟨T', x', rfl, hT, rfl, hy⟩ := y
      rw [hv] at hy
      cases hy
      refine ⟨T', _, _, _, _, rfl, rfl, hT, rfl, ?_, .d (Dx.mono g2.ff _ _ dv)⟩
      rw [Nat.zero_add]
      exact .d (.int _)
theorem si_enL {n : Nat} {t : TA} {T : TDA} (h : SAn K Wx RE n t T) : SI K Wx RE (iEnum K t) true (itEnL T) := fun F H M σ ρ R Q hr hx hs ht k =>
  h F H M σ ρ _ _ hr hx hs ht fun vs H1 F1 M1 xs r1 g1 rxs hl h1 => by
    obtain ⟨x, rfl, h2⟩ := g1_of h1
    obtain ⟨v, rfl, rx⟩ := rxs.one
    have wk : ∀ (a : Addr) (n : Nat), Walk (Ite K a) n (fun H => ∃ vs, H a = some (.lst vs) ∧ vs.length = n) (fun i H v H' => ∃ T x, v = .ref T ∧ H T = none ∧ H' = upd H T (.tup [.int (i : Nat), x]) ∧ ∀ vs, H a = some (.lst vs) → vs[i]? = some x) := fun a n =>
      ⟨fun i H hi ⟨vs, q1, q2⟩ => ⟨vs, vs[i]'(by omega), SqL.of q1, List.getElem?_eq_getElem _⟩, fun H ⟨vs, q1, q2⟩ => ⟨vs, SqL.of q1, by omega⟩, fun i H x H' hi ⟨vs, q1, q2⟩ y => by
        obtain ⟨T, x', e1, e2, e3, e4⟩ := y
        exact ⟨T, x', e1, e2, e3, fun us hu => e4 us (SqL.of hu)⟩⟩
    cases x with
    | o a => exact h2.elim
    | x a C dd fs => exact h2.elim
    | d a =>
      cases a with
      | list ds =>
        obtain ⟨a, xs, rfl, h3, h4⟩ := rx.lst
        refine ⟨a, xs, rfl, SqL.of (r1.fh _ _ h3), k _ H1 F1 M1 _ _ r1 g1 ?_ h2⟩
        refine ItOk.of (wk a ds.length) (by rw [enumR_len, List.length_map]) (fun F2 H2 M2 r2 g2 _ => ⟨xs, (g2.ff.trans r2.fh) _ _ h3, h4.len⟩) (fun i x H2 H3 F2 M2 row hrow r2 g2 _ y => ?_)
        obtain ⟨w, hw, rfl⟩ := enumR_get hrow
        rw [List.getElem?_map] at hw
        obtain ⟨d, hd, rfl⟩ := Option.map_eq_some_iff.mp hw
        obtain ⟨v, hv, dv⟩ := h4.got hd
        obtain ⟨T', x', rfl, hT, rfl, hy⟩ := y
        have := hy xs ((g2.ff.trans r2.fh) _ _ h3)
        rw [hv] at this
        cases this
        refine ⟨T', _, _, _, _, rfl, rfl, hT, rfl, ?_, .d (Dx.mono g2.ff _ _ dv)⟩
        rw [Nat.zero_add]
        exact .d (.int _)
      | _ => exact h2.elim
    | r a =>
      obtain ⟨ws, hw, h3⟩ := h2
      rw [rx.ref]
      obtain ⟨xs, h4, h5⟩ := r1.lst hw
      refine ⟨a, xs, rfl, SqL.of h4, k _ H1 F1 M1 _ _ r1 g1 ?_ h3⟩
      refine ItOk.of (wk a ws.length) (by rw [enumR_len]) (fun F2 H2 M2 r2 g2 hk => ?_) (fun i x H2 H3 F2 M2 row hrow r2 g2 hk y => ?_)
      · obtain ⟨vs, q1, q2⟩ := r2.lst hk
        exact ⟨vs, q1, q2.len⟩
      · obtain ⟨w, hw, rfl⟩ := enumR_get hrow
        obtain ⟨vs, q1, q2⟩ := r2.lst hk
        obtain ⟨v, hv, rv⟩ := q2.got hw
        obtain ⟨T', x', rfl, hT, rfl, hy⟩ := y
        have := hy vs q1
        rw [hv] at this
        cases this
        refine ⟨T', _, _, _, _, rfl, rfl, hT, rfl, ?_, rv⟩
        rw [Nat.zero_add]
        exact .d (.int _)
/-! ### binding -/
@[reducible] def bName (i : Nat) : TDG := fun row ρ M R => match row with | [w] => R (put ρ i (some w)) M | _ => False
theorem sg_name {i : Nat} : SG K (gName i) false [i] (bName i) := fun F H M x H' row σ ρ R Q hr hy hs hb k => by
  obtain ⟨w, rfl, rfl, rx⟩ := hy
  refine k _ _ F M _ hr .refl (hs.set rx i) ?_ hb
  show (σ.set i (some x)).set i none = σ.set i none
  rw [List.set_set]
/-- a pair that is made for the turn -/
@[reducible] def bPair (i j : Nat) : TDG := fun row ρ M R => match row with | [w1, w2] => R (put (put ρ i (some w1)) j (some w2)) M | _ => False
theorem wipe2 {σ : L2.St} {i j : Nat} {a b : Option V} : wipe ((σ.set i a).set j b) [i, j] = wipe σ [i, j] := by
  show (((σ.set i a).set j b).set j none).set i none = (σ.set j none).set i none
  rw [List.set_set]
  by_cases h : i = j
  · subst h
    rw [List.set_set, List.set_set, List.set_set]
  · rw [List.set_comm _ _ h, List.set_set]
theorem sg_pair {i j : Nat} : SG K (gTup K 2 (gCons (gName i) (gCons (gName j) gNil))) true [i, j] (bPair i j) := fun F H M x H' row σ ρ R Q hr hy hs hb k => by
  obtain ⟨T, v1, v2, w1, w2, rfl, rfl, hT, rfl, q1, q2⟩ := hy
  obtain ⟨r2, g2⟩ := hr.same (same_new (o := .tup [v1, v2]) hT)
  refine ⟨T, [v1, v2], rfl, .inl (.inl upd_same), rfl, v1, [v2], rfl, v2, [], rfl, rfl, ?_⟩
  exact k _ _ F M _ r2 g2 ((hs.set q1 i).set q2 j) wipe2 hb
/-- a tuple that stands there: two names -/
@[reducible] def bTup2 (i j : Nat) : TDG := fun row ρ M R => match row with | [w] => gT w fun ds => (match ds with | [a, b] => R (put (put ρ i (some (.d a))) j (some (.d b))) M | _ => False) | _ => False
theorem sg_tup2 {i j : Nat} : SG K (gTup K 2 (gCons (gName i) (gCons (gName j) gNil))) false [i, j] (bTup2 i j) := fun F H M x H' row σ ρ R Q hr hy hs hb k => by
  obtain ⟨w, rfl, rfl, rx⟩ := hy
  obtain ⟨ds, rfl, h1⟩ := gT_of hb
  obtain ⟨a, xs, rfl, h2, h3⟩ := rx.tup
  split at h1
  · rename_i c d
    cases h3 with
    | cons q1 h3 =>
    cases h3 with
    | cons q2 h3 =>
    cases h3
    refine ⟨a, _, rfl, same_t hr.fh h2, rfl, _, _, rfl, _, [], rfl, rfl, ?_⟩
    exact k _ _ F M _ hr .refl ((hs.set (.d q1) i).set (.d q2) j) wipe2 h1
  · exact h1.elim
/-! ### list comprehensions -/
/-- one after another; behind all the new list -/
def lcGo (b : TDG) (keep : Mem → Prop) (tt : TDT) (te : TDE) (ρ : EnvD) (fin : List W → Mem → Prop) : List (List W) → List W → Mem → Prop
  | [], acc, M => keep M ∧ fin acc M
  | row :: rest, acc, M => keep M ∧ b row ρ M fun ρ1 M1 => tt ρ1 M1 fun c M2 => IfB c (te ρ1 M2 fun y M3 => acc.length < sizeLine ∧ lcGo b keep tt te ρ fin rest (acc ++ [y]) M3) (lcGo b keep tt te ρ fin rest acc M2)
theorem wipe_wipe : ∀ (vs : List Nat) (σ : L2.St), vs.length ≤ 2 → wipe (wipe σ vs) vs = wipe σ vs
  | [], σ, _ => rfl
  | [a], σ, _ => by
    show (σ.set a none).set a none = σ.set a none
    rw [List.set_set]
  | [a, b], σ, _ => by
    show (((σ.set b none).set a none).set b none).set a none = (σ.set b none).set a none
    by_cases h : a = b
    · subst h
      rw [List.set_set, List.set_set, List.set_set]
    · rw [List.set_comm _ _ h, List.set_set, List.set_set]
  | _ :: _ :: _ :: _, _, h => by simp at h
theorem RelS.wipe {F : Hp} {σ : L2.St} {ρ : EnvD} (h : RelS K F σ ρ) : ∀ (vs : List Nat), (∀ i ∈ vs, slot ρ i = none) → RelS K F (L2.wipe σ vs) ρ
  | [], _ => h
  | v :: vs, hn => by
    have ih := h.wipe vs fun i hi => hn i (.tail _ hi)
    refine ⟨by rw [wipe_length]; exact h.len, fun i x c => ?_⟩
    obtain ⟨u, h1, h2⟩ := ih.at_ i x c
    refine ⟨u, ?_, h2⟩
    show ((L2.wipe σ vs).set v none)[i]? = _
    rw [List.getElem?_set_ne fun z => by rw [z] at hn; have := hn i (.head _); rw [c] at this; cases this]
    exact h1
/-- the slots of a comprehension's own names forgotten -/
@[reducible] def hide (ρ : EnvD) : List Nat → EnvD
  | [] => ρ
  | v :: vs => put (hide ρ vs) v none
theorem hide_rel {F : Hp} {σ : L2.St} {ρ : EnvD} (h : RelS K F σ ρ) : ∀ vs, RelS K F (L2.wipe σ vs) (hide ρ vs)
  | [] => h
  | v :: vs => (hide_rel h vs).del v none
theorem lc_core {wi : TI} {g : TG} {tt : TT} {te : TE} {vs : List Nat} {pair : Bool} {it : TDI} {b : TDG} {Tt : TDT} {Te : TDE} (hi : SI K Wx RE wi pair it) (hg : SG K g pair vs b) (ht : ST K (fun _ _ _ _ => False) (fun _ _ _ => False) tt Tt) (he : SE K (fun _ _ _ _ => False) (fun _ _ _ => False) te Te) (hv : vs.length ≤ 2)
    (fin : (W → Mem → Prop) → List W → Mem → Prop)
    (hf : ∀ F H M R Q D acc vl, Rl K F H M → H D = some (.lst vl) → F D = none → M D = none → RWs K F vl acc → fin R acc M → (∀ F0 H0 M0, Gr F0 H0 M0 F H M → H0 D = none → Kt K F0 H0 M0 R Q → Q (.ref D) H)) :
    SE K Wx RE (tLc wi g tt te vs) (fun ρ M R => it ρ M fun rows keep M1 => lcGo b keep Tt Te (hide ρ vs) (fin R) rows [] M1) := fun F H M σ ρ R Q hr hx hs hT k =>
  hi F H M σ ρ _ _ hr hx hs hT fun J H1 F1 M1 rows keep r1 g1 iok h1 D hD => by
    obtain ⟨G, Y, wk, hG, hY⟩ := iok
    have x0 : ∀ (F H : Hp) (M : Mem), XOk K F H M (fun _ _ _ _ => False) (fun _ _ _ => False) := fun F H M F' H' M' σ ρ cls d x _ _ _ _ z => z
    refine lc_it wk (fun i H2 => ∃ F2 M2 acc vl, Rl K F2 H2 M2 ∧ Gr F1 H1 M1 F2 H2 M2 ∧ H2 D = some (.lst vl) ∧ F2 D = none ∧ M2 D = none ∧ RWs K F2 vl acc ∧ lcGo b keep Tt Te (hide ρ vs) (fin R) (rows.drop i) acc M2)
      ⟨F1, M1, [], [], (r1.hid (r1.fh.free hD) (r1.new hD)), ⟨Same.refl _, fun c u q n => ⟨by rw [upd_ne (ne_of_none q hD)]; exact q, n⟩, fun _ _ _ _ f => f⟩, upd_same, r1.fh.free hD, r1.new hD, .nil, h1⟩
      (fun i H2 hi2 ⟨F2, M2, acc, vl, r2, g2, d1, d2, d3, d4, q⟩ => ?_) (fun i x H2 H3 hi2 ⟨F2, M2, acc, vl, r2, g2, d1, d2, d3, d4, q⟩ y => ?_) (fun H2 ⟨F2, M2, acc, vl, r2, g2, d1, d2, d3, d4, q⟩ => ?_)
    · have hk : keep M2 := by
        cases hd : rows.drop i with
        | nil => rw [hd] at q; exact q.1
        | cons a b => rw [hd] at q; exact q.1
      exact hG F2 H2 M2 r2 g2 hk
    · rw [List.drop_eq_getElem_cons hi2] at q
      obtain ⟨hk, q⟩ := q
      have hrow : rows[i]? = some rows[i] := List.getElem?_eq_getElem hi2
      have yd := hY i x H2 H3 F2 M2 _ hrow r2 g2 hk y
      have rel := (hs.mono (g1.trans g2).ff)
      refine hg F2 H2 M2 x H3 _ (wipe σ vs) (hide ρ vs) _ _ r2 yd (hide_rel rel vs) q fun σ4 H4 F4 M4 ρ4 r4 g4 s4 w4 q4 => ⟨by rw [w4]; exact wipe_wipe vs σ hv, ?_⟩
      have D4 : H4 D = some (.lst vl) ∧ M4 D = none := g4.un D _ d1 d3
      have F4D : F4 D = none := g4.nf D _ d1 d3 d2
      refine ht F4 H4 M4 σ4 ρ4 _ _ r4 (x0 _ _ _) s4 q4 fun c H5 F5 M5 r5 g5 q5 => ?_
      have D5 := g5.un D _ D4.1 D4.2
      have F5D := g5.nf D _ D4.1 D4.2 F4D
      have q5 := q5.ite
      by_cases hc : c = true
      · rw [if_pos hc] at q5 ⊢
        refine he F5 H5 M5 σ4 ρ4 _ _ r5 (x0 _ _ _) (s4.mono g5.ff) q5 fun v6 H6 F6 M6 z6 r6 g6 rz6 q6 => ?_
        have D6 := g6.un D _ D5.1 D5.2
        have F6D := g6.nf D _ D5.1 D5.2 F5D
        have gg := ((g4.trans g5).trans g6)
        refine ⟨vl, D6.1, by rw [d4.len]; exact q6.1, F6, M6, acc ++ [z6], vl ++ [v6], r6.hid F6D D6.2, ?_, upd_same, F6D, D6.2, (d4.mono gg.ff).app (.cons rz6 .nil), q6.2⟩
        have g7 := g2.trans gg
        refine ⟨g7.ff, fun c u q n => ?_, g7.nf⟩
        have z : c ≠ D := ne_of_none q hD
        rw [upd_ne z]
        exact g7.un c u q n
      · rw [if_neg hc] at q5 ⊢
        exact ⟨F5, M5, acc, vl, r5, (g2.trans (g4.trans g5)), D5.1, F5D, D5.2, d4.mono (g4.trans g5).ff, q5⟩
    · rw [List.drop_length] at q
      exact hf F2 H2 M2 R Q D acc vl r2 d1 d2 d3 d4 q.2 F1 H1 M1 g2 hD fun v H' F' M' x a b c d => k v H' F' M' x a (g1.trans b) c d
/-- a list that is data -/
@[reducible] def lcF (it : TDI) (b : TDG) (tt : TDT) (te : TDE) (vs : List Nat) : TDE := fun ρ M R => it ρ M fun rows keep M1 => lcGo b keep tt te (hide ρ vs) (fun acc M2 => gDs acc fun ds => R (.d (.list ds)) M2) rows [] M1
/-- a list that may change -/
@[reducible] def lcL (it : TDI) (b : TDG) (tt : TDT) (te : TDE) (vs : List Nat) : TDE := fun ρ M R => it ρ M fun rows keep M1 => lcGo b keep tt te (hide ρ vs) (fun acc M2 => ∀ p, M2 p = none → R (.r p) (mset M2 p (.lst acc))) rows [] M1
theorem se_lcF {wi : TI} {g : TG} {tt : TT} {te : TE} {vs : List Nat} {pair : Bool} {it : TDI} {b : TDG} {Tt : TDT} {Te : TDE} (hi : SI K Wx RE wi pair it) (hg : SG K g pair vs b) (ht : ST K (fun _ _ _ _ => False) (fun _ _ _ => False) tt Tt) (he : SE K (fun _ _ _ _ => False) (fun _ _ _ => False) te Te) (hv : vs.length ≤ 2 := by decide) :
    SE K Wx RE (tLc wi g tt te vs) (lcF it b Tt Te vs) :=
  lc_core hi hg ht he hv (fun R acc M2 => gDs acc fun ds => R (.d (.list ds)) M2) fun F H M R Q D acc vl hr h1 h2 h3 h4 hq F0 H0 M0 g hD k => by
    obtain ⟨ds, rfl, h5⟩ := gDs_of hq
    have e : Same F (upd F D (.lst vl)) := same_new h2
    have r' : Rl K (upd F D (.lst vl)) H M := by
      refine ⟨fun b u q => ?_, fun a o c => ?_, fun a o c => ?_⟩
      · by_cases z : b = D
        · subst z
          rw [upd_same] at q
          rw [h1]
          exact q
        · rw [upd_ne z] at q
          exact hr.fh b u q
      · rw [upd_ne (fun z => by rw [z, h3] at c; cases c)]
        exact hr.mf a o c
      · obtain ⟨u, q1, q2⟩ := hr.at_ a o c
        exact ⟨u, q1, q2.mono e⟩
    refine k _ H _ M _ r' ⟨g.ff.trans e, g.un, fun b u q n f => ?_⟩ (.d (.lst upd_same (DxL.mono e _ _ h4.undat))) h5
    rw [upd_ne (ne_of_none q hD)]
    exact g.nf b u q n f
theorem se_lcL {wi : TI} {g : TG} {tt : TT} {te : TE} {vs : List Nat} {pair : Bool} {it : TDI} {b : TDG} {Tt : TDT} {Te : TDE} (hi : SI K Wx RE wi pair it) (hg : SG K g pair vs b) (ht : ST K (fun _ _ _ _ => False) (fun _ _ _ => False) tt Tt) (he : SE K (fun _ _ _ _ => False) (fun _ _ _ => False) te Te) (hv : vs.length ≤ 2 := by decide) :
    SE K Wx RE (tLc wi g tt te vs) (lcL it b Tt Te vs) :=
  lc_core hi hg ht he hv (fun R acc M2 => ∀ p, M2 p = none → R (.r p) (mset M2 p (.lst acc))) fun F H M R Q D acc vl hr h1 h2 h3 h4 hq F0 H0 M0 g hD k => by
    have r' : Rl K F H (mset M D (.lst acc)) := by
      refine ⟨hr.fh, fun a o c => ?_, fun a o c => ?_⟩
      · by_cases z : a = D
        · rw [z]; exact h2
        · rw [mset_ne z] at c; exact hr.mf a o c
      · by_cases z : a = D
        · subst z
          rw [mset_same] at c
          cases c
          exact ⟨_, h1, vl, rfl, h4⟩
        · rw [mset_ne z] at c; exact hr.at_ a o c
    refine k _ H _ _ _ r' ⟨g.ff, fun b u q n => ?_, g.nf⟩ (.r D) (hq D h3)
    rw [mset_ne (ne_of_none q hD)]
    exact g.un b u q n
end
end Tl

set_option Elab.async false
set_option linter.all false
set_option maxRecDepth 100000
set_option maxHeartbeats 4000000
namespace Tl
open PySem L2
/-! ### statements -/
structure EndD where
  nx : EnvD → Mem → Prop
  rt : W → Mem → Prop
  bk : EnvD → Mem → Prop := fun _ _ => False
  ct : EnvD → Mem → Prop := fun _ _ => False
abbrev TDS := EndD → EnvD → Mem → Prop
abbrev Nk (K : PySem.W.Frag) (F H : Hp) (M : Mem) (R : EnvD → Mem → Prop) (Q : L2.St → Hp → Prop) : Prop := ∀ σ' H' F' M' ρ', Rl K F' H' M' → Gr F H M F' H' M' → RelS K F' σ' ρ' → R ρ' M' → Q σ' H'
structure EK (K : PySem.W.Frag) (F H : Hp) (M : Mem) (D : EndD) (E : Ends) : Prop where
  nx : Nk K F H M D.nx E.nx
  rt : Kt K F H M D.rt E.rt
  bk : Nk K F H M D.bk E.bk
  ct : Nk K F H M D.ct E.ct
theorem EK.mono {K : PySem.W.Frag} {F H F' H' : Hp} {M M' : Mem} {D : EndD} {E : Ends} (k : EK K F H M D E) (g : Gr F H M F' H' M') : EK K F' H' M' D E :=
  ⟨fun σ H2 F2 M2 ρ r g2 => k.nx σ H2 F2 M2 ρ r (g.trans g2), fun v H2 F2 M2 x r g2 => k.rt v H2 F2 M2 x r (g.trans g2), fun σ H2 F2 M2 ρ r g2 => k.bk σ H2 F2 M2 ρ r (g.trans g2), fun σ H2 F2 M2 ρ r g2 => k.ct σ H2 F2 M2 ρ r (g.trans g2)⟩
def SSt (K : PySem.W.Frag) (Wx : WX) (RE : REx) (t : TS) (T : TDS) : Prop :=
  ∀ F H M σ ρ D E, Rl K F H M → XOk K F H M Wx RE → RelS K F σ ρ → T D ρ M → EK K F H M D E → t E σ H
section
variable {K : PySem.W.Frag} {Wx : WX} {RE : REx}
@[reducible] def nextS : TDS := fun D ρ M => D.nx ρ M
@[reducible] def seqS (T U : TDS) : TDS := fun D ρ M => T { D with nx := U D } ρ M
@[reducible] def retS (T : TDE) : TDS := fun D ρ M => T ρ M D.rt
@[reducible] def retN : TDS := fun D _ M => D.rt (.d .none) M
@[reducible] def dropS (T : TDE) : TDS := fun D ρ M => T ρ M fun _ M1 => D.nx ρ M1
@[reducible] def ifS (c : TDT) (T U : TDS) : TDS := fun D ρ M => c ρ M fun b M1 => IfB b (T D ρ M1) (U D ρ M1)
@[reducible] def setS (i : Nat) (T : TDE) : TDS := fun D ρ M => T ρ M fun x M1 => D.nx (put ρ i (some x)) M1
@[reducible] def breakS : TDS := fun D ρ M => D.bk ρ M
@[reducible] def contS : TDS := fun D ρ M => D.ct ρ M
theorem ss_nil : SSt K Wx RE tNext nextS := fun F H M σ ρ D E hr hx hs ht k => k.nx σ H F M ρ hr .refl hs ht
theorem ss_break : SSt K Wx RE tBreak breakS := fun F H M σ ρ D E hr hx hs ht k => k.bk σ H F M ρ hr .refl hs ht
theorem ss_cont : SSt K Wx RE tCont contS := fun F H M σ ρ D E hr hx hs ht k => k.ct σ H F M ρ hr .refl hs ht
theorem ss_cons {t u : TS} {T U : TDS} (h1 : SSt K Wx RE t T) (h2 : SSt K Wx RE u U) : SSt K Wx RE (tSeq t u) (seqS T U) := fun F H M σ ρ D E hr hx hs ht k =>
  h1 F H M σ ρ { D with nx := U D } { E with nx := u E } hr hx hs ht ⟨fun σ' H' F' M' ρ' r g s q => h2 F' H' M' σ' ρ' D E r (hx.mono g) s q (k.mono g), k.rt, k.bk, k.ct⟩
/-- as seqS, where a cut is made -/
def seqC (T U : TDS) : TDS := seqS T U
theorem ss_cut {t u : TS} {T U : TDS} (h1 : SSt K Wx RE t T) (h2 : SSt K Wx RE u U) : SSt K Wx RE (tSeq t u) (seqC T U) := by unfold seqC; exact ss_cons h1 h2
theorem seq_cut {T U : TDS} {D : EndD} {ρ : EnvD} {M : Mem} (C : EnvD → Mem → Prop) (h1 : ∀ N : EnvD → Mem → Prop, (∀ ρ' M', C ρ' M' → N ρ' M') → T { D with nx := N } ρ M) (h2 : ∀ ρ' M', C ρ' M' → U D ρ' M') : seqC T U D ρ M := by unfold seqC; exact h1 _ h2
theorem ss_ret {t : TE} {T : TDE} (h : SE K Wx RE t T) : SSt K Wx RE (tRet t) (retS T) := fun F H M σ ρ D E hr hx hs ht k => h F H M σ ρ _ _ hr hx hs ht k.rt
theorem ss_retN : SSt K Wx RE tRetN retN := fun F H M σ ρ D E hr hx hs ht k => k.rt _ H F M _ hr .refl (.d .non) ht
theorem ss_drop {t : TE} {T : TDE} (h : SE K Wx RE t T) : SSt K Wx RE (tDrop t) (dropS T) := fun F H M σ ρ D E hr hx hs ht k =>
  h F H M σ ρ _ _ hr hx hs ht fun v H1 F1 M1 x r1 g1 rx h1 => k.nx σ H1 F1 M1 ρ r1 g1 (hs.mono g1.ff) h1
theorem ss_if {c : TT} {t u : TS} {C : TDT} {T U : TDS} (hc : ST K Wx RE c C) (h1 : SSt K Wx RE t T) (h2 : SSt K Wx RE u U) : SSt K Wx RE (tIfS c t u) (ifS C T U) := fun F H M σ ρ D E hr hx hs ht k =>
  hc F H M σ ρ _ _ hr hx hs ht fun b H1 F1 M1 r1 g1 q1 => by
    have q1 := q1.ite
    by_cases hb : b = true
    · rw [if_pos hb] at q1 ⊢
      exact h1 F1 H1 M1 σ ρ D E r1 (hx.mono g1) (hs.mono g1.ff) q1 (k.mono g1)
    · rw [if_neg hb] at q1 ⊢
      exact h2 F1 H1 M1 σ ρ D E r1 (hx.mono g1) (hs.mono g1.ff) q1 (k.mono g1)
theorem ss_set {i : Nat} {t : TE} {T : TDE} (h : SE K Wx RE t T) : SSt K Wx RE (tAsg t (gName i)) (setS i T) := fun F H M σ ρ D E hr hx hs ht k =>
  h F H M σ ρ _ _ hr hx hs ht fun v H1 F1 M1 x r1 g1 rx h1 => k.nx _ H1 F1 M1 _ r1 g1 ((hs.mono g1.ff).set rx i) h1
/-- a, b = e -/
@[reducible] def unpS (b : TDG) (T : TDE) : TDS := fun D ρ M => T ρ M fun x M1 => b [x] ρ M1 D.nx
theorem ss_unp {g : TG} {vs : List Nat} {b : TDG} {t : TE} {T : TDE} (hg : SG K g false vs b) (h : SE K Wx RE t T) : SSt K Wx RE (tAsg t g) (unpS b T) := fun F H M σ ρ D E hr hx hs ht k =>
  h F H M σ ρ _ _ hr hx hs ht fun v H1 F1 M1 x r1 g1 rx h1 => hg F1 H1 M1 v H1 [x] σ ρ _ _ r1 ⟨x, rfl, rfl, rx⟩ (hs.mono g1.ff) h1 fun σ' H2 F2 M2 ρ' r2 g2 s2 _ q2 => k.nx σ' H2 F2 M2 ρ' r2 (g1.trans g2) s2 q2
/-- xs[i] = e, xs a list that may change -/
@[reducible] def setIx (T O I : TDE) : TDS := fun D ρ M => T ρ M fun y M1 => O ρ M1 fun x M2 => I ρ M2 fun i M3 => gR x fun a => gI i fun n => ∃ ws, M3 a = some (.lst ws) ∧ gO (ixN ws.length n) fun j => D.nx ρ (mset M3 a (.lst (ws.set j y)))
/-- for -/
def forGo (b : TDG) (keep : Mem → Prop) (body : TDS) (D : EndD) : List (List W) → EnvD → Mem → Prop
  | [], ρ, M => keep M ∧ D.nx ρ M
  | row :: rest, ρ, M => keep M ∧ b row ρ M fun ρ1 M1 => body ⟨forGo b keep body D rest, D.rt, D.nx, forGo b keep body D rest⟩ ρ1 M1
@[reducible] def forS (it : TDI) (b : TDG) (body : TDS) : TDS := fun D ρ M => it ρ M fun rows keep M1 => forGo b keep body D rows ρ M1
theorem ss_for {wi : TI} {g : TG} {tb : TS} {pair : Bool} {vs : List Nat} {it : TDI} {b : TDG} {Tb : TDS} (hi : SI K Wx RE wi pair it) (hg : SG K g pair vs b) (hb : SSt K Wx RE tb Tb) : SSt K Wx RE (tFor wi g tb) (forS it b Tb) := fun F H M σ ρ D E hr hx hs ht k =>
  hi F H M σ ρ _ _ hr hx hs ht fun J H1 F1 M1 rows keep r1 g1 iok h1 => by
    obtain ⟨G, Y, wk, hG, hY⟩ := iok
    refine for_it wk (fun i σ2 H2 => ∃ F2 M2 ρ2, Rl K F2 H2 M2 ∧ Gr F1 H1 M1 F2 H2 M2 ∧ RelS K F2 σ2 ρ2 ∧ forGo b keep Tb D (rows.drop i) ρ2 M2)
      ⟨F1, M1, ρ, r1, .refl, hs.mono g1.ff, h1⟩ (fun i σ2 H2 hi2 ⟨F2, M2, ρ2, r2, g2, s2, q⟩ => ?_) (fun i x σ2 H2 H3 hi2 ⟨F2, M2, ρ2, r2, g2, s2, q⟩ y => ?_) (fun σ2 H2 ⟨F2, M2, ρ2, r2, g2, s2, q⟩ => ?_)
    · have hk : keep M2 := by
        cases hd : rows.drop i with
        | nil => rw [hd] at q; exact q.1
        | cons a b => rw [hd] at q; exact q.1
      exact hG F2 H2 M2 r2 g2 hk
    · rw [List.drop_eq_getElem_cons hi2] at q
      obtain ⟨hk, q⟩ := q
      have yd := hY i x H2 H3 F2 M2 _ (List.getElem?_eq_getElem hi2) r2 g2 hk y
      refine hg F2 H2 M2 x H3 _ σ2 ρ2 _ _ r2 yd s2 q fun σ4 H4 F4 M4 ρ4 r4 g4 s4 _ q4 => ?_
      have gg := g2.trans g4
      refine hb F4 H4 M4 σ4 ρ4 _ _ r4 (hx.mono (g1.trans gg)) s4 q4 ⟨fun σ5 H5 F5 M5 ρ5 r5 g5 s5 q5 => ⟨F5, M5, ρ5, r5, gg.trans g5, s5, q5⟩, fun v H5 F5 M5 x5 r5 g5 => k.rt v H5 F5 M5 x5 r5 ((g1.trans gg).trans g5), fun σ5 H5 F5 M5 ρ5 r5 g5 => k.nx σ5 H5 F5 M5 ρ5 r5 ((g1.trans gg).trans g5), fun σ5 H5 F5 M5 ρ5 r5 g5 s5 q5 => ⟨F5, M5, ρ5, r5, gg.trans g5, s5, q5⟩⟩
    · rw [List.drop_length] at q
      exact k.nx σ2 H2 F2 M2 ρ2 r2 (g1.trans g2) s2 q.2
/-- while, by an invariant and a measure -/
@[reducible] def whileS (c : TDT) (body : TDS) : TDS := fun D ρ M => ∃ I : Nat → EnvD → Mem → Prop, (∃ m, I m ρ M) ∧ ∀ m ρ M, I m ρ M → c ρ M fun b M1 => IfB b (body ⟨fun ρ' M' => ∃ m', m' < m ∧ I m' ρ' M', D.rt, D.nx, fun ρ' M' => ∃ m', m' < m ∧ I m' ρ' M'⟩ ρ M1) (D.nx ρ M1)
theorem ss_while {c : TT} {tb : TS} {C : TDT} {Tb : TDS} (hc : ST K Wx RE c C) (hb : SSt K Wx RE tb Tb) : SSt K Wx RE (tWhile c tb) (whileS C Tb) := fun F H M σ ρ D E hr hx hs ht k => by
  obtain ⟨I, ⟨m0, h0⟩, turn⟩ := ht
  refine ⟨fun m σ2 H2 => ∃ F2 M2 ρ2, Rl K F2 H2 M2 ∧ Gr F H M F2 H2 M2 ∧ RelS K F2 σ2 ρ2 ∧ I m ρ2 M2, ⟨m0, F, M, ρ, hr, .refl, hs, h0⟩, fun m σ2 H2 ⟨F2, M2, ρ2, r2, g2, s2, q⟩ => ?_⟩
  refine hc F2 H2 M2 σ2 ρ2 _ _ r2 (hx.mono g2) s2 (turn m ρ2 M2 q) fun b H3 F3 M3 r3 g3 q3 => ?_
  have gg := g2.trans g3
  have q3 := q3.ite
  by_cases h : b = true
  · rw [if_pos h] at q3 ⊢
    refine ⟨fun σ4 H4 => ∃ m', m' < m ∧ ∃ F4 M4 ρ4, Rl K F4 H4 M4 ∧ Gr F H M F4 H4 M4 ∧ RelS K F4 σ4 ρ4 ∧ I m' ρ4 M4, fun σ4 H4 h4 => h4, ?_⟩
    refine hb F3 H3 M3 σ2 ρ2 _ _ r3 (hx.mono gg) (s2.mono g3.ff) q3 ⟨fun σ5 H5 F5 M5 ρ5 r5 g5 s5 ⟨m', hm, q5⟩ => ⟨m', hm, F5, M5, ρ5, r5, gg.trans g5, s5, q5⟩, fun v H5 F5 M5 x5 r5 g5 => k.rt v H5 F5 M5 x5 r5 (gg.trans g5), fun σ5 H5 F5 M5 ρ5 r5 g5 => k.nx σ5 H5 F5 M5 ρ5 r5 (gg.trans g5), fun σ5 H5 F5 M5 ρ5 r5 g5 s5 ⟨m', hm, q5⟩ => ⟨m', hm, F5, M5, ρ5, r5, gg.trans g5, s5, q5⟩⟩
  · rw [if_neg h] at q3 ⊢
    exact k.nx σ2 H3 F3 M3 ρ2 r3 gg (s2.mono g3.ff) q3
/-- raise -/
@[reducible] def raiseS (RE : REx) (x : Ex) : TDS := fun _ ρ M => RE x ρ M
theorem ss_raise0 {C : Addr} : SSt K Wx RE (fun _ σ H => (fun _ H Q => Q (.ref C) none H : L2.St → Hp → XK → Prop) σ H fun cls d H' => Wx cls d σ H') (raiseS RE ⟨.ref C, []⟩) := fun F H M σ ρ D E hr hx hs ht k =>
  hx F H M σ ρ _ _ ⟨.ref C, []⟩ .refl hr hs ⟨rfl, rfl⟩ ht
/-- a store xs[i] = e -/
theorem ss_setIx {t to ti : TE} {T O I : TDE} (h1 : SE K Wx RE t T) (h2 : SE K Wx RE to O) (h3 : SE K Wx RE ti I) {ts : TSet}
    (hts : ∀ {a : Addr} {vs : List V} {i : Int} {j : Nat} {y : V} {H : Hp} {Q : Hp → Prop}, H a = some (.lst vs) → ixN vs.length i = some j → Q (upd H a (.lst (vs.set j y))) → ts (.ref a) (.int i) y H Q) : SSt K Wx RE (tAsg t (gSub to ti ts)) (setIx T O I) := fun F H M σ ρ D E hr hx hs ht k =>
  h1 F H M σ ρ _ _ hr hx hs ht fun v H1 F1 M1 x r1 g1 rx q1 => h2 F1 H1 M1 σ ρ _ _ r1 (hx.mono g1) (hs.mono g1.ff) q1 fun v2 H2 F2 M2 x2 r2 g2 rx2 q2 =>
    h3 F2 H2 M2 σ ρ _ _ r2 (hx.mono (g1.trans g2)) (hs.mono (g1.trans g2).ff) q2 fun v3 H3 F3 M3 x3 r3 g3 rx3 q3 => by
      obtain ⟨a, rfl, q4⟩ := gR_of q3
      obtain ⟨n, rfl, ws, hw, q5⟩ := gI_of q4
      obtain ⟨j, hj, q6⟩ := gO_of q5
      obtain ⟨vs, e1, e2⟩ := r3.lst hw
      have rv := rx.mono (g2.trans g3).ff
      obtain ⟨r4, g4⟩ := r3.put (u := .lst (vs.set j v)) (o := .lst (ws.set j x)) hw ⟨_, rfl, e2.set rv j⟩
      have e3 := (rx2.mono g3.ff).ref
      rw [e3, rx3.int]
      refine hts e1 (by rw [e2.len]; exact hj) ?_
      have g := ((g1.trans g2).trans g3).trans g4
      exact k.nx σ _ _ _ ρ r4 g (hs.mono g.ff) q6
theorem ts_list {a : Addr} {vs : List V} {i : Int} {j : Nat} {y : V} {H : Hp} {Q : Hp → Prop} (h1 : H a = some (.lst vs)) (h2 : ixN vs.length i = some j) (q : Q (upd H a (.lst (vs.set j y)))) : ∃ p xs i' k, (V.ref a) = .ref p ∧ (V.int i) = .int i' ∧ H p = some (.lst xs) ∧ ixN xs.length i' = some k ∧ Q (upd H p (.lst (xs.set k y))) := ⟨a, vs, i, j, rfl, rfl, h1, h2, q⟩
end
/-! ### defs -/
section
variable {P : Program} {w : World} {K : PySem.W.Frag} {mg : Str → Option Value} {base : Heap}
/-- the slots as a def begins -/
@[reducible] def start0 (n : Nat) (ws : List W) : EnvD := ws.map some ++ List.replicate (n - ws.length) none
theorem slot_rep (m i : Nat) : slot (List.replicate m none) i = none := by
  induction m generalizing i with
  | zero => rfl
  | succ m ih =>
    rw [List.replicate_succ]
    cases i with
    | zero => rfl
    | succ i => exact ih i
theorem slot_start : ∀ {ws : List W} {m i : Nat} {x : W}, slot (ws.map some ++ List.replicate m none) i = some x → ws[i]? = some x
  | [], m, i, x, h => by
    rw [List.map_nil, List.nil_append, slot_rep] at h
    cases h
  | w :: ws, m, 0, x, h => h
  | w :: ws, m, i + 1, x, h => by
    have := slot_start (ws := ws) (m := m) (i := i) h
    simpa using this
theorem rel_start {F : Hp} {N : List Str} {vs : List V} {ws : List W} (r : RWs K F vs ws) : RelS K F (L2.start N vs) (start0 N.length ws) := by
  refine ⟨?_, fun i x c => ?_⟩
  · unfold L2.start start0
    rw [List.length_append, List.length_append, List.length_map, List.length_map, List.length_replicate, List.length_replicate, r.len]
  · obtain ⟨v, h1, h2⟩ := r.got (slot_start c)
    refine ⟨v, ?_, h2⟩
    unfold L2.start
    rw [List.getElem?_append_left (by rw [List.length_map]; exact (List.getElem?_eq_some_iff.mp h1).1), List.getElem?_map, h1]
    rfl
/-- what is wanted behind a def -/
abbrev endD (R : W → Mem → Prop) : EndD := ⟨fun _ M => R (.d .none) M, R, fun _ _ => False, fun _ _ => False⟩
theorem ek_def {F H : Hp} {M : Mem} {R : W → Mem → Prop} {Q : VK} (k : Kt K F H M R Q) : EK K F H M (endD R) { nx := fun _ H' => Q .non H', rt := Q } :=
  ⟨fun σ H' F' M' ρ r g s q => k _ H' F' M' _ r g (.d .non) q, k, fun _ _ _ _ _ _ _ _ z => z.elim, fun _ _ _ _ _ _ _ _ z => z.elim⟩
/-- a def that lets nothing out -/
theorem okD {f : Addr} {fd : FuncData} {k n : Nat} {x qual : Str} {st : Stmt} {N ps : List Str} {tf : TF} (F : Fun K x qual st f fd) (S : FnScope N ps (defScope st)) (hp : ps.length = n)
    (hb : ∀ (cdv : Value) (A : Around) (outer : List Env) (s : Shared) (H : Hp) (E : XK), Room k (A.deeper (PyProof.Rows.envOfC qual (defScope st) s.heap.objs.size f cdv)) →
      ∃ (t : TS) (T : TDS), PSs (cxOf CX0 P w K mg base N qual (defScope st) f cdv A outer s H E).nox (defBody st) t ∧ SSt K (fun _ _ _ _ => False) (fun _ _ _ => False) t T ∧
        ∀ ws M R RX, ws.length = n → tf ws M R RX → T (endD R) (start0 N.length ws) M) : FnOk P w K mg base CX0 (k + 1) f fd ps (spD K n tf) := by
  refine F.ok S (fun vs H Q E h => ?_) (fun cdv A outer s H vs Q E hr h => ?_)
  · obtain ⟨F0, M, ws, R, RX, r, rs, hl, _⟩ := h
    rw [rs.len, hl, hp]
  · obtain ⟨F0, M, ws, R, RX, r, rs, hl, hf, hk, _⟩ := h
    obtain ⟨t, T, h1, h2, h3⟩ := hb cdv A outer s H E hr
    refine ⟨t, h1, h2 F0 H M _ _ _ _ r (fun F' H' M' σ ρ cls d x _ _ _ _ z => z) (rel_start rs) (h3 ws M R RX hl hf) (ek_def hk)⟩
/-- a def that errors may leave -/
theorem okDX {f : Addr} {fd : FuncData} {k n : Nat} {x qual : Str} {st : Stmt} {N ps : List Str} {tf : TF} (F : Fun K x qual st f fd) (S : FnScope N ps (defScope st)) (hp : ps.length = n)
    (hb : ∀ (cdv : Value) (A : Around) (outer : List Env) (s : Shared) (H : Hp) (E : XK), Room k (A.deeper (PyProof.Rows.envOfC qual (defScope st) s.heap.objs.size f cdv)) →
      ∃ (t : TS) (T : REx → TDS), PSs (cxOf (L2.CX P w) P w K mg base N qual (defScope st) f cdv A outer s H E) (defBody st) t ∧ (∀ RE, SSt K (fun cls d _ H => E cls d H) RE t (T RE)) ∧
        ∀ ws M R RX, ws.length = n → tf ws M R RX → T (fun x _ M => RX x M) (endD R) (start0 N.length ws) M) : FnOk P w K mg base (L2.CX P w) (k + 1) f fd ps (spD K n tf) := by
  refine F.okX S (fun vs H Q E h => ?_) (fun cdv A outer s H vs Q E hr h => ?_)
  · obtain ⟨F0, M, ws, R, RX, r, rs, hl, _⟩ := h
    rw [rs.len, hl, hp]
  · obtain ⟨F0, M, ws, R, RX, r, rs, hl, hf, hk, hx⟩ := h
    obtain ⟨t, T, h1, h2, h3⟩ := hb cdv A outer s H E hr
    refine ⟨t, h1, h2 (fun x _ M => RX x M) F0 H M _ _ _ _ r (fun F' H' M' σ ρ cls d x g r' _ xr z => hx cls d H' F' M' x r' g xr z) (rel_start rs) (h3 ws M R RX hl hf) (ek_def hk)⟩
/-- a promise from another one -/
theorem FnOk.toD {CX : CXT} {f : Addr} {fd : FuncData} {k n : Nat} {ps : List Str} {sp : Sp} {tf : TF} (F : FnOk P w K mg base CX k f fd ps sp)
    (h : ∀ F H M vs ws R RX Q E, Rl K F H M → RWs K F vs ws → ws.length = n → tf ws M R RX → Kt K F H M R Q → (∀ cls d H' F' M' x, Rl K F' H' M' → Gr F H M F' H' M' → XRel K F' cls d x → RX x M' → E cls d H') → sp vs H Q E) :
    FnOk P w K mg base CX k f fd ps (spD K n tf) := F.imp fun vs H Q E ⟨F0, M, ws, R, RX, r, rs, hl, hf, hk, hx⟩ => h F0 H M vs ws R RX Q E r rs hl hf hk hx
/-- one promise by another -/
theorem spD_imp {n : Nat} {tf tf' : TF} (h : ∀ ws M R RX, ws.length = n → tf' ws M R RX → tf ws M R RX) : ∀ vs H Q E, spD K n tf' vs H Q E → spD K n tf vs H Q E :=
  fun vs H Q E ⟨F0, M, ws, R, RX, r, rs, hl, hf, hk, hx⟩ => ⟨F0, M, ws, R, RX, r, rs, hl, h ws M R RX hl hf, hk, hx⟩
end
end Tl

set_option Elab.async false
set_option linter.all false
set_option maxRecDepth 100000
set_option maxHeartbeats 4000000
namespace Tl
open PySem L2 RZ
theorem PS.nox {X : Cx} {st : Stmt} {t : TS} (h : PS X.nox st t) : PS X st t := ⟨fun pins s σ H D I hw =>
  wpAny_mono (h.run pins s σ H D (I.wish _) hw) (fun _ _ q => q.unwish) fun _ _ z => False.elim z⟩
section
variable {K : PySem.W.Frag} {Wx : WX} {RE : REx}
@[reducible] def yesT : TDT := fun _ M R => R true M
theorem st_yes : ST K Wx RE tYes yesT := fun F H M σ ρ R Q hr hx hs ht k => k true H F M hr .refl ht
/-- zip of two rows -/
def zipR : List W → List W → List (List W)
  | a :: x, b :: y => [a, b] :: zipR x y
  | _, _ => []
theorem zipR_len : ∀ (x y : List W), (zipR x y).length = min x.length y.length
  | [], _ => by simp [zipR]
  | _ :: _, [] => by simp [zipR]
  | a :: x, b :: y => by rw [zipR, List.length_cons, zipR_len x y, List.length_cons, List.length_cons]; omega
theorem zipR_get : ∀ {x y : List W} {i : Nat} {row : List W}, (zipR x y)[i]? = some row → ∃ a b, x[i]? = some a ∧ y[i]? = some b ∧ row = [a, b]
  | [], _, _, _, h => by simp [zipR] at h
  | _ :: _, [], _, _, h => by simp [zipR] at h
  | a :: x, b :: y, 0, row, h => ⟨a, b, rfl, rfl, by simp [zipR] at h; exact h.symm⟩
  | a :: x, b :: y, i + 1, row, h => by
    obtain ⟨c, d, h1, h2, h3⟩ := zipR_get (x := x) (y := y) (i := i) (row := row) (by simpa [zipR] using h)
    exact ⟨c, d, by simpa using h1, by simpa using h2, h3⟩
/-- two tuples, or two lists of data -/
@[reducible] def itZip (T : TDA) : TDI := fun ρ M R => T ρ M fun xs M1 => g2 xs fun x y => match x, y with
  | .d (.tuple a), .d (.tuple b) => R (zipR (a.map W.d) (b.map W.d)) any1 M1
  | .d (.list a), .d (.list b) => R (zipR (a.map W.d) (b.map W.d)) any1 M1
  | .r p, .d (.list b) => ∃ ws, M1 p = some (.lst ws) ∧ R (zipR ws (b.map W.d)) (fun M => M p = some (.lst ws)) M1
  | _, _ => False
theorem walk_zipT' {a b : Addr} {xs ys : List V} {n : Nat} (hn : n = min xs.length ys.length) : Walk (ItzT K a b) n (fun H => SqT K H a xs ∧ SqT K H b ys) (YPair (fun i => xs[i]?) (fun i => ys[i]?)) := by
  subst hn
  refine ⟨fun i H hi q => ⟨xs, ys, xs[i]'(by omega), ys[i]'(by omega), q.1, q.2, List.getElem?_eq_getElem _, List.getElem?_eq_getElem _⟩, fun H q => ⟨xs, ys, q.1, q.2, by omega⟩, fun i H v H' hi q y => ?_⟩
  obtain ⟨T, x, y, h1, h2, h3, h4, h5⟩ := y
  exact ⟨T, x, y, h1, h2, h3, h4 xs q.1, h5 ys q.2⟩
theorem si_zip {n : Nat} {t : TA} {T : TDA} (h : SAn K Wx RE n t T) : SI K Wx RE (iZipA K t) true (itZip T) := fun F H M σ ρ R Q hr hx hs ht k =>
  h F H M σ ρ _ _ hr hx hs ht fun vs H1 F1 M1 xs r1 g1 rxs hl h1 => by
    obtain ⟨x, y, rfl, h2⟩ := g2_of h1
    obtain ⟨v, u, rfl, rx, ry⟩ := rxs.two
    have fin : ∀ {as bs : List PyData} {xv yv : List V} {J : It} {G : Hp → Prop}, DxL K F1 xv as → DxL K F1 yv bs → Walk J (min xv.length yv.length) G (YPair (fun i => xv[i]?) (fun i => yv[i]?)) → (∀ F2 H2 M2, Rl K F2 H2 M2 → Gr F1 H1 M1 F2 H2 M2 → G H2) →
        ItOk K F1 H1 M1 J (zipR (as.map W.d) (bs.map W.d)) any1 true := fun {as bs xv yv J G} d1 d2 wk hG => by
      refine ItOk.of wk (by rw [zipR_len, List.length_map, List.length_map, d1.len, d2.len]) (fun F2 H2 M2 r2 g2 _ => hG F2 H2 M2 r2 g2) fun i x H2 H3 F2 M2 row hrow r2 g2 _ yy => ?_
      obtain ⟨a, b, ha, hb, rfl⟩ := zipR_get hrow
      rw [List.getElem?_map] at ha hb
      obtain ⟨da, ha2, ea2⟩ := Option.map_eq_some_iff.mp ha
      obtain ⟨db, hb2, eb2⟩ := Option.map_eq_some_iff.mp hb
      subst ea2 eb2
      obtain ⟨va, ea, qa⟩ := d1.got ha2
      obtain ⟨vb, eb, qb⟩ := d2.got hb2
      obtain ⟨T', x', y', rfl, hT, rfl, hx', hy'⟩ := yy
      have hx'' : xv[i]? = some x' := hx'
      have hy'' : yv[i]? = some y' := hy'
      rw [ea] at hx''
      rw [eb] at hy''
      cases hx''
      cases hy''
      exact ⟨T', _, _, _, _, rfl, rfl, hT, rfl, .d (Dx.mono g2.ff _ _ qa), .d (Dx.mono g2.ff _ _ qb)⟩
    split at h2
    · obtain ⟨a, xv, rfl, a1, a2⟩ := rx.tup
      obtain ⟨b, yv, rfl, b1, b2⟩ := ry.tup
      refine ⟨a, b, xv, yv, rfl, .inr ⟨same_t r1.fh a1, same_t r1.fh b1, k _ H1 F1 M1 _ _ r1 g1 ?_ h2⟩⟩
      exact fin a2 b2 (walk_zipT' rfl) fun F2 H2 M2 r2 g2 => ⟨same_t (g2.ff.trans r2.fh) a1, same_t (g2.ff.trans r2.fh) b1⟩
    · obtain ⟨a, xv, rfl, a1, a2⟩ := rx.lst
      obtain ⟨b, yv, rfl, b1, b2⟩ := ry.lst
      refine ⟨a, b, xv, yv, rfl, .inl ⟨SqL.of (r1.fh _ _ a1), SqL.of (r1.fh _ _ b1), k _ H1 F1 M1 _ _ r1 g1 ?_ h2⟩⟩
      exact fin a2 b2 (walk_zip rfl) fun F2 H2 M2 r2 g2 => ⟨SqL.of ((g2.ff.trans r2.fh) _ _ a1), SqL.of ((g2.ff.trans r2.fh) _ _ b1)⟩
    · rename_i p bs
      obtain ⟨ws, hw, h3⟩ := h2
      obtain ⟨b, yv, rfl, b1, b2⟩ := ry.lst
      rw [rx.ref]
      obtain ⟨xv, e1, e2⟩ := r1.lst hw
      refine ⟨p, b, xv, yv, rfl, .inl ⟨SqL.of e1, SqL.of (r1.fh _ _ b1), k _ H1 F1 M1 _ _ r1 g1 ?_ h3⟩⟩
      refine ItOk.of (n := min ws.length yv.length) (G := fun H => (∃ vs, H p = some (.lst vs) ∧ vs.length = ws.length) ∧ SqL K H b yv) (Y := fun i H v H' => ∃ T x y, v = .ref T ∧ H T = none ∧ H' = upd H T (.tup [x, y]) ∧ (∀ vs, H p = some (.lst vs) → vs[i]? = some x) ∧ yv[i]? = some y) ?_ (by rw [zipR_len, List.length_map, b2.len]) (fun F2 H2 M2 r2 g2 hk => ?_) (fun i x H2 H3 F2 M2 row hrow r2 g2 hk yy => ?_)
      · refine ⟨fun i H hi ⟨⟨vs, q1, q2⟩, q3⟩ => ⟨vs, yv, vs[i]'(by omega), yv[i]'(by omega), SqL.of q1, q3, List.getElem?_eq_getElem _, List.getElem?_eq_getElem _⟩, fun H ⟨⟨vs, q1, q2⟩, q3⟩ => ⟨vs, yv, SqL.of q1, q3, by omega⟩, fun i H v H' hi ⟨⟨vs, q1, q2⟩, q3⟩ y => ?_⟩
        obtain ⟨T, x, y, h1, h2, h3, h4, h5⟩ := y
        exact ⟨T, x, y, h1, h2, h3, fun us hu => h4 us (SqL.of hu), h5 yv q3⟩
      · obtain ⟨vs, q1, q2⟩ := r2.lst hk
        exact ⟨⟨vs, q1, q2.len⟩, SqL.of ((g2.ff.trans r2.fh) _ _ b1)⟩
      · obtain ⟨a, b', ha, hb, rfl⟩ := zipR_get hrow
        rw [List.getElem?_map] at hb
        obtain ⟨db, hb2, eb2⟩ := Option.map_eq_some_iff.mp hb
        subst eb2
        obtain ⟨vs, q1, q2⟩ := r2.lst hk
        obtain ⟨va, ea, qa⟩ := q2.got ha
        obtain ⟨vb, eb, qb⟩ := b2.got hb2
        obtain ⟨T', x', y', rfl, hT, rfl, hx', hy'⟩ := yy
        have := hx' vs q1
        rw [ea] at this
        rw [eb] at hy'
        cases this
        cases hy'
        exact ⟨T', _, _, _, _, rfl, rfl, hT, rfl, qa, .d (Dx.mono g2.ff _ _ qb)⟩
    · exact h2.elim
/-- x += e, numbers -/
@[reducible] def augI (g : Int → Int → Int) (i : Nat) (T : TDE) : TDS := fun D ρ M => match slot ρ i with | some x => T ρ M fun y M1 => gI x fun a => gI y fun b => D.nx (put ρ i (some (.d (.int (g a b))))) M1 | none => False
theorem ss_augI {g : Int → Int → Int} {i : Nat} {t : TE} {T : TDE} (h : SE K Wx RE t T) : SSt K Wx RE (tAug i t (ipI g)) (augI g i T) := fun F H M σ ρ D E hr hx hs ht k => by
  unfold augI at ht
  cases c : slot ρ i with
  | none => rw [c] at ht; exact ht.elim
  | some x =>
    rw [c] at ht
    obtain ⟨v, h1, h2⟩ := hs.at_ i x c
    refine ⟨v, h1, h F H M σ ρ _ _ hr hx hs ht fun u H1 F1 M1 y r1 g1 ry q1 => ?_⟩
    obtain ⟨a, rfl, q2⟩ := gI_of q1
    obtain ⟨b, rfl, q3⟩ := gI_of q2
    exact ⟨a, b, h2.int, ry.int, k.nx _ H1 F1 M1 _ r1 g1 ((hs.mono g1.ff).set (.d (.int _)) i) q3⟩
@[reducible] def fMin2 : FL := fun xs M R => g2 xs fun x y => gI x fun i => gI y fun j => R (.d (.int (min i j))) M
theorem sc_min2 : SC K (fun xs H Q => ∃ i j, xs = [V.int i, .int j] ∧ Q (.int (if j < i then j else i)) H) fMin2 := fun F H M vs xs R Q hr rx hf k => by
  obtain ⟨x, y, rfl, h1⟩ := g2_of hf
  obtain ⟨v, u, rfl, r, r'⟩ := rx.two
  obtain ⟨i, rfl, h2⟩ := gI_of h1
  obtain ⟨j, rfl, h3⟩ := gI_of h2
  refine ⟨i, j, by rw [r.int, r'.int], ?_⟩
  rw [show (if j < i then j else i) = min i j by omega]
  exact (k _ H F M _ hr .refl (.d (.int _)) h3)
theorem se_ckMax {n m : Nat} {t u : TA} {T U : TDA} (h : SAn K Wx RE n t T) (h' : SAn K Wx RE m u U) : SE K Wx RE (tCKw (rMaxDf K) t u) (ckT fMaxD T U) := fun F H M σ ρ R Q hr hx hs ht k =>
  h F H M σ ρ _ _ hr hx hs ht fun vs H1 F1 M1 xs r1 g1 rxs hl h1 => h' F1 H1 M1 σ ρ _ _ r1 (hx.mono g1) (hs.mono g1.ff) h1 fun us H2 F2 M2 ys r2 g2 rys hl2 h2 => by
    obtain ⟨x, rfl, h3⟩ := g1_of h2
    obtain ⟨y, rfl, h4⟩ := g1_of h3
    obtain ⟨d, rfl, h5⟩ := gI_of h4
    obtain ⟨v, rfl, rv⟩ := rxs.one
    obtain ⟨u', rfl, ru⟩ := rys.one
    obtain ⟨a, zs, ws, rfl, e1, e2, h6⟩ := gW_of r2 (rv.mono g2.ff) h5
    obtain ⟨bs, rfl, h7⟩ := gIs_of h6
    refine ⟨a, bs, d, rfl, by rw [ru.int], ?_, fun e => ?_, fun m m1 m2 => ?_⟩
    · rw [← rws_int e2]
      exact SqL.of e1
    · subst e
      exact k _ H2 F2 M2 _ r2 (g1.trans g2) (.d (.int _)) h7
    · rw [if_neg (fun z => List.ne_nil_of_mem m1 (List.eq_nil_of_length_eq_zero z)), mxI_eq m1 m2] at h7
      exact k _ H2 F2 M2 _ r2 (g1.trans g2) (.d (.int _)) h7
/-- ','.join(..) -/
@[reducible] def joinT (T U : TDE) : TDE := fun ρ M R => T ρ M fun x M1 => gS x fun a => U ρ M1 fun y M2 => gRow M2 y fun ws => gSs ws fun ys => (ys.map (·.length)).sum + ys.length * a.length ≤ 16777216 ∧ R (.d (.str (Txt.join a ys))) M2
theorem se_join {to te : TE} {T U : TDE} (h1 : SE K Wx RE to T) (h2 : SE K Wx RE te U) : SE K Wx RE (tM1 (fun x xs H Q => ∃ a p, ∃ ys : List Str, x = .str a ∧ xs = [V.ref p] ∧ (SqL K H p (ys.map V.str) ∨ SqT K H p (ys.map V.str)) ∧
      (ys.map (·.length)).sum + ys.length * a.length ≤ 16777216 ∧ Q (.str (Txt.join a ys)) H) to te) (joinT T U) := fun F H M σ ρ R Q hr hx hs ht k =>
  h1 F H M σ ρ _ _ hr hx hs ht fun v H1 F1 M1 x r1 g1 rx q1 => by
    obtain ⟨a, rfl, q2⟩ := gS_of q1
    refine ⟨⟨a, rx.str⟩, h2 F1 H1 M1 σ ρ _ _ r1 (hx.mono g1) (hs.mono g1.ff) q2 fun u H2 F2 M2 y r2 g2 ry q3 => ?_⟩
    obtain ⟨p, vs, ws, rfl, e1, e2, q4⟩ := gRow_of r2 ry q3
    obtain ⟨ys, rfl, hz, q5⟩ := gSs_of q4
    rw [rws_str e2] at e1
    exact ⟨a, p, ys, rx.str, rfl, e1, hz, k _ H2 F2 M2 _ r2 (g1.trans g2) (.d (.str _)) q5⟩
/-- x in a row of plain things -/
def flatP : PyData → Bool
  | .none => true
  | .bool _ => true
  | .int _ => true
  | .str _ => true
  | _ => false
def eqP : PyData → PyData → Bool
  | .none, .none => true
  | .bool a, .bool b => a == b
  | .bool a, .int b => (if a then 1 else 0) == b
  | .int a, .bool b => a == (if b then 1 else 0)
  | .int a, .int b => a == b
  | .str a, .str b => a == b
  | _, _ => false
theorem flat_dx {F : Hp} {v : V} {d : PyData} (h : Dx K F v d) : flatV v = flatP d := by cases h <;> rfl
theorem eqP_dx {F : Hp} {v u : V} {d e : PyData} (h : Dx K F v d) (h' : Dx K F u e) : eqV v u = eqP d e := by cases h <;> cases h' <;> rfl
theorem flats_dx {F : Hp} : ∀ {vs : List V} {ds : List PyData}, DxL K F vs ds → vs.all flatV = ds.all flatP
  | _, _, .nil => rfl
  | _, _, .cons a b => by rw [List.all_cons, List.all_cons, flat_dx a, flats_dx b]
theorem inV_dx {F : Hp} {v : V} {d : PyData} (h : Dx K F v d) : ∀ {vs : List V} {ds : List PyData}, DxL K F vs ds → inV v vs = ds.any fun e => eqP e d
  | _, _, .nil => rfl
  | _, _, .cons a b => by
    have := inV_dx h b
    unfold inV at this ⊢
    rw [List.any_cons, List.any_cons, eqP_dx a h, this]
@[reducible] def fInQ (neg : Bool) : F2 := fun x y M R => gD x fun d => gRow M y fun ws => gDs ws fun ds => (flatP d = true ∧ ds.all flatP = true) ∧ R (.d (.bool (ng neg (ds.any fun e => eqP e d)))) M
theorem so_inQ0 {neg : Bool} : SO K (rIn K neg) (fInQ neg) := fun F H M v u x y R Q hr rx ry hf k => by
  obtain ⟨d, rfl, h1⟩ := gD_of hf
  obtain ⟨p, vs, ws, rfl, e1, e2, h2⟩ := gRow_of hr ry h1
  obtain ⟨ds, rfl, ⟨c1, c2⟩, h3⟩ := gDs_of h2
  refine ⟨p, vs, rfl, e1, by rw [flat_dx rx.dx]; exact c1, by rw [flats_dx e2.undat]; exact c2, ?_⟩
  rw [inV_dx rx.dx e2.undat]
  have e : (if neg then !(ds.any fun e => eqP e d) else ds.any fun e => eqP e d) = ng neg (ds.any fun e => eqP e d) := by cases neg <;> rfl
  rw [e]
  exact k _ H F M _ hr .refl (.d (.bl _)) h3
theorem so_inQ : SO K (rIn K false) (fInQ false) := so_inQ0
theorem so_ninQ : SO K (rIn K true) (fInQ true) := so_inQ0
/-- repr -/
@[reducible] def fRepr : FL := fun xs M R => g1 xs fun x => asD M x fun d => ((d.hasDict = false ∨ d = .dict []) ∧ shOk d) ∧ R (.d (.str d.shown)) M
theorem sc_repr : SC K (rReprD K) fRepr := fun F H M vs xs R Q hr rx hf k => by
  obtain ⟨x, rfl, h1⟩ := g1_of hf
  obtain ⟨v, rfl, r⟩ := rx.one
  obtain ⟨d, F', e1, e2, dv, ⟨hd, h2, h3, h4⟩, h5⟩ := asD_of hr r h1
  refine ⟨v, d, rfl, ?_, h2, h3, h4, k _ H F M _ hr .refl (.d (.str _)) h5⟩
  rcases hd with hd | rfl
  · exact .d (Dx.dp _ _ (Dx.mono e2 _ _ dv) hd)
  · cases dv with
    | dic h => exact .e (e2 _ _ h)
end
end Tl

set_option Elab.async false
set_option linter.all false
set_option maxRecDepth 100000
set_option maxHeartbeats 4000000
namespace Tl
open PySem L2
theorem rows1_map {α : Type} (f : α → W) (xs : List α) : rows1 (xs.map f) = xs.map fun a => [f a] := by
  unfold rows1
  rw [List.map_map]
  rfl
section
variable {b : TDG} {keep : Mem → Prop} {tt : TDT} {te : TDE} {ρ : EnvD} {fin : List W → Mem → Prop} {M : Mem}
/-- each of some rows gives an item -/
theorem lc_map {α : Type} {row : α → List W} (g : α → W) (hk : keep M) : ∀ (xs : List α) (acc : List W), (∀ a ∈ xs, ∀ (Rk : W → Mem → Prop) (Rn : Mem → Prop), Rk (g a) M → b (row a) ρ M fun ρ1 M1 => IfB true (te ρ1 M1 Rk) (Rn M1)) → acc.length + xs.length ≤ sizeLine → fin (acc ++ xs.map g) M → lcGo b keep yesT te ρ fin (xs.map row) acc M
  | [], acc, hb, hl, h => by
    rw [List.map_nil, lcGo]
    rw [List.map_nil, List.append_nil] at h
    exact ⟨hk, h⟩
  | a :: xs, acc, hb, hl, h => by
    rw [List.map_cons, lcGo]
    rw [List.length_cons] at hl
    refine ⟨hk, hb a (.head _) _ _ ⟨by omega, lc_map g hk xs (acc ++ [g a]) (fun x hx => hb x (.tail _ hx)) (by rw [List.length_append]; simp; omega) (by rw [List.append_assoc]; exact h)⟩⟩
/-- each of some rows gives an item, or none -/
theorem lc_filter {α : Type} {row : α → List W} (p : α → Bool) (g : α → W) (hk : keep M) : ∀ (xs : List α) (acc : List W), (∀ a ∈ xs, ∀ (Rk : W → Mem → Prop) (Rn : Mem → Prop), (p a = true → Rk (g a) M) → (p a = false → Rn M) → b (row a) ρ M fun ρ1 M1 => tt ρ1 M1 fun c M2 => IfB c (te ρ1 M2 Rk) (Rn M2)) → acc.length + xs.length ≤ sizeLine → fin (acc ++ (xs.filter p).map g) M → lcGo b keep tt te ρ fin (xs.map row) acc M
  | [], acc, hb, hl, h => by
    rw [List.map_nil, lcGo]
    rw [List.filter_nil, List.map_nil, List.append_nil] at h
    exact ⟨hk, h⟩
  | a :: xs, acc, hb, hl, h => by
    rw [List.map_cons, lcGo]
    rw [List.length_cons] at hl
    refine ⟨hk, hb a (.head _) _ _ (fun c => ⟨by omega, lc_filter p g hk xs (acc ++ [g a]) (fun x hx => hb x (.tail _ hx)) (by rw [List.length_append]; simp; omega) ?_⟩) (fun c => lc_filter p g hk xs acc (fun x hx => hb x (.tail _ hx)) (by omega) ?_)⟩
    · rw [List.filter_cons_of_pos c, List.map_cons] at h
      rw [List.append_assoc]
      exact h
    · rw [List.filter_cons_of_neg (by rw [c]; exact Bool.false_ne_true)] at h
      exact h
/-- one name, over a list of data -/
theorem lc1 {α : Type} {i : Nat} {f : α → W} (g : α → W) (hk : keep M) {xs : List α} (hb : ∀ a ∈ xs, ∀ Rk : W → Mem → Prop, Rk (g a) M → te (put ρ i (some (f a))) M Rk) (hl : xs.length ≤ sizeLine) (h : fin (xs.map g) M) : lcGo (bName i) keep yesT te ρ fin (rows1 (xs.map f)) [] M := by
  rw [rows1_map]
  exact lc_map g hk xs [] (fun a ha Rk Rn q => .t rfl (hb a ha Rk q)) (by simpa using hl) h
theorem lc1f {α : Type} {i : Nat} {f : α → W} (p : α → Bool) (g : α → W) (hk : keep M) {xs : List α} (hb : ∀ a ∈ xs, ∀ (Rk : W → Mem → Prop) (Rn : Mem → Prop), (p a = true → Rk (g a) M) → (p a = false → Rn M) → tt (put ρ i (some (f a))) M fun c M2 => IfB c (te (put ρ i (some (f a))) M2 Rk) (Rn M2)) (hl : xs.length ≤ sizeLine) (h : fin ((xs.filter p).map g) M) : lcGo (bName i) keep tt te ρ fin (rows1 (xs.map f)) [] M := by
  rw [rows1_map]
  exact lc_filter p g hk xs [] (fun a ha Rk Rn q1 q2 => hb a ha Rk Rn q1 q2) (by simpa using hl) h
end
/-- a for, by what holds at each turn -/
theorem for_ix {b : TDG} {keep : Mem → Prop} {body : TDS} {D : EndD} {rows : List (List W)} {ρ : EnvD} {M : Mem} (Pv : Nat → EnvD → Mem → Prop) (h0 : Pv 0 ρ M) (hk : ∀ i ρ M, i ≤ rows.length → Pv i ρ M → keep M)
    (hs : ∀ i row ρ M (N : EnvD → Mem → Prop), rows[i]? = some row → Pv i ρ M → (∀ ρ' M', Pv (i + 1) ρ' M' → N ρ' M') → b row ρ M fun ρ1 M1 => body ⟨N, D.rt, D.nx, N⟩ ρ1 M1) (hd : ∀ ρ M, Pv rows.length ρ M → D.nx ρ M) : forGo b keep body D rows ρ M := by
  have go : ∀ (n i : Nat) (ρ : EnvD) (M : Mem), n = rows.length - i → i ≤ rows.length → Pv i ρ M → forGo b keep body D (rows.drop i) ρ M := by
    intro n
    induction n with
    | zero =>
      intro i ρ M hn hi p
      have e : i = rows.length := by omega
      subst e
      rw [List.drop_length, forGo]
      exact ⟨hk _ _ _ (Nat.le_refl _) p, hd ρ M p⟩
    | succ n ih =>
      intro i ρ M hn hi p
      have hi2 : i < rows.length := by omega
      rw [List.drop_eq_getElem_cons hi2, forGo]
      exact ⟨hk _ _ _ hi p, hs i _ ρ M _ (List.getElem?_eq_getElem hi2) p fun ρ' M' p' => ih (i + 1) ρ' M' (by omega) (by omega) p'⟩
  exact go _ 0 ρ M rfl (Nat.zero_le _) h0
/-- over a list of things, one name -/
theorem for1 {α : Type} {i : Nat} {f : α → W} {keep : Mem → Prop} {body : TDS} {D : EndD} {xs : List α} {ρ : EnvD} {M : Mem} (Pv : Nat → EnvD → Mem → Prop) (h0 : Pv 0 ρ M) (hk : ∀ i ρ M, i ≤ xs.length → Pv i ρ M → keep M)
    (hs : ∀ j a ρ M (N : EnvD → Mem → Prop), xs[j]? = some a → Pv j ρ M → (∀ ρ' M', Pv (j + 1) ρ' M' → N ρ' M') → body ⟨N, D.rt, D.nx, N⟩ (put ρ i (some (f a))) M) (hd : ∀ ρ M, Pv xs.length ρ M → D.nx ρ M) : forGo (bName i) keep body D (rows1 (xs.map f)) ρ M := by
  have el : (rows1 (xs.map f)).length = xs.length := by rw [rows1_map, List.length_map]
  refine for_ix Pv h0 (fun i ρ M hi p => hk i ρ M (by rw [← el]; exact hi) p) (fun j row ρ M N hrow p hN => ?_) (fun ρ M p => hd ρ M (by rw [← el]; exact p))
  rw [rows1_map, List.getElem?_map] at hrow
  obtain ⟨a, ha, e⟩ := Option.map_eq_some_iff.mp hrow
  subst e
  exact hs j a ρ M N ha p hN
/-- over numbers -/
theorem forR {i : Nat} {lo : Int} {n : Nat} {keep : Mem → Prop} {body : TDS} {D : EndD} {ρ : EnvD} {M : Mem} (Pv : Nat → EnvD → Mem → Prop) (h0 : Pv 0 ρ M) (hk : ∀ i ρ M, i ≤ n → Pv i ρ M → keep M)
    (hs : ∀ j ρ M (N : EnvD → Mem → Prop), j < n → Pv j ρ M → (∀ ρ' M', Pv (j + 1) ρ' M' → N ρ' M') → body ⟨N, D.rt, D.nx, N⟩ (put ρ i (some (.d (.int (lo + (j : Nat)))))) M) (hd : ∀ ρ M, Pv n ρ M → D.nx ρ M) : forGo (bName i) keep body D (rows1 (rng lo n)) ρ M := by
  unfold rng
  refine for1 Pv h0 (fun i ρ M hi p => hk i ρ M (by simpa using hi) p) (fun j a ρ M N ha p hN => ?_) (fun ρ M p => hd ρ M (by simpa using p))
  have e : a = j ∧ j < n := by
    obtain ⟨h1, h2⟩ := List.getElem?_eq_some_iff.mp ha
    rw [List.length_range] at h1
    simp at h2
    exact ⟨h2.symm, h1⟩
  obtain ⟨rfl, hj⟩ := e
  exact hs a ρ M N hj p hN
/-- pairs with their numbers -/
theorem forE {i j : Nat} {keep : Mem → Prop} {body : TDS} {D : EndD} {ws : List W} {ρ : EnvD} {M : Mem} (Pv : Nat → EnvD → Mem → Prop) (h0 : Pv 0 ρ M) (hk : ∀ i ρ M, i ≤ ws.length → Pv i ρ M → keep M)
    (hs : ∀ n a ρ M (N : EnvD → Mem → Prop), ws[n]? = some a → Pv n ρ M → (∀ ρ' M', Pv (n + 1) ρ' M' → N ρ' M') → body ⟨N, D.rt, D.nx, N⟩ (put (put ρ i (some (.d (.int (n : Nat))))) j (some a)) M) (hd : ∀ ρ M, Pv ws.length ρ M → D.nx ρ M) : forGo (bPair i j) keep body D (enumR 0 ws) ρ M := by
  refine for_ix Pv h0 (fun i ρ M hi p => hk i ρ M (by rw [← enumR_len 0 ws]; exact hi) p) (fun n row ρ M N hrow p hN => ?_) (fun ρ M p => hd ρ M (by rw [← enumR_len 0 ws]; exact p))
  obtain ⟨a, ha, rfl⟩ := enumR_get hrow
  rw [Nat.zero_add]
  exact hs n a ρ M N ha p hN
/-- pairs of two rows -/
theorem forZ {i j : Nat} {keep : Mem → Prop} {body : TDS} {D : EndD} {xs ys : List W} {ρ : EnvD} {M : Mem} (hl : xs.length = ys.length) (Pv : Nat → EnvD → Mem → Prop) (h0 : Pv 0 ρ M) (hk : ∀ i ρ M, i ≤ xs.length → Pv i ρ M → keep M)
    (hs : ∀ n a c ρ M (N : EnvD → Mem → Prop), xs[n]? = some a → ys[n]? = some c → Pv n ρ M → (∀ ρ' M', Pv (n + 1) ρ' M' → N ρ' M') → body ⟨N, D.rt, D.nx, N⟩ (put (put ρ i (some a)) j (some c)) M) (hd : ∀ ρ M, Pv xs.length ρ M → D.nx ρ M) : forGo (bPair i j) keep body D (zipR xs ys) ρ M := by
  have el : (zipR xs ys).length = xs.length := by rw [zipR_len]; omega
  refine for_ix Pv h0 (fun i ρ M hi p => hk i ρ M (by rw [← el]; exact hi) p) (fun n row ρ M N hrow p hN => ?_) (fun ρ M p => hd ρ M (by rw [← el]; exact p))
  obtain ⟨a, c, ha, hc, rfl⟩ := zipR_get hrow
  exact hs n a c ρ M N ha hc p hN
end Tl

set_option Elab.async false
set_option linter.all false
set_option maxRecDepth 100000
set_option maxHeartbeats 4000000
namespace Tl
open PySem L2
theorem b_list {X : Cx} (T : Bl X.mg) {p : Pos} (hg : Gl X "list" := by rfl) : PE X (.Name "list" p) (tC (.ty "list")) := pe_bltn hg T.list PyProof.Rows.boot_list rfl
/-- what nobody looks at any more is left out -/
def lax (R : W → Mem → Prop) : W → Mem → Prop := fun x M => ∃ M0, (∀ a o, M0 a = some o → M a = some o) ∧ R x M0
theorem lax_of {R : W → Mem → Prop} {x : W} {M : Mem} (h : R x M) : lax R x M := ⟨M, fun _ _ h => h, h⟩
theorem Rl.less {K : PySem.W.Frag} {F H : Hp} {M M0 : Mem} (h : Rl K F H M) (e : ∀ a o, M0 a = some o → M a = some o) : Rl K F H M0 :=
  ⟨h.fh, fun a o c => h.mf a o (e a o c), fun a o c => h.at_ a o (e a o c)⟩
theorem none_less {M M0 : Mem} (e : ∀ a o, M0 a = some o → M a = some o) {b : Addr} (h : M b = none) : M0 b = none := by
  cases c : M0 b with
  | none => rfl
  | some o => rw [e b o c] at h; cases h
theorem kt_lax {K : PySem.W.Frag} {F H : Hp} {M : Mem} {R : W → Mem → Prop} {Q : VK} (k : Kt K F H M R Q) : Kt K F H M (lax R) Q := fun v H' F' M' x r g rx ⟨M0, e, h⟩ =>
  k v H' F' M0 x (r.less e) ⟨g.ff, fun b u h1 h2 => ⟨(g.un b u h1 h2).1, none_less e (g.un b u h1 h2).2⟩, g.nf⟩ rx h
section
variable {P : Program} {w : World} {K : PySem.W.Frag} {mg : Str → Option Value} {base : Heap}
theorem okDL {f : Addr} {fd : FuncData} {k n : Nat} {x qual : Str} {st : Stmt} {N ps : List Str} {tf : TF} (F : Fun K x qual st f fd) (S : FnScope N ps (defScope st)) (hp : ps.length = n)
    (hb : ∀ (cdv : Value) (A : Around) (outer : List Env) (s : Shared) (H : Hp) (E : XK), Room k (A.deeper (PyProof.Rows.envOfC qual (defScope st) s.heap.objs.size f cdv)) →
      ∃ (t : TS) (T : TDS), PSs (cxOf CX0 P w K mg base N qual (defScope st) f cdv A outer s H E).nox (defBody st) t ∧ SSt K (fun _ _ _ _ => False) (fun _ _ _ => False) t T ∧
        ∀ ws M R RX, ws.length = n → tf ws M R RX → T (endD (lax R)) (start0 N.length ws) M) : FnOk P w K mg base CX0 (k + 1) f fd ps (spD K n tf) := by
  refine F.ok S (fun vs H Q E h => ?_) (fun cdv A outer s H vs Q E hr h => ?_)
  · obtain ⟨F0, M, ws, R, RX, r, rs, hl, _⟩ := h
    rw [rs.len, hl, hp]
  · obtain ⟨F0, M, ws, R, RX, r, rs, hl, hf, hk, _⟩ := h
    obtain ⟨t, T, h1, h2, h3⟩ := hb cdv A outer s H E hr
    refine ⟨t, h1, h2 F0 H M _ _ _ _ r (fun F' H' M' σ ρ cls d x _ _ _ _ z => z) (rel_start rs) (h3 ws M R RX hl hf) (ek_def (kt_lax hk))⟩
theorem okDXL {f : Addr} {fd : FuncData} {k n : Nat} {x qual : Str} {st : Stmt} {N ps : List Str} {tf : TF} (F : Fun K x qual st f fd) (S : FnScope N ps (defScope st)) (hp : ps.length = n)
    (hb : ∀ (cdv : Value) (A : Around) (outer : List Env) (s : Shared) (H : Hp) (E : XK), Room k (A.deeper (PyProof.Rows.envOfC qual (defScope st) s.heap.objs.size f cdv)) →
      ∃ (t : TS) (T : REx → TDS), PSs (cxOf (L2.CX P w) P w K mg base N qual (defScope st) f cdv A outer s H E) (defBody st) t ∧ (∀ RE, SSt K (fun cls d _ H => E cls d H) RE t (T RE)) ∧
        ∀ ws M R RX, ws.length = n → tf ws M R RX → T (fun x _ M => RX x M) (endD (lax R)) (start0 N.length ws) M) : FnOk P w K mg base (L2.CX P w) (k + 1) f fd ps (spD K n tf) := by
  refine F.okX S (fun vs H Q E h => ?_) (fun cdv A outer s H vs Q E hr h => ?_)
  · obtain ⟨F0, M, ws, R, RX, r, rs, hl, _⟩ := h
    rw [rs.len, hl, hp]
  · obtain ⟨F0, M, ws, R, RX, r, rs, hl, hf, hk, hx⟩ := h
    obtain ⟨t, T, h1, h2, h3⟩ := hb cdv A outer s H E hr
    refine ⟨t, h1, h2 (fun x _ M => RX x M) F0 H M _ _ _ _ r (fun F' H' M' σ ρ cls d x g r' _ xr z => hx cls d H' F' M' x r' g xr z) (rel_start rs) (h3 ws M R RX hl hf) (ek_def (kt_lax hk))⟩
end
section
variable {K : PySem.W.Frag} {Wx : WX} {RE : REx}
/-- a range with a step -/
@[reducible] def itR3 (T : TDA) : TDI := fun ρ M R => T ρ M fun xs M1 => match xs with
  | [x, y, z] => gI x fun i => gI y fun j => gI z fun c => ∃ n, RgC i j c n ∧ R (rows1 (rngC i c n)) any1 M1
  | _ => False
theorem rngC_ok {F H : Hp} {M : Mem} {lo c : Int} {n : Nat} : ItOk K F H M (Itc lo c n) (rows1 (rngC lo c n)) any1 false := by
  refine ItOk.of (walk_rangeC (lo := lo) (c := c) (n := n)) (by unfold rows1 rngC; rw [List.length_map, List.length_map, List.length_range]) (fun F2 H2 M2 r2 g2 _ => True.intro) (fun i x H2 H3 F2 M2 row hrow r2 g2 _ y => ?_)
  obtain ⟨w, hw, rfl⟩ := rows1_get hrow
  unfold rngC at hw
  rw [List.getElem?_map] at hw
  obtain ⟨e, he, rfl⟩ := Option.map_eq_some_iff.mp hw
  have e' : e = i := by
    obtain ⟨h1, h2⟩ := List.getElem?_eq_some_iff.mp he
    rw [← h2]
    simp
  subst e'
  obtain ⟨rfl, rfl⟩ := y
  exact ⟨_, rfl, rfl, .d (.int _)⟩
theorem si_r3 {t : TA} {T : TDA} {n : Nat} (h : SAn K Wx RE n t T) : SI K Wx RE (iRng3 t) false (itR3 T) := fun F H M σ ρ R Q hr hx hs ht k =>
  h F H M σ ρ _ _ hr hx hs ht fun vs H1 F1 M1 xs r1 g1 rxs hl h1 => by
    split at h1
    · obtain ⟨i, rfl, h2⟩ := gI_of h1
      obtain ⟨j, rfl, h3⟩ := gI_of h2
      obtain ⟨c, rfl, m, hc, h4⟩ := gI_of h3
      cases rxs with
      | cons a rxs =>
      cases rxs with
      | cons b rxs =>
      cases rxs with
      | cons d rxs =>
      cases rxs
      exact ⟨i, j, c, m, by rw [a.int, b.int, d.int], hc, k _ H1 F1 M1 _ _ r1 g1 rngC_ok h4⟩
    · exact h1.elim
/-- list.insert, list.pop -/
@[reducible] def fInsert : W → List W → Mem → (W → Mem → Prop) → Prop := fun x xs M R => gR x fun a => g2 xs fun i y => gI i fun i => ∃ ws, M a = some (.lst ws) ∧ (ws.length < sizeLine ∧ 0 ≤ i ∧ i ≤ 1000000) ∧ R (.d .none) (mset M a (.lst (ws.take i.toNat ++ [y] ++ ws.drop i.toNat)))
theorem sm_insert : SM K (fun x vs H Q => ∃ (l : Addr) (xs : List V) (i : Int) (y : V), x = .ref l ∧ vs = [.int i, y] ∧ H l = some (.lst xs) ∧ xs.length < sizeLine ∧ 0 ≤ i ∧ i < 2 ^ 63 ∧
    Q .non (upd H l (.lst (xs.take i.toNat ++ [y] ++ xs.drop i.toNat)))) fInsert := fun F H M v vs x xs R Q hr rx rxs hf k => by
  obtain ⟨a, rfl, h1⟩ := gR_of hf
  obtain ⟨i, y, rfl, h2⟩ := g2_of h1
  obtain ⟨n, rfl, ws, h3, ⟨c1, c2, c3⟩, h4⟩ := gI_of h2
  obtain ⟨u, u', rfl, ry, ry'⟩ := rxs.two
  obtain ⟨us, h5, h6⟩ := hr.lst h3
  rw [rx.ref]
  refine ⟨a, us, n, u', rfl, by rw [ry.int], h5, by rw [h6.len]; exact c1, c2, by omega, ?_⟩
  obtain ⟨r2, g2⟩ := hr.put (u := .lst (us.take n.toNat ++ [u'] ++ us.drop n.toNat)) (o := .lst (ws.take n.toNat ++ [y] ++ ws.drop n.toNat)) h3 ⟨_, rfl, ((h6.take _).app (.cons ry' .nil)).app (h6.drop _)⟩
  exact k _ _ _ _ _ r2 g2 (.d .non) h4
theorem RWs.erase {F : Hp} : ∀ {vs : List V} {xs : List W} (n : Nat), RWs K F vs xs → RWs K F (vs.eraseIdx n) (xs.eraseIdx n)
  | _, _, _, .nil => .nil
  | _, _, 0, .cons _ t => t
  | _, _, n + 1, .cons a t => .cons a (RWs.erase n t)
@[reducible] def fPopAt : W → List W → Mem → (W → Mem → Prop) → Prop := fun x xs M R => gR x fun a => g1 xs fun i => gI i fun i => ∃ ws, M a = some (.lst ws) ∧ gO (ixN ws.length i) fun j => gO ws[j]? fun y => ws.length ≤ sizeLine ∧ R y (mset M a (.lst (ws.eraseIdx j)))
theorem sm_popAt : SM K rPopAt fPopAt := fun F H M v vs x xs R Q hr rx rxs hf k => by
  obtain ⟨a, rfl, h1⟩ := gR_of hf
  obtain ⟨i, rfl, h2⟩ := g1_of h1
  obtain ⟨n, rfl, ws, h3, h4⟩ := gI_of h2
  obtain ⟨j, h5, h6⟩ := gO_of h4
  obtain ⟨y, h7, hz, h8⟩ := gO_of h6
  obtain ⟨u, rfl, ry⟩ := rxs.one
  obtain ⟨us, e1, e2⟩ := hr.lst h3
  obtain ⟨v2, q1, q2⟩ := e2.got h7
  rw [rx.ref]
  have hl := e2.len
  rw [← hl] at h5 hz
  obtain ⟨s1, s2, s3, s4⟩ := ixN_seq h5
  have big : (sizeLine : Nat) < 2 ^ 63 := by decide
  refine ⟨a, us, n, j, v2, rfl, by rw [ry.int], e1, by omega, by omega, s1, q1, ?_⟩
  obtain ⟨r2, g2⟩ := hr.put (u := .lst (us.eraseIdx j)) (o := .lst (ws.eraseIdx j)) h3 ⟨_, rfl, e2.erase j⟩
  exact k _ _ _ _ _ r2 g2 q2 h8
end
/-- some new lists -/
theorem lc_new {ρ : EnvD} {i : Nat} {fin : List W → Mem → Prop} : ∀ (rows : List W) (acc : List Addr) (M M' : Mem), acc.length + rows.length ≤ sizeLine → acc.Nodup → (∀ a ∈ acc, M a = none ∧ M' a = some (.lst [])) → (∀ b, ¬ b ∈ acc → M' b = M b) →
    (∀ (as : List Addr) (M2 : Mem), as.length = acc.length + rows.length → as.Nodup → (∀ a ∈ as, M a = none ∧ M2 a = some (.lst [])) → (∀ b, ¬ b ∈ as → M2 b = M b) → fin (as.map W.r) M2) → lcGo (bName i) any1 yesT (lstT nilA) ρ fin (rows1 rows) (acc.map W.r) M'
  | [], acc, M, M', hl, hn, ha, hb, h => by
    show any1 M' ∧ fin _ M'
    exact ⟨trivial, h acc M' rfl hn ha hb⟩
  | r :: rows, acc, M, M', hl, hn, ha, hb, h => by
    show any1 M' ∧ IfB true (∀ p, M' p = none → (acc.map W.r).length < sizeLine ∧ lcGo (bName i) any1 yesT (lstT nilA) ρ fin (rows1 rows) (acc.map W.r ++ [W.r p]) (mset M' p (.lst []))) _
    rw [List.length_cons] at hl
    refine ⟨trivial, .t rfl fun p hp => ⟨by rw [List.length_map]; omega, ?_⟩⟩
    have np : ¬ p ∈ acc := fun z => by rw [(ha p z).2] at hp; cases hp
    have e : acc.map W.r ++ [W.r p] = (acc ++ [p]).map W.r := by rw [List.map_append]; rfl
    rw [e]
    have hMp : M p = none := by rw [← hb p np]; exact hp
    refine lc_new rows (acc ++ [p]) M _ (by rw [List.length_append]; simp; omega) ?_ (fun a h1 => ?_) (fun b h1 => ?_) (fun as M2 h1 h2 h3 h4 => h as M2 (by rw [h1, List.length_append, List.length_cons]; simp; omega) h2 h3 h4)
    · rw [List.nodup_append]
      exact ⟨hn, by simp, fun x hx y hy => by
        rw [List.mem_singleton.mp hy]
        exact fun z => np (by rw [← z]; exact hx)⟩
    · rcases List.mem_append.mp h1 with h1 | h1
      · have : a ≠ p := fun z => np (by rw [← z]; exact h1)
        rw [mset_ne this]
        exact ha a h1
      · rw [List.mem_singleton.mp h1]
        exact ⟨hMp, mset_same⟩
    · have h2 : b ≠ p := fun z => h1 (by rw [z]; exact List.mem_append_right _ (List.mem_singleton.mpr rfl))
      rw [mset_ne h2]
      exact hb b fun z => h1 (List.mem_append_left _ z)
/-- numbers with a step -/
theorem forRC {i : Nat} {lo c : Int} {n : Nat} {keep : Mem → Prop} {body : TDS} {D : EndD} {ρ : EnvD} {M : Mem} (Pv : Nat → EnvD → Mem → Prop) (h0 : Pv 0 ρ M) (hk : ∀ i ρ M, i ≤ n → Pv i ρ M → keep M)
    (hs : ∀ j ρ M (N : EnvD → Mem → Prop), j < n → Pv j ρ M → (∀ ρ' M', Pv (j + 1) ρ' M' → N ρ' M') → body ⟨N, D.rt, D.nx, N⟩ (put ρ i (some (.d (.int (lo + (j : Nat) * c))))) M) (hd : ∀ ρ M, Pv n ρ M → D.nx ρ M) : forGo (bName i) keep body D (rows1 (rngC lo c n)) ρ M := by
  unfold rngC
  refine for1 Pv h0 (fun i ρ M hi p => hk i ρ M (by simpa using hi) p) (fun j a ρ M N ha p hN => ?_) (fun ρ M p => hd ρ M (by simpa using p))
  have e : a = j ∧ j < n := by
    obtain ⟨h1, h2⟩ := List.getElem?_eq_some_iff.mp ha
    rw [List.length_range] at h1
    simp at h2
    exact ⟨h2.symm, h1⟩
  obtain ⟨rfl, hj⟩ := e
  exact hs a ρ M N hj p hN
end Tl

set_option Elab.async false
set_option linter.all false
set_option maxRecDepth 100000
set_option maxHeartbeats 4000000
/-! Elders and levels, lists of kids by their weights and places. -/
namespace Tl
open PySem L2
structure RelEL (es ls : List Nat) : Prop where
  first : ls[0]? = some 1
  lev : ∀ (j l : Nat), ls[j]? = some l → 1 ≤ l ∧ l ≤ 10
  eld : ∀ (j e : Nat), 1 ≤ j → es[j]? = some e → e < j ∧ ∀ (l l' : Nat), ls[e]? = some l → ls[j]? = some l' → l' = l + 1
theorem get_snoc {α : Type} {xs : List α} {x y : α} {j : Nat} (h : (xs ++ [x])[j]? = some y) : (j < xs.length ∧ xs[j]? = some y) ∨ (j = xs.length ∧ y = x) := by
  by_cases c : j < xs.length
  · rw [List.getElem?_append_left c] at h
    exact .inl ⟨c, h⟩
  · rw [List.getElem?_append_right (by omega)] at h
    have e : j - xs.length = 0 := by
      by_cases z : j - xs.length = 0
      · exact z
      · rw [List.getElem?_eq_none (by show 1 ≤ _; omega)] at h
        cases h
    rw [e] at h
    exact .inr ⟨by omega, (Option.some.inj h).symm⟩
theorem RelEL.app {es ls : List Nat} (r : RelEL es ls) {e l : Nat} (hlen : es.length = ls.length) (he : ls[e]? = some l) (hl : l ≤ 9) : RelEL (es ++ [e]) (ls ++ [l + 1]) := by
  have hel : e < ls.length := (List.getElem?_eq_some_iff.mp he).1
  refine ⟨?_, fun j m h => ?_, fun j e' hj h => ?_⟩
  · rw [List.getElem?_append_left (by omega)]
    exact r.first
  · rcases get_snoc h with ⟨_, h⟩ | ⟨_, rfl⟩
    · exact r.lev j m h
    · omega
  · rcases get_snoc h with ⟨c, h⟩ | ⟨rfl, rfl⟩
    · obtain ⟨h1, h2⟩ := r.eld j e' hj h
      refine ⟨h1, fun a b ha hb => ?_⟩
      rw [List.getElem?_append_left (by omega)] at ha hb
      exact h2 a b ha hb
    · refine ⟨by omega, fun a b ha hb => ?_⟩
      rw [List.getElem?_append_left hel] at ha
      rw [hlen, List.getElem?_append_right (Nat.le_refl _), Nat.sub_self] at hb
      rw [he] at ha
      cases ha
      exact (Option.some.inj hb).symm
theorem RelEL.one : RelEL [0] [1] := by
  refine ⟨rfl, fun j l h => ?_, fun j e hj h => ?_⟩
  · match j, h with
    | 0, h => have := Option.some.inj h; omega
    | j + 1, h => simp at h
  · match j, h with
    | 0, _ => omega
    | j + 1, h => simp at h
/-- the weights of the first m lists together -/
def sw (m : Nat) (tss : List (List PyData)) : Nat := ((tss.take m).map wtAll).sum
theorem sw_succ {m : Nat} {tss : List (List PyData)} {ts : List PyData} (h : tss[m]? = some ts) : sw (m + 1) tss = sw m tss + wtAll ts := by
  unfold sw
  rw [List.take_add_one, h, List.map_append, List.sum_append]
  simp
theorem sw_set : ∀ {m e : Nat} {tss : List (List PyData)} {ts : List PyData} {T : PyData}, e < m → tss[e]? = some ts → sw m (tss.set e (ts ++ [T])) = sw m tss + (wt T + 2)
  | 0, _, _, _, _, h, _ => by omega
  | m + 1, 0, a :: r, ts, T, _, h => by
    have e : a = ts := Option.some.inj h
    subst e
    show ((a ++ [T]) :: r.take m |>.map wtAll).sum = ((a :: r.take m).map wtAll).sum + _
    rw [List.map_cons, List.map_cons, List.sum_cons, List.sum_cons, wtAll_app, wtAll, wtAll]
    omega
  | m + 1, e + 1, a :: r, ts, T, h, h2 => by
    have ih := sw_set (m := m) (e := e) (tss := r) (ts := ts) (T := T) (by omega) h2
    unfold sw at ih ⊢
    show ((a :: (r.set e (ts ++ [T])).take m).map wtAll).sum = ((a :: r.take m).map wtAll).sum + _
    rw [List.map_cons, List.map_cons, List.sum_cons, List.sum_cons, ih]
    omega
  | _ + 1, _, [], _, _, _, h => by simp at h
theorem wt_sw : ∀ {m e : Nat} {tss : List (List PyData)} {ts : List PyData}, e < m → tss[e]? = some ts → wtAll ts ≤ sw m tss
  | 0, _, _, _, h, _ => by omega
  | m + 1, 0, a :: r, ts, _, h => by
    have e : a = ts := Option.some.inj h
    subst e
    show wtAll a ≤ ((a :: r.take m).map wtAll).sum
    rw [List.map_cons, List.sum_cons]
    omega
  | m + 1, e + 1, a :: r, ts, h, h2 => by
    have ih := wt_sw (m := m) (e := e) (tss := r) (ts := ts) (by omega) h2
    unfold sw at ih ⊢
    show _ ≤ ((a :: r.take m).map wtAll).sum
    rw [List.map_cons, List.sum_cons]
    omega
  | _ + 1, _, [], _, _, h => by simp at h
theorem sw_rep (m n : Nat) : sw m (List.replicate n []) = 0 := by
  unfold sw
  rw [List.take_replicate, List.map_replicate]
  generalize min m n = k
  induction k with
  | zero => rfl
  | succ k ih => rw [List.replicate_succ, List.sum_cons, ih]; rfl
mutual
def nn : PyData → Nat
  | .tuple [_, .tuple ks] => 1 + nnAll ks
  | _ => 1
def nnAll : List PyData → Nat
  | [] => 0
  | k :: ks => nn k + nnAll ks
end
theorem nnAll_app : ∀ (a b : List PyData), nnAll (a ++ b) = nnAll a + nnAll b
  | [], b => by rw [List.nil_append, nnAll]; omega
  | k :: a, b => by
    rw [List.cons_append, nnAll, nnAll, nnAll_app a b]
    omega
theorem nnAll_rev : ∀ (a : List PyData), nnAll a.reverse = nnAll a
  | [] => rfl
  | k :: a => by
    rw [List.reverse_cons, nnAll_app, nnAll_rev a, nnAll, nnAll, nnAll]
    omega
/-- how many places the first m lists have together -/
def sn (m : Nat) (tss : List (List PyData)) : Nat := ((tss.take m).map nnAll).sum
theorem sn_succ {m : Nat} {tss : List (List PyData)} {ts : List PyData} (h : tss[m]? = some ts) : sn (m + 1) tss = sn m tss + nnAll ts := by
  unfold sn
  rw [List.take_add_one, h, List.map_append, List.sum_append]
  simp
theorem sn_set : ∀ {m e : Nat} {tss : List (List PyData)} {ts : List PyData} {T : PyData}, e < m → tss[e]? = some ts → sn m (tss.set e (ts ++ [T])) = sn m tss + nn T
  | 0, _, _, _, _, h, _ => by omega
  | m + 1, 0, a :: r, ts, T, _, h => by
    have e : a = ts := Option.some.inj h
    subst e
    show ((a ++ [T]) :: r.take m |>.map nnAll).sum = ((a :: r.take m).map nnAll).sum + _
    rw [List.map_cons, List.map_cons, List.sum_cons, List.sum_cons, nnAll_app, nnAll, nnAll]
    omega
  | m + 1, e + 1, a :: r, ts, T, h, h2 => by
    have ih := sn_set (m := m) (e := e) (tss := r) (ts := ts) (T := T) (by omega) h2
    unfold sn at ih ⊢
    show ((a :: (r.set e (ts ++ [T])).take m).map nnAll).sum = ((a :: r.take m).map nnAll).sum + _
    rw [List.map_cons, List.map_cons, List.sum_cons, List.sum_cons, ih]
    omega
  | _ + 1, _, [], _, _, _, h => by simp at h
theorem sn_rep (m n : Nat) : sn m (List.replicate n []) = 0 := by
  unfold sn
  rw [List.take_replicate, List.map_replicate]
  generalize min m n = k
  induction k with
  | zero => rfl
  | succ k ih => rw [List.replicate_succ, List.sum_cons, ih]; rfl
theorem wtAll_rev (ts : List PyData) : wtAll ts.reverse = wtAll ts := by
  induction ts with
  | nil => rfl
  | cons a r ih => rw [List.reverse_cons, wtAll_app, ih, wtAll, wtAll, wtAll]; omega
def tags5 : List Str := ["a", "b", "ab", "zz", "abcdefgh"]
theorem tags5_ok : ∀ s ∈ tags5, 1 ≤ s.length ∧ s.length ≤ 8 ∧ (PyData.strOk s = true ∧ s ∈ tags6) := by decide +kernel
end Tl

set_option Elab.async false
set_option linter.all false
set_option maxRecDepth 100000
set_option maxHeartbeats 4000000
/-! What the program's own looks answer, as Lean functions; promises. -/
namespace Tl
open PySem L2
/-! ### what they answer -/
def isCount : PyData → Bool
  | .int i => decide (0 ≤ i)
  | _ => false
def isNum (m : Int) : PyData → Bool
  | .int i => decide (0 ≤ i) && decide (i ≤ m)
  | _ => false
def small (c : Nat) : Bool := decide (97 ≤ c) && decide (c ≤ 122)
def isTag : PyData → Bool
  | .str s => decide (1 ≤ s.length) && decide (s.length ≤ 8) && s.cps.toList.all small
  | _ => false
def isPath : PyData → Bool
  | .tuple ds => decide (ds.length < 12) && ds.all (isNum 59)
  | _ => false
def tagKids : PyData → Bool
  | .tuple [a, b] => isTag a && isTup b
  | _ => false
/-- the program's own numbers -/
structure Cs (mg : Str → Option Value) : Prop where
  SIZE : ∃ t, mg "SIZE" = some (.int 60 t)
  DEPTH : ∃ t, mg "DEPTH" = some (.int 12 t)
  SIGNS : ∃ t, mg "SIGNS" = some (.int 8 t)
theorem c_SIZE {X : Cx} (C : Cs X.mg) {p : Pos} (hg : Gl X "SIZE" := by rfl) : PE X (.Name "SIZE" p) (tC (.int 60)) := by
  obtain ⟨t, e⟩ := C.SIZE
  exact pe_glob hg e ⟨t, rfl⟩
theorem c_DEPTH {X : Cx} (C : Cs X.mg) {p : Pos} (hg : Gl X "DEPTH" := by rfl) : PE X (.Name "DEPTH" p) (tC (.int 12)) := by
  obtain ⟨t, e⟩ := C.DEPTH
  exact pe_glob hg e ⟨t, rfl⟩
theorem c_SIGNS {X : Cx} (C : Cs X.mg) {p : Pos} (hg : Gl X "SIGNS" := by rfl) : PE X (.Name "SIGNS" p) (tC (.int 8)) := by
  obtain ⟨t, e⟩ := C.SIGNS
  exact pe_glob hg e ⟨t, rfl⟩
/-- a truth about one thing -/
@[reducible] def tfB (f : PyData → Bool) : TF := fun ws M R _ => g1 ws fun x => gD x fun d => txt d = true ∧ R (.d (.bool (f d))) M
@[reducible] def tfB2 (f : Int → PyData → Bool) : TF := fun ws M R _ => g2 ws fun x y => gD x fun d => gI y fun m => txt d = true ∧ R (.d (.bool (f m d))) M
theorem lex1 (a b : Nat) : ([a] : List Nat) < [b] ↔ a < b := by
  constructor
  · intro h
    cases h with
    | rel h => exact h
    | cons h => cases h
  · intro h
    exact List.Lex.rel h
theorem le_a (c : Nat) : (!decide ((⟨#[c]⟩ : Str).cps.toList < ("a" : Str).cps.toList)) = decide (97 ≤ c) := by
  show (!decide ([c] < [97])) = _
  rw [decide_eq_decide.mpr (lex1 c 97)]
  by_cases h : c < 97
  · rw [decide_eq_true h, decide_eq_false (by omega)]; rfl
  · rw [decide_eq_false h, decide_eq_true (by omega)]; rfl
theorem le_z (c : Nat) : (!decide (("z" : Str).cps.toList < (⟨#[c]⟩ : Str).cps.toList)) = decide (c ≤ 122) := by
  show (!decide ([122] < [c])) = _
  rw [decide_eq_decide.mpr (lex1 122 c)]
  by_cases h : 122 < c
  · rw [decide_eq_true h, decide_eq_false (by omega)]; rfl
  · rw [decide_eq_false h, decide_eq_true (by omega)]; rfl
/-! ### trees -/
def kidsD : PyData → List PyData
  | .tuple [_, .tuple ks] => ks
  | _ => []
/-- the room behind a tree, its kids one behind another -/
def roomB : Nat → PyData → Nat → Option Nat
  | 0, _, _ => none
  | _ + 1, _, 0 => none
  | l + 1, d, r + 1 => if tagKids d = true then (kidsD d).foldl (fun o kd => o.bind (roomB l kd)) (some r) else none
@[reducible] def optD : Option Nat → PyData
  | none => .none
  | some n => .int n
def isTreeD (d : PyData) : Bool := (roomB 12 d 60).isSome
theorem fold_none {α : Type} (f : α → Nat → Option Nat) : ∀ ks : List α, ks.foldl (fun o kd => o.bind (f kd)) none = none
  | [] => rfl
  | _ :: r => by rw [List.foldl_cons]; exact fold_none f r
@[reducible] def tfRoom (n : Nat) : TF := fun ws M R _ => ∃ (d : PyData) (l r : Nat), ws = [.d d, .d (.int l), .d (.int r)] ∧ txt d = true ∧ l < n ∧ R (.d (optD (roomB l d r))) M
theorem no0 {tf : TF} {P : Program} {w : World} {K : PySem.W.Frag} {mg : Str → Option Value} {base : Heap} {CX : CXT} {f : Addr} {fd : FuncData} {k n : Nat} {ps : List Str} (h : ∀ ws M R RX, ¬ tf ws M R RX) : FnOk P w K mg base CX k f fd ps (spD K n tf) :=
  ⟨fun vs H Q E ⟨F0, M, ws, R, RX, r, rs, hl, hf, _⟩ => absurd hf (h _ _ _ _), fun A outer s H args us vs Q E _ _ _ _ ⟨F0, M, ws, R, RX, r, rs, hl, hf, _⟩ => absurd hf (h _ _ _ _)⟩
/-! ### refusals -/
/-- an own error without a word, as the top has left its class -/
structure Er (K : PySem.W.Frag) (mg : Str → Option Value) (x : Str) (C : Addr) : Prop where
  g : mg x = some (.ref C)
  x : PySem.W.excIn K C [.type "ValueError", .type "Exception", .type "BaseException", .type "object"] "ValueError.__new__" = true
  k : PySem.W.keepIn K (.ref C) = true
  b : PySem.W.subIn K (.ref C) (.type "BaseException") = some true
  t : PySem.W.typeIn K (.ref C) = some (.type "type")
/-- a def that errors may leave -/
structure UseX (P : Program) (w : World) (K : PySem.W.Frag) (mg : Str → Option Value) (base : Heap) (x : Str) (ps : List Str) (k : Nat) (sp : Sp) where
  f : Addr
  fd : FuncData
  ok : FnOk P w K mg base (L2.CX P w) k f fd ps sp
  m : mg x = some (.ref f)
  kp : PySem.W.keepIn K (.ref f) = true
  b : Binds K fd ps []
/-- one thing is refused, or not -/
@[reducible] def tfChk (f : PyData → Bool) (C : Addr) : TF := fun ws M R RX => g1 ws fun x => gD x fun d => txt d = true ∧ (f d = true → R (.d .none) M) ∧ (f d = false → RX ⟨.ref C, []⟩ M)
/-! ### trees by their form -/
def TrT : Nat → PyData → Prop
  | 0, _ => False
  | h + 1, d => ∃ (s : Str) (ks : List PyData), d = .tuple [.str s, .tuple ks] ∧ isTag (.str s) = true ∧ ∀ k ∈ ks, TrT h k
theorem TrT.mono : ∀ {h h' : Nat} {d : PyData}, h ≤ h' → TrT h d → TrT h' d
  | 0, _, _, _, t => t.elim
  | h + 1, 0, _, e, _ => by omega
  | h + 1, h' + 1, d, e, t => by
    obtain ⟨s, ks, rfl, a, b⟩ := t
    exact ⟨s, ks, rfl, a, fun k hk => TrT.mono (by omega) (b k hk)⟩
theorem tags6_tag : ∀ s ∈ tags6, isTag (.str s) = true := by decide +kernel
theorem TrD.t : ∀ {h : Nat} {d : PyData}, TrD h d → TrT h d
  | 0, _, t => t.elim
  | h + 1, d, t => by
    obtain ⟨s, ks, rfl, a, b⟩ := t
    exact ⟨s, ks, rfl, tags6_tag s a.2.2.2, fun k hk => TrD.t (b k hk)⟩
theorem nn_pos (d : PyData) : 1 ≤ nn d := by
  unfold nn
  split <;> omega
theorem tagKids_node {s : Str} {ks : List PyData} (h : isTag (.str s) = true) : tagKids (.tuple [.str s, .tuple ks]) = true := by
  rw [tagKids, h]
  rfl
theorem fold_room {l : Nat} : ∀ (ks : List PyData) (r : Nat), (∀ k ∈ ks, ∀ r, nn k ≤ r → roomB l k r = some (r - nn k)) → nnAll ks ≤ r → ks.foldl (fun o kd => o.bind (roomB l kd)) (some r) = some (r - nnAll ks)
  | [], r, _, _ => rfl
  | k :: ks, r, h, hr => by
    rw [nnAll] at hr
    rw [List.foldl_cons]
    show ks.foldl _ (roomB l k r) = _
    rw [h k (.head _) r (by omega), fold_room ks (r - nn k) (fun x hx => h x (.tail _ hx)) (by omega), nnAll]
    congr 1
    omega
theorem room_nn : ∀ {l : Nat} {d : PyData}, TrT l d → ∀ r, nn d ≤ r → roomB l d r = some (r - nn d)
  | 0, _, t, _, _ => t.elim
  | l + 1, _, ⟨s, ks, rfl, a, b⟩, r, hr => by
    rw [nn] at hr
    obtain ⟨r, rfl⟩ : ∃ r', r = r' + 1 := ⟨r - 1, by omega⟩
    rw [roomB, if_pos (tagKids_node a), kidsD, fold_room ks r (fun k hk => room_nn (b k hk)) (by omega), nn]
    congr 1
    omega
theorem fold_back {l : Nat} : ∀ (ks : List PyData) (r m : Nat), (∀ k ∈ ks, ∀ r m, roomB l k r = some m → TrT l k ∧ m + nn k = r) → ks.foldl (fun o kd => o.bind (roomB l kd)) (some r) = some m → (∀ k ∈ ks, TrT l k) ∧ m + nnAll ks = r
  | [], r, m, _, h => by
    cases h
    exact ⟨fun k hk => absurd hk List.not_mem_nil, rfl⟩
  | k :: ks, r, m, hk, h => by
    rw [List.foldl_cons] at h
    have h' : ks.foldl (fun o kd => o.bind (roomB l kd)) (roomB l k r) = some m := h
    cases c : roomB l k r with
    | none =>
      rw [c, fold_none] at h'
      cases h'
    | some m' =>
      rw [c] at h'
      obtain ⟨q1, q2⟩ := hk k (.head _) r m' c
      obtain ⟨q3, q4⟩ := fold_back ks m' m (fun x hx => hk x (.tail _ hx)) h'
      rw [nnAll]
      exact ⟨fun x hx => (List.mem_cons.mp hx).elim (fun z => by rw [z]; exact q1) (q3 x), by omega⟩
theorem tagKids_of {d : PyData} (h : tagKids d = true) : ∃ (s : Str) (ks : List PyData), d = .tuple [.str s, .tuple ks] ∧ isTag (.str s) = true := by
  unfold tagKids at h
  split at h
  · rename_i a b
    rw [Bool.and_eq_true] at h
    cases b with
    | tuple ks =>
      cases a with
      | str s => exact ⟨s, ks, rfl, h.1⟩
      | _ => exact absurd h.1 (by simp [isTag])
    | _ => exact absurd h.2 (by simp [isTup])
  · cases h
theorem room_back : ∀ {l : Nat} {d : PyData} {r m : Nat}, roomB l d r = some m → TrT l d ∧ m + nn d = r
  | 0, _, _, _, h => by rw [roomB] at h; cases h
  | l + 1, _, 0, _, h => by rw [roomB] at h; cases h
  | l + 1, d, r + 1, m, h => by
    rw [roomB] at h
    split at h
    · rename_i c
      obtain ⟨s, ks, rfl, hs⟩ := tagKids_of c
      rw [kidsD] at h
      obtain ⟨q1, q2⟩ := fold_back ks r m (fun k hk r m => room_back) h
      rw [nn]
      exact ⟨⟨s, ks, rfl, hs, q1⟩, by omega⟩
    · cases h
theorem tree_iff {d : PyData} : isTreeD d = true ↔ TrT 12 d ∧ nn d ≤ 60 := by
  unfold isTreeD
  constructor
  · intro h
    cases c : roomB 12 d 60 with
    | none => rw [c] at h; cases h
    | some m =>
      obtain ⟨q1, q2⟩ := room_back c
      exact ⟨q1, by omega⟩
  · intro h
    rw [room_nn h.1 60 h.2]
    rfl
theorem tree_no {d : PyData} (h : isTreeD d = false) : ¬ (TrT 12 d ∧ nn d ≤ 60) := fun z => by rw [tree_iff.mpr z] at h; cases h
theorem TrT.node {n : Nat} {d : PyData} (h : TrT n d) : ∃ (s : Str) (ks : List PyData), d = .tuple [.str s, .tuple ks] ∧ isTag (.str s) = true ∧ ∀ k ∈ ks, TrT (n - 1) k := by
  cases n with
  | zero => exact h.elim
  | succ n => exact h
theorem tag_small {s : Str} (h : isTag (.str s) = true) : 1 ≤ s.length ∧ s.length ≤ 8 ∧ PyData.strOk s = true := by
  rw [isTag, Bool.and_eq_true, Bool.and_eq_true] at h
  refine ⟨of_decide_eq_true h.1.1, of_decide_eq_true h.1.2, ?_⟩
  rw [PyData.strOk, ← Array.all_toList, List.all_eq_true]
  intro c hc
  have := List.all_eq_true.mp h.2 c hc
  unfold small at this
  rw [Bool.and_eq_true] at this
  have h2 := of_decide_eq_true this.2
  exact decide_eq_true (Nat.lt_of_le_of_lt h2 (by decide))
mutual
theorem TrT.gd : ∀ {h : Nat} {d : PyData}, TrT h d → Tl.gd d = true ∧ d.depth ≤ 2 * h ∧ wt d + 2 ≤ 96 * nn d ∧ noL d = true
  | 0, _, t => t.elim
  | h + 1, d, t => by
    obtain ⟨s, ks, rfl, a, b⟩ := t
    obtain ⟨a1, a2, a3⟩ := tag_small a
    obtain ⟨q1, q2, q3, q4⟩ := TrT.gds b
    refine ⟨?_, ?_, ?_, ?_⟩
    · rw [Tl.gd, gdAll, gdAll, gdAll, Tl.gd, Tl.gd, q1, a3, decide_eq_true (by omega)]
      rfl
    · simp only [PyData.depth, PyData.depthAll]
      omega
    · rw [wt_node, nn]
      omega
    · simp [noL, noLs, q4]
theorem TrT.gds : ∀ {h : Nat} {ks : List PyData}, (∀ k ∈ ks, TrT h k) → gdAll ks = true ∧ PyData.depthAll ks ≤ 2 * h ∧ wtAll ks ≤ 96 * nnAll ks ∧ noLs ks = true
  | h, [], _ => ⟨rfl, Nat.zero_le _, Nat.le_refl _, rfl⟩
  | h, k :: ks, hk => by
    obtain ⟨p1, p2, p3, p4⟩ := TrT.gd (hk k (.head _))
    obtain ⟨q1, q2, q3, q4⟩ := TrT.gds fun x hx => hk x (.tail _ hx)
    refine ⟨by rw [gdAll, p1, q1]; rfl, ?_, ?_, by rw [noLs, p4, q4]; rfl⟩
    · rw [PyData.depthAll]
      omega
    · rw [wtAll, nnAll]
      have := nn_pos k
      omega
end
end Tl

set_option Elab.async false
set_option linter.all false
set_option maxRecDepth 100000
set_option maxHeartbeats 4000000
/-! Errors: raised with fields, caught, looked at. -/
namespace Tl
open PySem PySem.Spec PyProof.Rows L2
section
variable {K : PySem.W.Frag} {Wx Wout : WX} {RE : REx}
/-! ### try -/
/-- try .. except c as n: name j = n, looked at behind -/
@[reducible] def tryA (K : PySem.W.Frag) (c : Value) (i j : Nat) (TB : REx → TDS) (RE : REx) : TDS := fun D ρ M => TB (fun x ρ' M' => gO (PySem.W.exmOne K x.cls c) fun yes => IfB yes
  (i < ρ'.length ∧ (match x.cls with | .ref C => ∀ a dd, M' a = none → D.nx (put (put (put ρ' i (some (.x a C dd x.fs))) j (some (.x a C dd x.fs))) i none) (mset M' a (.exc C dd)) | _ => False)) (RE x ρ' M')) D ρ M
theorem ss_tryA {c : Value} {i j : Nat} {tb : WX → TS} {TB : REx → TDS} (hb : ∀ Wx RE, SSt K Wx RE (tb Wx) (TB RE)) :
    SSt K Wout RE (fun D σ H => tb (wKeep K c i (fun _ _ _ => tAsg (tVar i) (gName j)) Wout D) D σ H) (tryA K c i j TB RE) := fun F H M σ ρ D E hr hx hs ht k => by
  refine hb _ _ F H M σ ρ D E hr (fun F' H' M' σ' ρ' cls d x g r s xr hre => ?_) hs ht k
  obtain ⟨yes, h1, h2⟩ := gO_of hre
  have h2 := h2.ite
  refine ⟨yes, by rw [xr.1]; exact h1, fun hy a ha => ?_, fun hn => hx F' H' M' σ' ρ' cls d x g r s xr (by rw [hn, if_neg Bool.false_ne_true] at h2; exact h2)⟩
  rw [if_pos hy] at h2
  obtain ⟨hi, h4⟩ := h2
  cases hC : x.cls with
  | ref C =>
    rw [hC] at h4
    have hcls : cls = .ref C := xr.1.trans hC
    have hMa := r.new ha
    refine ⟨.ref a, by rw [List.getElem?_set_self (by rw [s.len]; exact hi)], ?_⟩
    have hFa := r.fh.free ha
    have s2 := ((s.set (.x (a := a) (C := C) xr.2) i).set (.x (a := a) (C := C) xr.2) j).del i none
    refine k.nx _ _ F' (mset M' a (.exc C d)) _ ⟨same_mut r.fh hFa, fun b o q => ?_, fun b o q => ?_⟩ ⟨g.ff, fun b u q n => ?_, g.nf⟩ s2 (h4 a d hMa)
    · by_cases z : b = a
      · rw [z]; exact hFa
      · rw [mset_ne z] at q; exact r.mf b o q
    · by_cases z : b = a
      · subst z
        rw [mset_same] at q
        cases q
        exact ⟨_, upd_same, by rw [hcls]; rfl⟩
      · rw [mset_ne z] at q
        rw [upd_ne z]
        exact r.at_ b o q
    · obtain ⟨q1, q2⟩ := g.un b u q n
      have z : b ≠ a := ne_of_none q1 ha
      rw [upd_ne z, mset_ne z]
      exact ⟨q1, q2⟩
  | _ => rw [hC] at h4; exact h4.elim
/-- try .. except c as n: a suite that looks at n -/
@[reducible] def tryB (K : PySem.W.Frag) (c : Value) (i : Nat) (TB : REx → TDS) (TU : Addr → Value → Option Addr → TDS) (RE : REx) : TDS := fun D ρ M => TB (fun x ρ' M' => gO (PySem.W.exmOne K x.cls c) fun yes => IfB yes
  (match x.cls with | .ref C => ∀ a dd, TU a (.ref C) dd ⟨fun ρ2 M2 => D.nx (put ρ2 i none) M2, D.rt, fun ρ2 M2 => D.bk (put ρ2 i none) M2, fun ρ2 M2 => D.ct (put ρ2 i none) M2⟩ (put ρ' i (some (.x a C dd x.fs))) M' | _ => False) (RE x ρ' M')) D ρ M
theorem ss_tryB {c : Value} {i : Nat} {ts : Addr → Value → Option Addr → TS} {TU : Addr → Value → Option Addr → TDS} {tb : WX → TS} {TB : REx → TDS} (hb : ∀ Wx RE, SSt K Wx RE (tb Wx) (TB RE)) (hu : ∀ a cls d, SSt K (fun _ _ _ _ => False) (fun _ _ _ => False) (ts a cls d) (TU a cls d)) :
    SSt K Wout RE (fun D σ H => tb (wAs K c i ts Wout D) D σ H) (tryB K c i TB TU RE) := fun F H M σ ρ D E hr hx hs ht k => by
  refine hb _ _ F H M σ ρ D E hr (fun F' H' M' σ' ρ' cls d x g r s xr hre => ?_) hs ht k
  obtain ⟨yes, h1, h2⟩ := gO_of hre
  have h2 := h2.ite
  refine ⟨yes, by rw [xr.1]; exact h1, fun hy a ha => ?_, fun hn => hx F' H' M' σ' ρ' cls d x g r s xr (by rw [hn, if_neg Bool.false_ne_true] at h2; exact h2)⟩
  rw [if_pos hy] at h2
  cases hC : x.cls with
  | ref C =>
    rw [hC] at h2
    have hcls : cls = .ref C := xr.1.trans hC
    subst hcls
    refine hu a (.ref C) d F' H' M' _ _ _ _ r (fun _ _ _ _ _ _ _ _ _ _ _ _ z => z) (s.set (.x (a := a) (C := C) xr.2) i) (h2 a d) ⟨fun σ2 H2 F2 M2 ρ2 r2 g2 s2 q => ?_, fun v H2 F2 M2 x2 r2 g2 => k.rt v H2 F2 M2 x2 r2 (g.trans g2), fun σ2 H2 F2 M2 ρ2 r2 g2 s2 q => ?_, fun σ2 H2 F2 M2 ρ2 r2 g2 s2 q => ?_⟩
    · exact k.nx _ H2 F2 M2 _ r2 (g.trans g2) (s2.del i none) q
    · exact k.bk _ H2 F2 M2 _ r2 (g.trans g2) (s2.del i none) q
    · exact k.ct _ H2 F2 M2 _ r2 (g.trans g2) (s2.del i none) q
  | _ => rw [hC] at h2; exact h2.elim
/-- try .. except c: a suite -/
@[reducible] def tryO (K : PySem.W.Frag) (c : Value) (TB : REx → TDS) (TU : TDS) (RE : REx) : TDS := fun D ρ M => TB (fun x ρ' M' => gO (PySem.W.exmOne K x.cls c) fun yes => IfB yes (TU D ρ' M') (RE x ρ' M')) D ρ M
theorem ss_tryO {c : Value} {ts : Addr → Value → Option Addr → TS} {TU : TDS} {tb : WX → TS} {TB : REx → TDS} (hb : ∀ Wx RE, SSt K Wx RE (tb Wx) (TB RE)) (hu : ∀ a cls d, SSt K (fun _ _ _ _ => False) (fun _ _ _ => False) (ts a cls d) TU) :
    SSt K Wout RE (fun D σ H => tb (wOnly K c ts Wout D) D σ H) (tryO K c TB TU RE) := fun F H M σ ρ D E hr hx hs ht k => by
  refine hb _ _ F H M σ ρ D E hr (fun F' H' M' σ' ρ' cls d x g r s xr hre => ?_) hs ht k
  obtain ⟨yes, h1, h2⟩ := gO_of hre
  have h2 := h2.ite
  refine ⟨yes, by rw [xr.1]; exact h1, fun hy a ha => ?_, fun hn => hx F' H' M' σ' ρ' cls d x g r s xr (by rw [hn, if_neg Bool.false_ne_true] at h2; exact h2)⟩
  rw [if_pos hy] at h2
  exact hu a cls d F' H' M' _ _ _ _ r (fun _ _ _ _ _ _ _ _ _ _ _ _ z => z) s h2 (k.mono g)
/-! ### isinstance of an error -/
@[reducible] def clsW : W → Option Value
  | .o (.ty n) => some (.type n)
  | .o (.ref C) => some (.ref C)
  | _ => none
theorem clsW_of {F : Hp} {v : V} {x : W} {c : Value} (r : RW K F v x) (h : clsW x = some c) : ClsV v c := by
  unfold clsW at h
  split at h
  · cases r; cases h; exact .ty _
  · cases r; cases h; exact .own _
  · cases h
theorem clsV_val {c : V} {cv : Value} (k : ClsV c cv) : ∀ u, RelV c u → u = cv := fun u r => k.eq r
theorem fx_dx {F H : Hp} {d : Option Addr} {fs : List (Str × PyData)} (e : Same F H) (h : FX K F d fs) : DxO H d := by
  cases d with
  | none => trivial
  | some dd =>
    obtain ⟨fv, h1, _⟩ := h
    exact ⟨fv, e _ _ h1⟩
/-- kept: M tells of it -/
@[reducible] def keptX (K : PySem.W.Frag) (M : Mem) (x : W) (k : Addr → Prop) : Prop := match x with | .x a C dd _ => M a = some (.exc C dd) ∧ ExcC K C ∧ k C | _ => False
@[reducible] def fIsK (K : PySem.W.Frag) : FL := fun xs M R => g2 xs fun x y => keptX K M x fun C => gO (clsW y) fun c => gO (PySem.W.kitOne K (.ref C) c) fun b => R (.d (.bool b)) M
theorem keptX_of {F H : Hp} {M : Mem} {v : V} {x : W} {k : Addr → Prop} (hr : Rl K F H M) (r : RW K F v x) (h : keptX K M x k) : ∃ a C dd, v = .ref a ∧ H a = some (CgO (.ref C) dd a) ∧ DxO H dd ∧ ExcC K C ∧ k C := by
  cases x with
  | x a C dd fs =>
    obtain ⟨h1, h2, h3⟩ := h
    cases r with
    | x fx =>
      obtain ⟨u, e1, e2⟩ := hr.at_ a _ h1
      exact ⟨a, C, dd, rfl, by rw [e1]; exact congrArg some e2, fx_dx hr.fh fx, h2, h3⟩
  | d _ => exact h.elim
  | r _ => exact h.elim
  | o _ => exact h.elim
theorem sc_isK : SC K (rIsK K) (fIsK K) := fun F H M vs xs R Q hr rx hf k => by
  obtain ⟨x, y, rfl, h1⟩ := g2_of hf
  obtain ⟨v, u, rfl, r, r'⟩ := rx.two
  obtain ⟨a, C, dd, rfl, e1, e2, e3, h2⟩ := keptX_of hr r h1
  obtain ⟨c, h3, h4⟩ := gO_of h2
  obtain ⟨b, h5, h6⟩ := gO_of h4
  exact ⟨a, C, dd, u, c, b, rfl, e1, e2, e3, clsV_val (clsW_of r' h3), h5, k _ H F M _ hr .refl (.d (.bl _)) h6⟩
/-- isinstance(kept, (c1, c2, ..)) -/
def rIsKT (K : PySem.W.Frag) : List V → Hp → VK → Prop := fun xs H Q => ∃ (a D tp : Addr) (d : Option Addr) (cs : List V) (us : List Value) (b : Bool),
  xs = [.ref a, .ref tp] ∧ H a = some (CgO (.ref D) d a) ∧ DxO H d ∧ ExcC K D ∧ H tp = some (.tup cs) ∧ Paired ClsV cs us ∧ PySem.W.kitAny K (.ref D) us = some b ∧ Q (.bl b) H
theorem call_isKT {X : Cx} : CallR X (.builtin "isinstance") (rIsKT X.K) := by
  intro pins s σ H xs us Q I r h
  obtain ⟨a, D, tp, d, cs, ws, b, rfl, ha, hd, C, hT, kc, hk, q⟩ := h
  rcases r with _ | ⟨rx, r⟩
  rcases r with _ | ⟨rt, r⟩
  cases r
  cases rx
  cases rt
  obtain ⟨ox, od, J⟩ := cg_inst I ha hd
  obtain ⟨cd, hcd, _⟩ := PySem.W.any_some C.hd
  obtain ⟨_, its, rv, o, h1, h2, n, h3⟩ := (show ObjOk X.prog X.w H s.heap tp (.tup cs) from I.hok tp _ hT)
  have e3 := ClsV.all kc rv
  subst e3
  obtain ⟨oc, od', dt, sl⟩ := o
  simp only at h2 h3
  subst h2 h3
  exact PySem.W.kia_tup (PySem.W.kitx_exc (by rw [hcd]; rfl) C.hg C.hk C.hs C.ha C.hn C.ht C.hm) I.kIn J h1 hk (fun z => nomatch z) fun tk => ⟨.bl b, H, I.kept (t' := tk) fun _ _ z => z, rfl, q⟩
/-- all of them classes -/
@[reducible] def gCs : List W → (List Value → Prop) → Prop
  | [], k => k []
  | x :: r, k => gO (clsW x) fun c => gCs r fun cs => k (c :: cs)
theorem gCs_of {F : Hp} : ∀ {xs : List W} {vs : List V} {k : List Value → Prop}, RWs K F vs xs → gCs xs k → ∃ cs, Paired ClsV vs cs ∧ k cs
  | [], _, k, r, h => by cases r; exact ⟨[], .nil, h⟩
  | x :: xs, _, k, r, h => by
    cases r with
    | cons a b =>
      obtain ⟨c, h1, h2⟩ := gO_of h
      obtain ⟨cs, h3, h4⟩ := gCs_of b h2
      exact ⟨c :: cs, .cons (clsW_of a h1) h3, h4⟩
@[reducible] def isKT (K : PySem.W.Frag) (T : TDE) (U : TDA) : TDE := fun ρ M R => T ρ M fun x M1 => U ρ M1 fun ys M2 => keptX K M2 x fun C => gCs ys fun cs => gO (PySem.W.kitAny K (.ref C) cs) fun b => R (.d (.bool b)) M2
theorem se_isKT {n : Nat} {tx : TE} {ta : TA} {T : TDE} {U : TDA} (h1 : SE K Wx RE tx T) (h2 : SAn K Wx RE n ta U) (hn : n ≤ 1000 := by decide) : SE K Wx RE (tCB (rIsKT K) (tCons tx (tCons (tTup ta) tNil))) (isKT K T U) := fun F H M σ ρ R Q hr hx hs ht k =>
  h1 F H M σ ρ _ _ hr hx hs ht fun v H1 F1 M1 x r1 g1 rx q1 => h2 F1 H1 M1 σ ρ _ _ r1 (hx.mono g1) (hs.mono g1.ff) q1 fun vs H2 F2 M2 ys r2 g2 rys hl q2 => by
    refine ⟨by rw [rys.len, hl]; exact sz1000 hn, fun p hp => ?_⟩
    obtain ⟨a, C, dd, rfl, e1, e2, e3, q3⟩ := keptX_of r2 (rx.mono g2.ff) q2
    obtain ⟨cs, kc, q4⟩ := gCs_of rys q3
    obtain ⟨b, q5, q6⟩ := gO_of q4
    have sm := same_new (o := .tup vs) hp
    obtain ⟨r3, g3⟩ := r2.same sm
    refine ⟨a, C, p, dd, vs, cs, b, rfl, sm _ _ e1, ?_, e3, upd_same, kc, q5, k _ _ F2 M2 _ r3 ((g1.trans g2).trans g3) (.d (.bl _)) q6⟩
    cases dd with
    | none => trivial
    | some dd =>
      obtain ⟨fs, e4⟩ := e2
      exact ⟨fs, sm _ _ e4⟩
/-- kept.n -/
theorem dx_lookup {F : Hp} {n : Str} : ∀ {fv : List (Str × V)} {fs : List (Str × PyData)} {y : PyData}, fv.map (·.1) = fs.map (·.1) → DxL K F (fv.map (·.2)) (fs.map (·.2)) → fs.lookup n = some y → ∃ v, fv.lookup n = some v ∧ Dx K F v y
  | [], [], _, _, _, h => by cases h
  | [], _ :: _, _, e, _, _ => by simp at e
  | _ :: _, [], _, e, _, _ => by simp at e
  | (f, v) :: fv, (g, d) :: fs, y, e, r, h => by
    simp only [List.map_cons, List.cons.injEq] at e
    obtain ⟨e1, e2⟩ := e
    subst e1
    cases r with
    | cons r1 r2 =>
      rw [List.lookup_cons] at h ⊢
      cases c : n == f with
      | true =>
        rw [c] at h
        cases h
        exact ⟨v, rfl, r1⟩
      | false =>
        rw [c] at h
        exact dx_lookup e2 r2 h
@[reducible] def kfT (C0 : Addr) (n : Str) (T : TDE) : TDE := fun ρ M R => T ρ M fun x M1 => match x with | .x a C dd fs => (C = C0 ∧ dd.isSome = true ∧ M1 a = some (.exc C dd)) ∧ gO (fs.lookup n) fun y => R (.d y) M1 | _ => False
theorem se_kf {C0 : Addr} {n : Str} {te : TE} {T : TDE} (h : SE K Wx RE te T) : SE K Wx RE (fun σ H Q => te σ H fun x H1 => ∃ (a dd : Addr) (fs : List (Str × V)) (v : V), x = .ref a ∧ H1 a = some (CgO (.ref C0) (some dd) a) ∧ H1 dd = some (.xd fs) ∧ fs.lookup n = some v ∧ Q v H1) (kfT C0 n T) := fun F H M σ ρ R Q hr hx hs ht k =>
  h F H M σ ρ _ _ hr hx hs ht fun v H1 F1 M1 x r1 g1 rx q1 => by
    cases x with
    | x a C dd fs =>
      obtain ⟨⟨rfl, h2, h3⟩, h4⟩ := q1
      obtain ⟨y, h5, h6⟩ := gO_of h4
      cases rx with
      | x fx =>
        cases dd with
        | none => cases h2
        | some dd =>
          obtain ⟨fv, e1, e2, e3⟩ := fx
          obtain ⟨u, hu, du⟩ := dx_lookup e2 e3 h5
          obtain ⟨o, e4, e5⟩ := r1.at_ a _ h3
          exact ⟨a, dd, fv, u, rfl, by rw [e4]; exact congrArg some e5, r1.fh _ _ e1, hu, k _ H1 F1 M1 _ r1 g1 (.d du) h6⟩
    | d _ => exact q1.elim
    | r _ => exact q1.elim
    | o _ => exact q1.elim
/-! ### within the suite -/
/-- isinstance(e, c), e the error that the suite holds -/
def rIsS (K : PySem.W.Frag) (a : Addr) (cls : Value) (d : Option Addr) : List V → Hp → VK → Prop := fun xs H Q => ∃ (D : Addr) (c : V) (cv : Value) (b : Bool), cls = .ref D ∧ xs = [.ref a, c] ∧ DxO H d ∧ ExcC K D ∧ (∀ u, RelV c u → u = cv) ∧ PySem.W.kitOne K (.ref D) cv = some b ∧ Q (.bl b) H
def rIsST (K : PySem.W.Frag) (a : Addr) (cls : Value) (d : Option Addr) : List V → Hp → VK → Prop := fun xs H Q => ∃ (D tp : Addr) (cs : List V) (us : List Value) (b : Bool), cls = .ref D ∧ xs = [.ref a, .ref tp] ∧ DxO H d ∧ ExcC K D ∧ H tp = some (.tup cs) ∧ Paired ClsV cs us ∧ PySem.W.kitAny K (.ref D) us = some b ∧ Q (.bl b) H
theorem su_inst {X : Cx} {a D : Addr} {d : Option Addr} {oe : Obj} {pn pins : List (Addr × Obj)} {σ : L2.St} {H : Hp} {s : Shared} (I : Inv (X.suite a ((a, oe) :: pn)) pins σ H s) (hz : Zc (.ref D) d oe) (hf : ∃ vs, oe.data = .fields vs) (hd : DxO H d) : ∃ od, PySem.W.InstAt s.heap a oe D od := by
  obtain ⟨hget, _⟩ := I.pin (a, oe) (List.mem_append.mpr (.inl List.mem_cons_self))
  obtain ⟨vs, hv⟩ := hf
  have no : PySem.W.notCls oe = true := by unfold PySem.W.notCls; rw [hv] <;> rfl
  cases d with
  | none => exact ⟨none, hget, hz.1, no, by rw [hz.2]; trivial⟩
  | some dd =>
    obtain ⟨fs, hf⟩ := hd
    obtain ⟨mA, hns, _⟩ : ∃ mA, s.heap.Ns1 dd mA ∧ ∀ f, RelO (fs.lookup f) (mA f) := I.hok dd _ hf
    obtain ⟨od, ho, _⟩ := lookIn_ns hns
    exact ⟨some od, hget, hz.1, no, by rw [hz.2]; exact ho⟩
theorem call_isS {X : Cx} {a : Addr} {cls : Value} {d : Option Addr} {oe : Obj} {pn : List (Addr × Obj)} (hz : Zc cls d oe) (hf : ∃ vs, oe.data = .fields vs) : CallR (X.suite a ((a, oe) :: pn)) (.builtin "isinstance") (rIsS X.K a cls d) := by
  intro pins s σ H xs us Q I r h
  obtain ⟨D, c, cv, b, rfl, rfl, hd, C, hc, hk, q⟩ := h
  rcases r with _ | ⟨rx, r⟩
  rcases r with _ | ⟨rt, r⟩
  cases r
  cases rx
  obtain rfl := hc _ rt
  obtain ⟨od, J⟩ := su_inst I hz hf hd
  obtain ⟨cd, hcd, _⟩ := PySem.W.any_some C.hd
  exact PySem.W.kia_one (PySem.W.kitx_exc (by rw [hcd]; rfl) C.hg C.hk C.hs C.ha C.hn C.ht C.hm) I.kIn J hk (fun z => nomatch z) fun tk => ⟨.bl b, H, I.kept (t' := tk) fun _ _ z => z, rfl, q⟩
theorem call_isST {X : Cx} {a : Addr} {cls : Value} {d : Option Addr} {oe : Obj} {pn : List (Addr × Obj)} (hz : Zc cls d oe) (hf : ∃ vs, oe.data = .fields vs) : CallR (X.suite a ((a, oe) :: pn)) (.builtin "isinstance") (rIsST X.K a cls d) := by
  intro pins s σ H xs us Q I r h
  obtain ⟨D, tp, cs, ws, b, rfl, rfl, hd, C, hT, kc, hk, q⟩ := h
  rcases r with _ | ⟨rx, r⟩
  rcases r with _ | ⟨rt, r⟩
  cases r
  cases rx
  cases rt
  obtain ⟨od, J⟩ := su_inst I hz hf hd
  obtain ⟨cd, hcd, _⟩ := PySem.W.any_some C.hd
  obtain ⟨_, its, rv, o, h1, h2, n, h3⟩ := (show ObjOk X.prog X.w H s.heap tp (.tup cs) from I.hok tp _ hT)
  have e3 := ClsV.all kc rv
  subst e3
  obtain ⟨oc, od', dt, sl⟩ := o
  simp only at h2 h3
  subst h2 h3
  exact PySem.W.kia_tup (PySem.W.kitx_exc (by rw [hcd]; rfl) C.hg C.hk C.hs C.ha C.hn C.ht C.hm) I.kIn J h1 hk (fun z => nomatch z) fun tk => ⟨.bl b, H, I.kept (t' := tk) fun _ _ z => z, rfl, q⟩
@[reducible] def heldX (K : PySem.W.Frag) (a : Addr) (cls : Value) (d : Option Addr) (x : W) (k : Addr → Prop) : Prop := match x with | .x a' C dd _ => (a' = a ∧ cls = .ref C ∧ dd = d) ∧ ExcC K C ∧ k C | _ => False
theorem heldX_of {F H : Hp} {a : Addr} {cls : Value} {d : Option Addr} {v : V} {x : W} {k : Addr → Prop} (e : Same F H) (r : RW K F v x) (h : heldX K a cls d x k) : ∃ C, cls = .ref C ∧ v = .ref a ∧ DxO H d ∧ ExcC K C ∧ k C := by
  cases x with
  | x a' C dd fs =>
    obtain ⟨⟨rfl, h1, rfl⟩, h2, h3⟩ := h
    cases r with
    | x fx => exact ⟨C, h1, rfl, fx_dx e fx, h2, h3⟩
  | d _ => exact h.elim
  | r _ => exact h.elim
  | o _ => exact h.elim
@[reducible] def fIsS (K : PySem.W.Frag) (a : Addr) (cls : Value) (d : Option Addr) : FL := fun xs M R => g2 xs fun x y => heldX K a cls d x fun C => gO (clsW y) fun c => gO (PySem.W.kitOne K (.ref C) c) fun b => R (.d (.bool b)) M
theorem sc_isS {a : Addr} {cls : Value} {d : Option Addr} : SC K (rIsS K a cls d) (fIsS K a cls d) := fun F H M vs xs R Q hr rx hf k => by
  obtain ⟨x, y, rfl, h1⟩ := g2_of hf
  obtain ⟨v, u, rfl, r, r'⟩ := rx.two
  obtain ⟨C, e1, rfl, e2, e3, h2⟩ := heldX_of hr.fh r h1
  obtain ⟨c, h3, h4⟩ := gO_of h2
  obtain ⟨b, h5, h6⟩ := gO_of h4
  exact ⟨C, u, c, b, e1, rfl, e2, e3, clsV_val (clsW_of r' h3), h5, k _ H F M _ hr .refl (.d (.bl _)) h6⟩
@[reducible] def isST (K : PySem.W.Frag) (a : Addr) (cls : Value) (d : Option Addr) (T : TDE) (U : TDA) : TDE := fun ρ M R => T ρ M fun x M1 => U ρ M1 fun ys M2 => heldX K a cls d x fun C => gCs ys fun cs => gO (PySem.W.kitAny K (.ref C) cs) fun b => R (.d (.bool b)) M2
theorem se_isST {a : Addr} {cls : Value} {d : Option Addr} {n : Nat} {tx : TE} {ta : TA} {T : TDE} {U : TDA} (h1 : SE K Wx RE tx T) (h2 : SAn K Wx RE n ta U) (hn : n ≤ 1000 := by decide) : SE K Wx RE (tCB (rIsST K a cls d) (tCons tx (tCons (tTup ta) tNil))) (isST K a cls d T U) := fun F H M σ ρ R Q hr hx hs ht k =>
  h1 F H M σ ρ _ _ hr hx hs ht fun v H1 F1 M1 x r1 g1 rx q1 => h2 F1 H1 M1 σ ρ _ _ r1 (hx.mono g1) (hs.mono g1.ff) q1 fun vs H2 F2 M2 ys r2 g2 rys hl q2 => by
    refine ⟨by rw [rys.len, hl]; exact sz1000 hn, fun p hp => ?_⟩
    obtain ⟨C, e1, rfl, e2, e3, q3⟩ := heldX_of r2.fh (rx.mono g2.ff) q2
    obtain ⟨cs, kc, q4⟩ := gCs_of rys q3
    obtain ⟨b, q5, q6⟩ := gO_of q4
    have sm := same_new (o := .tup vs) hp
    obtain ⟨r3, g3⟩ := r2.same sm
    refine ⟨C, p, vs, cs, b, e1, rfl, ?_, e3, upd_same, kc, q5, k _ _ F2 M2 _ r3 ((g1.trans g2).trans g3) (.d (.bl _)) q6⟩
    cases d with
    | none => trivial
    | some dd =>
      obtain ⟨fs, e4⟩ := e2
      exact ⟨fs, sm _ _ e4⟩
/-- e.n within the suite -/
@[reducible] def xfT (a : Addr) (cls : Value) (d : Option Addr) (C0 : Addr) (n : Str) (T : TDE) : TDE := fun ρ M R => T ρ M fun x M1 => match x with | .x a' C dd fs => (a' = a ∧ cls = .ref C0 ∧ dd = d ∧ d.isSome = true) ∧ gO (fs.lookup n) fun y => R (.d y) M1 | _ => False
theorem se_xf {a C0 : Addr} {cls : Value} {d : Option Addr} {n : Str} {te : TE} {T : TDE} (h : SE K Wx RE te T) : SE K Wx RE (tXf a cls d C0 n te) (xfT a cls d C0 n T) := fun F H M σ ρ R Q hr hx hs ht k =>
  h F H M σ ρ _ _ hr hx hs ht fun v H1 F1 M1 x r1 g1 rx q1 => by
    cases x with
    | x a' C dd fs =>
      obtain ⟨⟨rfl, h2, rfl, h3⟩, h4⟩ := q1
      obtain ⟨y, h5, h6⟩ := gO_of h4
      cases rx with
      | x fx =>
        cases dd with
        | none => cases h3
        | some dd =>
          obtain ⟨fv, e1, e2, e3⟩ := fx
          obtain ⟨u, hu, du⟩ := dx_lookup e2 e3 h5
          exact ⟨rfl, h2, dd, fv, u, rfl, r1.fh _ _ e1, hu, k _ H1 F1 M1 _ r1 g1 (.d du) h6⟩
    | d _ => exact q1.elim
    | r _ => exact q1.elim
    | o _ => exact q1.elim
end
end Tl

set_option Elab.async false
set_option linter.all false
set_option maxRecDepth 100000
set_option maxHeartbeats 4000000
/-! Further rules: a list extended by a tuple. -/
namespace Tl
open PySem PySem.Spec PyProof.Rows L2
open AutoSeq1 (wpAny_loadPart')
theorem extendTup (l : Addr) (items : Array Value) (n : Nat) (b : Addr) (items2 : Array Value) (n2 : Nat) (dd : Option Addr) (sl : Array (Option Value)) (hs0 : ¬(!items.isEmpty && Builtin.List.listTooLong (items.size + items2.size)) = true) (hs1 : items.size ≤ sizeLine) (hs2 : items.size + items2.size ≤ sizeLine + 1) :
    Meets (Builtin.«list.extend» ⟨[.ref l, .ref b], []⟩) (fun _ R s => s.heap.get? l = some { cls := .type "list", dict := none, data := .seq items n, slots := #[] } ∧ s.heap.get? b = some { cls := .type "tuple", dict := dd, data := .seq items2 n2, slots := sl } ∧ R (.ok (.ret Value.none)) { s with heap := s.heap.update l (Obj.mapSeq fun x => x ++ items2), toks := s.toks }) :=
  .of_wp fun prog w A R s h => by
    obtain ⟨hp, g, d, tk, os⟩ := s
    obtain ⟨hl, hb, h⟩ := h
    have f1 := AutoSeq1.idx_int
    have f2 := AutoSeq1.sub_tuple_tuple
    have f3 := AutoSeq1.sub_list_list
    have f4 := AutoSeq1.sub_tuple_list
    have f5 := AutoSeq1.sub_list_tuple
    have hz' : (items ++ items2).size ≤ sizeLine + 1 := by rw [Array.size_append]; exact hs2
    wp_walk using (wpAny_updateSeq hl rfl (hz := hs1) (_hz' := hz')), wpAny_loadPart' hl, wpAny_loadPart' hb
    exact ⟨_, rfl, h⟩
def rExtT (K : PySem.W.Frag) : V → List V → Hp → VK → Prop := fun x vs H Q => ∃ l b xs zs, x = .ref l ∧ vs = [.ref b] ∧ H l = some (.lst xs) ∧ SqT K H b zs ∧ xs.length + zs.length ≤ sizeLine ∧ Q .non (upd H l (.lst (xs ++ zs)))
theorem mt_extT {X : Cx} : MtM X "list.extend" (rExtT X.K) := by
  intro pins s σ H x vs v us Q I rx rv h
  obtain ⟨l, b, xs, zs, rfl, rfl, hH, hB, hz, q⟩ := h
  cases rx
  rcases rv with _ | ⟨ru, rv⟩
  cases rv
  cases ru
  obtain ⟨z, its, n, r, hl, e⟩ := I.lstM hH
  obtain ⟨its2, r2, ⟨⟨oc, od, dt, sl⟩, ho, hc, n2, hd⟩, hz2⟩ := I.tuple hB
  simp only at hc hd
  subst hc hd
  have hl2 := r2.length
  have hsz : its.toArray.size + its2.toArray.size ≤ sizeLine := by rw [List.size_toArray, List.size_toArray]; omega
  have hlong : ¬ (!its.toArray.isEmpty && Builtin.List.listTooLong (its.toArray.size + its2.toArray.size)) = true := by
    rw [notLongL hsz, Bool.and_false]
    exact Bool.false_ne_true
  refine call_meets F.slot_list_extend ⟨_, e, rfl⟩ F.entry_list_extend (F.args_list_extend_2 _ _)
    (extendTup l its.toArray n b its2.toArray n2 od sl hlong (by rw [List.size_toArray]; omega) (by omega)) ⟨e, ho, ?_⟩
  refine ⟨.non, _, I.lset (its' := its ++ its2) hH e (by simp) (r.append r2) ?_, rfl, q⟩
  rw [List.length_append]
  omega
section
variable {K : PySem.W.Frag} {Wx : WX} {RE : REx}
@[reducible] def fExtT : W → List W → Mem → (W → Mem → Prop) → Prop := fun x xs M R => gR x fun a => g1 xs fun y => ∃ ws, M a = some (.lst ws) ∧ gT y fun ds => ws.length + ds.length ≤ sizeLine ∧ R (.d .none) (mset M a (.lst (ws ++ ds.map W.d)))
theorem sm_extT : SM K (rExtT K) fExtT := fun F H M v vs x xs R Q hr rx rxs hf k => by
  obtain ⟨a, rfl, h1⟩ := gR_of hf
  obtain ⟨y, rfl, ws, h2, h3⟩ := g1_of h1
  obtain ⟨ds, rfl, hz, h8⟩ := gT_of h3
  obtain ⟨u, rfl, ry⟩ := rxs.one
  obtain ⟨us, h4, h5⟩ := hr.lst h2
  obtain ⟨b, zv, rfl, h6, h7⟩ := ry.tup
  rw [rx.ref]
  refine ⟨a, b, us, zv, rfl, rfl, h4, same_t hr.fh h6, by rw [h5.len, h7.len]; exact hz, ?_⟩
  obtain ⟨r2, g2⟩ := hr.put (u := .lst (us ++ zv)) (o := .lst (ws ++ ds.map W.d)) h2 ⟨_, rfl, h5.app (.dat h7)⟩
  exact k _ _ _ _ _ r2 g2 (.d .non) h8
end
end Tl

set_option Elab.async false
set_option linter.all false
set_option maxRecDepth 100000
set_option maxHeartbeats 4000000
/-! t[::-1] of a tuple; rows by their places. -/
namespace Tl
open PySem PySem.Spec PyProof.Rows L2
section
variable {prog : Program} {w : World} {A : Around} {E : Value → Shared → Prop} {s : Shared}
theorem adj_rev (n : Nat) : Builtin.Slice.sliceAdjust none none (-1) (n : Int) = ((n : Int) - 1, -1) := rfl
theorem places_rev (n : Nat) : Builtin.Slice.slicePlaces ((n : Int) - 1) (-1) (-1) = n := by
  unfold Builtin.Slice.slicePlaces
  rw [if_neg (by decide)]
  by_cases h : (n : Int) - 1 > -1
  · rw [if_pos h, show (- -1 : Int) = 1 by decide, Int.ediv_one]
    omega
  · rw [if_neg h]
    omega
theorem fm_congr {α β : Type} {f g : α → Option β} : ∀ {l : List α}, (∀ x ∈ l, f x = g x) → l.filterMap f = l.filterMap g
  | [], _ => rfl
  | a :: l, h => by rw [List.filterMap_cons, List.filterMap_cons, h a (.head _), fm_congr fun x hx => h x (.tail _ hx)]
theorem pick_rev (xs : Array Value) : ((List.range xs.size).filterMap fun (k : Nat) => xs[((xs.size : Int) - 1 + (k : Int) * -1).toNat]?).toArray = xs.toList.reverse.toArray := by
  congr 1
  apply List.ext_getElem?
  intro i
  have e : (List.range xs.size).filterMap (fun (k : Nat) => xs[((xs.size : Int) - 1 + (k : Int) * -1).toNat]?) = (List.range xs.size).filterMap (fun k => xs.toList.reverse[k]?) := by
    apply fm_congr
    intro k hk
    have hk2 := List.mem_range.mp hk
    rw [List.getElem?_reverse (by simpa using hk2), show ((xs.size : Int) - 1 + (k : Int) * -1).toNat = xs.size - 1 - k by omega]
    simp
  rw [e]
  have : ∀ (l : List Value), (List.range l.length).filterMap (fun k => l[k]?) = l := by
    intro l
    induction l with
    | nil => rfl
    | cons a l ih =>
      rw [List.length_cons, List.range_succ_eq_map, List.filterMap_cons, List.filterMap_map]
      show a :: List.filterMap (fun k => l[k]?) (List.range l.length) = _
      rw [ih]
  have h2 := this xs.toList.reverse
  rw [List.length_reverse, Array.length_toList] at h2
  rw [h2]
theorem getItem_tuple_rev {t sl : Addr} {items : Array Value} {vl vu vs : Value} {Q : Value → Shared → Prop} (ht : IsTup s.heap t items) (hs : s.heap.IsSliceOf sl vl vu vs) (pl : IsPart vl none) (pu : IsPart vu none) (ps : IsPart vs (some (-1)))
    (h : Q (.ref s.heap.objs.size) { s with heap := s.heap.push { cls := .type "tuple", data := .seq items.toList.reverse.toArray } })
    (hsz : items.size ≤ sizeLine) : wpAny (model prog w) A (getItem (.ref t) (.ref sl)) Q E s := by
  have htake : sizeOk (.seq items.toList.reverse.toArray) := by
    show items.toList.reverse.toArray.size ≤ sizeLine
    rw [List.size_toArray, List.length_reverse, Array.length_toList]
    exact hsz
  obtain ⟨os, hos, hcs, hds⟩ := id hs
  have hTs : s.TypeIs (.ref sl) "slice" := ⟨os, hos, hcs⟩
  unfold getItem
  try with_reducible refine wpAny_holding ?_
  first | refine wpAny_bind (wpAny_pure ?_) | skip
  refine wpAny_bind (wpAny_sequenceKey ht.typeIs (by decide) ?_)
  refine wpAny_bind (wpAny_callSpecial?_slot (name := Str.ofString "__getitem__") ht.typeIs PyProof.Rows.slot_tuple_getitem
    (wpAny_call_entry PyProof.Rows.slot_tuple_getitem ht.typeIs entry_tuple_getitem ?_ (args_tuple_getitem _ _)))
  show wpAny _ _ (Builtin.Tuple.tupleItemsOf (.ref t) >>= _) _ _ s
  refine wpAny_bind (tupleItemsOf_ ht ?_)
  refine wpAny_bind (wpAny_typeOf hTs ?_)
  rw [if_pos (by decide)]
  refine wpAny_bind (m := Builtin.Slice.sliceApplied (.ref sl) (pure (items.size : Int))) ?_
  unfold Builtin.Slice.sliceApplied Builtin.Slice.sliceFields
  refine wpAny_bind (wpAny_bind (wpAny_field hos hds (x := vl) rfl (wpAny_bind (wpAny_field hos hds (x := vu) rfl (wpAny_bind (wpAny_field hos hds (x := vs) rfl (wpAny_pure ?_)))))))
  refine wpAny_bind (HT.slicePart_ ps ?_)
  show wpAny _ _ (if ((-1 : Int) == 0) = true then _ else _) _ _ s
  rw [if_neg (by decide)]
  refine wpAny_bind (HT.slicePart_ pl (wpAny_bind (HT.slicePart_ pu (wpAny_bind (wpAny_pure ?_)))))
  show wpAny _ _ (match Builtin.Slice.sliceAdjust none none (-1) (items.size : Int) with | (lo, hi) => pure (lo, (-1 : Int), Builtin.Slice.slicePlaces lo hi (-1))) _ _ s
  rw [adj_rev]
  show wpAny _ _ (pure ((items.size : Int) - 1, (-1 : Int), Builtin.Slice.slicePlaces ((items.size : Int) - 1) (-1) (-1))) _ _ s
  rw [places_rev]
  refine wpAny_pure ?_
  have hno : ¬ ((((items.size : Int) - 1) == 0 && (-1 : Int) == 1 && items.size == items.size) = true) := by
    rw [show ((-1 : Int) == 1) = false by decide, Bool.and_false, Bool.false_and]
    exact Bool.false_ne_true
  show wpAny _ _ (if (((items.size : Int) - 1) == 0 && (-1 : Int) == 1 && items.size == items.size) = true then _ else _) _ _ s
  rw [if_neg hno, pick_rev]
  first
    | exact wpAny_bind (m := Builtin.Tuple.tupleExact _) (wpAny_newObj_type (wpAny_pure ⟨_, rfl, wpAny_pure h⟩) htake)
    | exact wpAny_bind (m := Builtin.Tuple.tupleExact _) (wpAny_newObj_type (wpAny_bind (wpAny_pure (wpAny_pure ⟨_, rfl, wpAny_pure h⟩))) htake)
    | exact wpAny_bind (wpAny_bind (m := Builtin.Tuple.tupleExact _) (wpAny_newObj_type (wpAny_pure (wpAny_pure ⟨_, rfl, wpAny_pure h⟩)) htake))
    | exact wpAny_bind (wpAny_bind (m := Builtin.Tuple.tupleExact _) (wpAny_newObj_type (wpAny_pure ⟨_, rfl, wpAny_pure h⟩) htake))
end
section
variable {X : Cx}
def tRevT (K : PySem.W.Frag) (te : TE) : TE := fun σ H Q => te σ H fun x H1 => ∃ a xs, x = .ref a ∧ SqT K H1 a xs ∧ ∀ p, H1 p = none → Q (.ref p) (upd H1 p (.tup xs.reverse))
theorem pe_revT {e : Expr} {te : TE} {k : Nat} {p1 p2 p3 pos : Pos} (he : PE X e te) : PE X (.Subscript e (.Slice none none (some (.UnaryOp .USub (.Constant (.int 1) k p1) p2)) p3) pos) (tRevT X.K te) := by
  refine ⟨fun pins s σ H Q I h => ?_⟩
  refine Subscript_ (thn (he.run pins s σ H _ I h) fun v s1 ⟨x, H1, I1, r1, q1⟩ => ?_)
  obtain ⟨a, xs, ex, hx, q⟩ := q1
  subst ex
  cases r1
  have hst : PO X (some (.UnaryOp .USub (.Constant (.int 1) k p1) p2)) (tPart (tUn (rU fun i => .int (-i)) (tC (.int 1)))) := po_some (pe_un un_neg pe_int)
  refine wpAny_Slice (thn (po_none.run pins s1 σ H1 (fun o H2 => o = none ∧ H2 = H1) I1 ⟨rfl, rfl⟩) fun vl s2 ⟨l, H2, I2, pl, el, e2⟩ => ?_)
  subst el e2
  refine thn (po_none.run pins s2 σ H2 (fun o H3 => o = none ∧ H3 = H2) I2 ⟨rfl, rfl⟩) fun vu s3 ⟨u, H3, I3, pu, eu, e3⟩ => ?_
  subst eu e3
  refine thn (hst.run pins s3 σ H3 (fun o H4 => o = some (-1) ∧ H4 = H3) I3 ⟨1, rfl, -1, rfl, rfl, rfl⟩) fun vs s4 ⟨o, H4, I4, ps, eo, e4⟩ => ?_
  subst eo e4
  have I5 : Inv X pins σ H4 { s4 with heap := s4.heap.push { cls := .type "slice", data := .fields #[vl, vu, vs] } } := I4.kept (t' := s4.toks) fun b ob q => Heap.get?_push_of_some _ q
  obtain ⟨its, r, ht, hz⟩ := I5.tuple hx
  have hlen := r.length
  show wpAny (model X.prog X.w) X.A (subscriptTail e (.Slice none none (some (.UnaryOp .USub (.Constant (.int 1) k p1) p2)) p3) (.ref a) (.ref s4.heap.objs.size)) (EP X pins σ Q) X.xe { s4 with heap := s4.heap.push { cls := .type "slice", data := .fields #[vl, vu, vs] } }
  refine tail_any (ops := [.ref a, .ref s4.heap.objs.size]) ht.typeIs PyProof.Rows.slot_tuple_getitem.lookup ?_ (by with_unfolding_all rfl)
  refine getItem_tuple_rev ht (Heap.IsSliceOf.new _ vl vu vs) pl pu ps ?_ (by rw [List.size_toArray]; omega)
  refine ⟨.ref _, _, I5.laid (t' := s4.toks) (o := .tup xs.reverse) (fun b ob q => Heap.get?_push_of_some _ q) (Nat.le_refl _) ?_, rfl, q _ (I5.hok.fresh (Nat.le_refl _))⟩
  exact ⟨by rw [List.length_reverse]; exact hz, _, r.reverse, _, Heap.get?_push_size _ rfl, rfl, 0, rfl⟩
end
section
variable {K : PySem.W.Frag} {Wx : WX} {RE : REx}
@[reducible] def rvT (T : TDE) : TDE := fun ρ M R => T ρ M fun x M1 => gT x fun ds => R (.d (.tuple ds.reverse)) M1
theorem se_rvT {t : TE} {T : TDE} (h : SE K Wx RE t T) : SE K Wx RE (tRevT K t) (rvT T) := fun F H M σ ρ R Q hr hx hs ht k =>
  h F H M σ ρ _ _ hr hx hs ht fun v H1 F1 M1 x r1 g1 rx h1 => by
    obtain ⟨ds, rfl, h2⟩ := gT_of h1
    obtain ⟨a, xs, rfl, h3, h4⟩ := rx.tup
    refine ⟨a, xs, rfl, same_t r1.fh h3, fun p hp => ?_⟩
    obtain ⟨r2, g2, rz⟩ := r1.tup hp h4.rev
    exact k _ _ _ _ _ r2 (g1.trans g2) rz h2
end
section
variable {b : TDG} {keep : Mem → Prop} {tt : TDT} {te : TDE} {ρ : EnvD} {fin : List W → Mem → Prop} {M : Mem}
/-- each row gives the item at its place -/
theorem lc_rows (hk : keep M) : ∀ (rows : List (List W)) (ys acc : List W), rows.length = ys.length → (∀ (j : Nat) (row : List W) (y : W), rows[j]? = some row → ys[j]? = some y → ∀ (Rk : W → Mem → Prop) (Rn : Mem → Prop), Rk y M → b row ρ M fun ρ1 M1 => IfB true (te ρ1 M1 Rk) (Rn M1)) → acc.length + rows.length ≤ sizeLine → fin (acc ++ ys) M → lcGo b keep yesT te ρ fin rows acc M
  | [], ys, acc, hl, hb, hz, h => by
    have : ys = [] := List.eq_nil_of_length_eq_zero hl.symm
    subst this
    rw [lcGo]
    rw [List.append_nil] at h
    exact ⟨hk, h⟩
  | r :: rows, [], acc, hl, hb, hz, h => by simp at hl
  | r :: rows, y :: ys, acc, hl, hb, hz, h => by
    rw [lcGo]
    rw [List.length_cons] at hz
    refine ⟨hk, hb 0 r y rfl rfl _ _ ⟨by omega, lc_rows hk rows ys (acc ++ [y]) (by simpa using hl) (fun j row y' h1 h2 => hb (j + 1) row y' (by simpa using h1) (by simpa using h2)) (by rw [List.length_append]; simp; omega) (by rw [List.append_assoc]; exact h)⟩⟩
theorem lc_ix {α : Type} {i : Nat} {f : α → W} {xs : List α} (ys : List W) (hl : xs.length = ys.length) (hk : keep M) (hb : ∀ (j : Nat) (a : α) (y : W), xs[j]? = some a → ys[j]? = some y → ∀ Rk : W → Mem → Prop, Rk y M → te (put ρ i (some (f a))) M Rk) (hz : xs.length ≤ sizeLine) (h : fin ys M) : lcGo (bName i) keep yesT te ρ fin (rows1 (xs.map f)) [] M := by
  rw [rows1_map]
  refine lc_rows hk _ ys [] (by rw [List.length_map]; exact hl) (fun j row y h1 h2 Rk Rn q => ?_) (by rw [List.length_map]; simpa using hz) h
  rw [List.getElem?_map] at h1
  obtain ⟨a, ha, rfl⟩ := Option.map_eq_some_iff.mp h1
  exact IfB.t rfl (hb j a y ha h2 Rk q)
end
end Tl

set_option Elab.async false
set_option linter.all false
set_option maxRecDepth 100000
set_option maxHeartbeats 4000000
/-! What the readings are unfolded by. -/
namespace Tl
open PySem L2
theorem slot_0 {x : Option W} {r : EnvD} : slot (x :: r) 0 = x := rfl
theorem slot_s {x : Option W} {r : EnvD} {n : Nat} : slot (x :: r) (n + 1) = slot r n := rfl
theorem put_0 {x w : Option W} {r : EnvD} : put (x :: r) 0 w = w :: r := rfl
theorem put_s {x w : Option W} {r : EnvD} {n : Nat} : put (x :: r) (n + 1) w = x :: put r n w := rfl
theorem hide_0 {r : EnvD} : hide r [] = r := rfl
theorem hide_s {r : EnvD} {v : Nat} {vs : List Nat} : hide r (v :: vs) = put (hide r vs) v none := rfl
theorem gCs_0 {k : List Value → Prop} : gCs [] k = k [] := rfl
theorem gCs_s {x : W} {r : List W} {k : List Value → Prop} : gCs (x :: r) k = gO (clsW x) fun c => gCs r fun cs => k (c :: cs) := rfl
theorem tyIs_int {d : PyData} : tyIs d "int" = some (isInt d) := by simp [tyIs]
theorem tyIs_bool {d : PyData} : tyIs d "bool" = some (isBl d) := by simp [tyIs]
theorem tyIs_str {d : PyData} : tyIs d "str" = some (isStr d) := by simp [tyIs]
theorem tyIs_tuple {d : PyData} : tyIs d "tuple" = some (isTup d) := by simp [tyIs]
theorem tyIs_list {d : PyData} : tyIs d "list" = some (isList d) := by simp [tyIs]
theorem map_c {α β : Type} {f : α → β} {a : α} {l : List α} : (a :: l).map f = f a :: l.map f := rfl
theorem map_n {α β : Type} {f : α → β} : ([] : List α).map f = [] := rfl
theorem app_c {α : Type} {a : α} {l r : List α} : (a :: l) ++ r = a :: (l ++ r) := rfl
theorem app_n {α : Type} {r : List α} : ([] : List α) ++ r = r := rfl
theorem len_c {α : Type} {a : α} {l : List α} : (a :: l).length = l.length + 1 := rfl
theorem len_n {α : Type} : ([] : List α).length = 0 := rfl
theorem rep_0 {α : Type} {a : α} : List.replicate 0 a = [] := rfl
theorem rep_s {α : Type} {a : α} {n : Nat} : List.replicate (n + 1) a = a :: List.replicate n a := rfl
theorem not_t : (!true) = false := rfl
theorem not_f : (!false) = true := rfl
theorem ite_t {α : Sort u} {a b : α} : (if true = true then a else b) = a := rfl
theorem ite_f {α : Sort u} {a b : α} : (if false = true then a else b) = b := rfl
theorem itp_t {a b : Prop} : (if true = true then a else b) = a := rfl
theorem itp_f {a b : Prop} : (if false = true then a else b) = b := rfl
theorem iteTT {c : Bool} {A B : Prop} (h : c = true) (q : A) : if c = true then A else B := by rw [if_pos h]; exact q
theorem iteFF {c : Bool} {A B : Prop} (h : c = false) (q : B) : if c = true then A else B := by rw [h, if_neg Bool.false_ne_true]; exact q
theorem isE_c {α : Type} {a : α} {l : List α} : (a :: l).isEmpty = false := rfl
theorem isE_n {α : Type} : ([] : List α).isEmpty = true := rfl
theorem IfB.nil {ds : List PyData} {A B : Prop} (h : IfB ds.isEmpty A B) : IfB (PyData.eqv (.list ds) (.list [])) A B := by
  cases ds <;> exact h
theorem IfB.nilT {ds : List PyData} {A B : Prop} (h : IfB ds.isEmpty A B) : IfB (PyData.eqv (.tuple ds) (.tuple [])) A B := by
  cases ds <;> exact h
theorem at_0 {α : Type} {x0 : α} {r : List α} : atI (x0 :: r) 0 = some x0 := atI_nat (j := 0) rfl
theorem at_m0 {α β : Type} {f : α → β} {x0 : α} {r : List α} : atI ((x0 :: r).map f) 0 = some (f x0) := atI_nat (j := 0) rfl
theorem at_1 {α : Type} {x0 x1 : α} {r : List α} : atI (x0 :: x1 :: r) 1 = some x1 := atI_nat (j := 1) rfl
theorem at_m1 {α β : Type} {f : α → β} {x0 x1 : α} {r : List α} : atI ((x0 :: x1 :: r).map f) 1 = some (f x1) := atI_nat (j := 1) rfl
theorem at_2 {α : Type} {x0 x1 x2 : α} {r : List α} : atI (x0 :: x1 :: x2 :: r) 2 = some x2 := atI_nat (j := 2) rfl
theorem at_m2 {α β : Type} {f : α → β} {x0 x1 x2 : α} {r : List α} : atI ((x0 :: x1 :: x2 :: r).map f) 2 = some (f x2) := atI_nat (j := 2) rfl
theorem at_3 {α : Type} {x0 x1 x2 x3 : α} {r : List α} : atI (x0 :: x1 :: x2 :: x3 :: r) 3 = some x3 := atI_nat (j := 3) rfl
theorem at_m3 {α β : Type} {f : α → β} {x0 x1 x2 x3 : α} {r : List α} : atI ((x0 :: x1 :: x2 :: x3 :: r).map f) 3 = some (f x3) := atI_nat (j := 3) rfl
theorem at_4 {α : Type} {x0 x1 x2 x3 x4 : α} {r : List α} : atI (x0 :: x1 :: x2 :: x3 :: x4 :: r) 4 = some x4 := atI_nat (j := 4) rfl
theorem at_m4 {α β : Type} {f : α → β} {x0 x1 x2 x3 x4 : α} {r : List α} : atI ((x0 :: x1 :: x2 :: x3 :: x4 :: r).map f) 4 = some (f x4) := atI_nat (j := 4) rfl
theorem at_5 {α : Type} {x0 x1 x2 x3 x4 x5 : α} {r : List α} : atI (x0 :: x1 :: x2 :: x3 :: x4 :: x5 :: r) 5 = some x5 := atI_nat (j := 5) rfl
theorem at_m5 {α β : Type} {f : α → β} {x0 x1 x2 x3 x4 x5 : α} {r : List α} : atI ((x0 :: x1 :: x2 :: x3 :: x4 :: x5 :: r).map f) 5 = some (f x5) := atI_nat (j := 5) rfl
theorem at_6 {α : Type} {x0 x1 x2 x3 x4 x5 x6 : α} {r : List α} : atI (x0 :: x1 :: x2 :: x3 :: x4 :: x5 :: x6 :: r) 6 = some x6 := atI_nat (j := 6) rfl
theorem at_m6 {α β : Type} {f : α → β} {x0 x1 x2 x3 x4 x5 x6 : α} {r : List α} : atI ((x0 :: x1 :: x2 :: x3 :: x4 :: x5 :: x6 :: r).map f) 6 = some (f x6) := atI_nat (j := 6) rfl
theorem at_7 {α : Type} {x0 x1 x2 x3 x4 x5 x6 x7 : α} {r : List α} : atI (x0 :: x1 :: x2 :: x3 :: x4 :: x5 :: x6 :: x7 :: r) 7 = some x7 := atI_nat (j := 7) rfl
theorem at_m7 {α β : Type} {f : α → β} {x0 x1 x2 x3 x4 x5 x6 x7 : α} {r : List α} : atI ((x0 :: x1 :: x2 :: x3 :: x4 :: x5 :: x6 :: x7 :: r).map f) 7 = some (f x7) := atI_nat (j := 7) rfl
theorem exW {o : Option MO} {ws : List W} {k : List W → Prop} (h : o = some (.lst ws)) (q : k ws) : ∃ ws, o = some (.lst ws) ∧ k ws := ⟨ws, h, q⟩
theorem gDs_i {ds : List PyData} {k : List PyData → Prop} (q : k ds) : gDs (ds.map W.d) k := by rw [gDs_map]; exact q
end Tl

set_option Elab.async false
set_option linter.all false
set_option maxRecDepth 100000
set_option maxHeartbeats 4000000
/-! Flat rows of trees: the row, where parts end, where kids begin, and back. -/
namespace Tl
open PySem L2
abbrev Pr := Int × PyData
def prD (p : Pr) : PyData := .tuple [.int p.1, p.2]
mutual
/-- the flat row of a part whose top stands at level l -/
def rowP : PyData → Int → List Pr
  | .tuple [t, .tuple ks], l => (l, t) :: rowsP ks (l + 1)
  | _, _ => []
def rowsP : List PyData → Int → List Pr
  | [], _ => []
  | k :: ks, l => rowP k l ++ rowsP ks l
end
theorem rowP_node (t : PyData) (ks : List PyData) (l : Int) : rowP (.tuple [t, .tuple ks]) l = (l, t) :: rowsP ks (l + 1) := by rw [rowP]
theorem rowsP_app : ∀ (a b : List PyData) (l : Int), rowsP (a ++ b) l = rowsP a l ++ rowsP b l
  | [], b, l => by rw [List.nil_append, rowsP, List.nil_append]
  | k :: a, b, l => by rw [List.cons_append, rowsP, rowsP, rowsP_app a b, List.append_assoc]
mutual
theorem rowP_len : ∀ {n : Nat} {d : PyData} (l : Int), TrT n d → (rowP d l).length = nn d
  | 0, _, _, t => t.elim
  | n + 1, _, l, ⟨s, ks, rfl, _, h⟩ => by
    rw [rowP_node, List.length_cons, rowsP_len (l + 1) h, nn]
    omega
theorem rowsP_len : ∀ {n : Nat} {ks : List PyData} (l : Int), (∀ k ∈ ks, TrT n k) → (rowsP ks l).length = nnAll ks
  | n, [], l, _ => by rw [rowsP, nnAll]; rfl
  | n, k :: ks, l, h => by rw [rowsP, List.length_append, rowP_len l (h k (.head _)), rowsP_len l (fun x hx => h x (.tail _ hx)), nnAll]
end
mutual
theorem rowP_ge : ∀ {n : Nat} {d : PyData} {l : Int}, TrT n d → ∀ p ∈ rowP d l, l ≤ p.1
  | 0, _, _, t => t.elim
  | n + 1, _, l, ⟨s, ks, rfl, _, h⟩ => fun p hp => by
    rw [rowP_node] at hp
    rcases List.mem_cons.mp hp with rfl | hp
    · exact Int.le_refl _
    · have := rowsP_ge h p hp
      omega
theorem rowsP_ge : ∀ {n : Nat} {ks : List PyData} {l : Int}, (∀ k ∈ ks, TrT n k) → ∀ p ∈ rowsP ks l, l ≤ p.1
  | n, [], l, _ => fun p hp => by rw [rowsP] at hp; exact absurd hp List.not_mem_nil
  | n, k :: ks, l, h => fun p hp => by
    rw [rowsP] at hp
    rcases List.mem_append.mp hp with hp | hp
    · exact rowP_ge (h k (.head _)) p hp
    · exact rowsP_ge (fun x hx => h x (.tail _ hx)) p hp
end
/-- the number behind the part that begins at i -/
def behind (r : List Pr) (i : Nat) (l : Int) : Nat := i + 1 + ((r.drop (i + 1)).takeWhile fun p => decide (l < p.1)).length
/-- what stands behind a part at level l goes on no deeper -/
def Ends0 (post : List Pr) (l : Int) : Prop := ∀ p r, post = p :: r → p.1 ≤ l
theorem takeWhile_app {α : Type} (f : α → Bool) : ∀ (a b : List α), (∀ x ∈ a, f x = true) → (∀ x r, b = x :: r → f x = false) → (a ++ b).takeWhile f = a
  | [], [], _, _ => rfl
  | [], x :: r, _, h => by rw [List.nil_append, List.takeWhile_cons, h x r rfl]; rfl
  | y :: a, b, h1, h2 => by
    rw [List.cons_append, List.takeWhile_cons, h1 y (.head _), if_pos rfl, takeWhile_app f a b (fun x hx => h1 x (.tail _ hx)) h2]
theorem behind_row {n : Nat} {d : PyData} {l : Int} (t : TrT n d) (pre post : List Pr) (he : Ends0 post l) : behind (pre ++ rowP d l ++ post) pre.length l = pre.length + nn d := by
  obtain ⟨s, ks, rfl, _, h⟩ := t.node
  unfold behind
  rw [rowP_node, List.append_assoc, List.cons_append, List.drop_append, List.drop_eq_nil_of_le (by omega), List.nil_append, show pre.length + 1 - pre.length = 1 by omega, List.drop_succ_cons, List.drop_zero,
    takeWhile_app _ _ _ (fun p hp => decide_eq_true (by have := rowsP_ge h p hp; omega)) (fun p r e => decide_eq_false (by have := he p r e; omega)), rowsP_len _ h, nn]
  omega
/-- where the kids begin -/
def kidPos : List PyData → Nat → List Nat
  | [], _ => []
  | k :: ks, s => s :: kidPos ks (s + nn k)
theorem kidPos_app : ∀ (a : List PyData) (k : PyData) (s : Nat), kidPos (a ++ [k]) s = kidPos a s ++ [s + nnAll a]
  | [], k, s => by rw [List.nil_append, kidPos, kidPos, kidPos, nnAll]; rfl
  | b :: a, k, s => by
    rw [List.cons_append, kidPos, kidPos, kidPos_app a k, nnAll, List.cons_append, Nat.add_assoc]
theorem kidPos_len : ∀ (ks : List PyData) (s : Nat), (kidPos ks s).length = ks.length
  | [], _ => rfl
  | k :: ks, s => by rw [kidPos, List.length_cons, kidPos_len ks, List.length_cons]
theorem kidPos_get : ∀ {ks : List PyData} {s j : Nat} {p : Nat}, (kidPos ks s)[j]? = some p → p = s + nnAll (ks.take j)
  | [], _, _, _, h => by simp [kidPos] at h
  | k :: ks, s, 0, p, h => by
    rw [kidPos] at h
    simp at h
    rw [← h, List.take_zero, nnAll]
    rfl
  | k :: ks, s, j + 1, p, h => by
    rw [kidPos] at h
    have := kidPos_get (ks := ks) (s := s + nn k) (j := j) (by simpa using h)
    rw [this, List.take_succ_cons, nnAll]
    omega
/-- the numbers from s on of those that stand at level l -/
def atLev (l : Int) : List Pr → Nat → List Nat
  | [], _ => []
  | p :: r, s => if p.1 = l then s :: atLev l r (s + 1) else atLev l r (s + 1)
theorem atLev_app (l : Int) : ∀ (a b : List Pr) (s : Nat), atLev l (a ++ b) s = atLev l a s ++ atLev l b (s + a.length)
  | [], b, s => rfl
  | p :: a, b, s => by
    rw [List.cons_append, atLev, atLev, atLev_app l a b, List.length_cons, show s + 1 + a.length = s + (a.length + 1) by omega]
    split <;> rfl
theorem atLev_none {l : Int} : ∀ {a : List Pr} {s : Nat}, (∀ p ∈ a, l < p.1) → atLev l a s = []
  | [], _, _ => rfl
  | p :: a, s, h => by
    rw [atLev, if_neg (by have := h p (.head _); omega)]
    exact atLev_none fun x hx => h x (.tail _ hx)
theorem atLev_rows {n : Nat} {l : Int} : ∀ {ks : List PyData} {s : Nat}, (∀ k ∈ ks, TrT n k) → atLev l (rowsP ks l) s = kidPos ks s
  | [], _, _ => by rw [rowsP]; rfl
  | k :: ks, s, h => by
    have hk := h k (.head _)
    rw [rowsP, atLev_app, rowP_len l hk, atLev_rows (s := s + nn k) fun x hx => h x (.tail _ hx), kidPos]
    obtain ⟨s', ks', rfl, _, h'⟩ := hk.node
    rw [rowP_node, atLev, if_pos rfl, atLev_none fun p hp => by have := rowsP_ge h' p hp; omega]
    rfl
/-- the filter that the program runs -/
theorem filter_atLev (r : List Pr) (l : Int) : ∀ (m s : Nat) (seg : List Pr), seg.length = m → (∀ j p, seg[j]? = some p → r[s + j]? = some p) → ((List.range m).filter fun i => match r[s + i]? with | some p => decide (p.1 = l) | none => false).map (s + ·) = atLev l seg s
  | 0, s, seg, hl, _ => by
    rw [List.eq_nil_of_length_eq_zero hl]
    rfl
  | m + 1, s, [], hl, _ => by simp at hl
  | m + 1, s, p :: seg, hl, h => by
    have ih := filter_atLev r l m (s + 1) seg (by simpa using hl) fun j q hq => by
      have := h (j + 1) q (by simpa using hq)
      rw [← this]
      congr 1
      omega
    rw [List.range_succ_eq_map, atLev, List.filter_cons]
    have h0 := h 0 p rfl
    rw [Nat.add_zero] at h0 ⊢
    rw [h0]
    have e2 : ((List.map Nat.succ (List.range m)).filter fun i => match r[s + i]? with | some p => decide (p.1 = l) | none => false).map (s + ·) = atLev l seg (s + 1) := by
      rw [← ih, List.filter_map, List.map_map]
      congr 1
      · funext i
        show s + (i + 1) = s + 1 + i
        omega
      · congr 1
        funext i
        show (match r[s + (i + 1)]? with | some p => decide (p.1 = l) | none => false) = _
        rw [show s + (i + 1) = s + 1 + i by omega]
    dsimp only
    by_cases c : p.1 = l
    · rw [if_pos c, if_pos (decide_eq_true c), List.map_cons, e2]
      rfl
    · rw [if_neg c, if_neg (by rw [decide_eq_false c]; exact Bool.false_ne_true), e2]
theorem tw_mem {α : Type} {f : α → Bool} : ∀ {L : List α} {x : α}, x ∈ L.takeWhile f → f x = true
  | [], _, h => by cases h
  | a :: L, x, h => by
    rw [List.takeWhile_cons] at h
    cases c : f a with
    | true =>
      rw [c, if_pos rfl] at h
      rcases List.mem_cons.mp h with rfl | h
      · exact c
      · exact tw_mem h
    | false =>
      rw [c, if_neg Bool.false_ne_true] at h
      cases h
theorem dw_head {α : Type} {f : α → Bool} : ∀ {L : List α} {x : α} {r : List α}, L.dropWhile f = x :: r → f x = false
  | [], _, _, h => by cases h
  | a :: L, x, r, h => by
    rw [List.dropWhile_cons] at h
    cases c : f a with
    | true =>
      rw [c, if_pos rfl] at h
      exact dw_head h
    | false =>
      rw [c, if_neg Bool.false_ne_true] at h
      cases h
      exact c
/-! ### every flat row is a tree's -/
/-- each level at most one more than the one ahead of it; hi: the most that the first may be -/
def stepOk : Int → List Pr → Prop
  | _, [] => True
  | hi, p :: r => p.1 ≤ hi ∧ stepOk (p.1 + 1) r
theorem stepOk_app : ∀ {a b : List Pr} {hi : Int}, stepOk hi (a ++ b) → stepOk hi a
  | [], _, _, _ => trivial
  | p :: a, b, hi, h => ⟨h.1, stepOk_app h.2⟩
theorem stepOk_drop : ∀ {a b : List Pr} {hi : Int}, stepOk hi (a ++ b) → ∃ hi', stepOk hi' b
  | [], _, hi, h => ⟨hi, h⟩
  | p :: a, b, hi, h => stepOk_drop h.2
def tagOkP (p : Pr) : Prop := isTag p.2 = true
theorem forest : ∀ (m : Nat) (L : List Pr) (l : Nat) (hi : Int), L.length ≤ m → l ≤ 12 → stepOk hi L → (∀ p ∈ L, (l : Int) ≤ p.1 ∧ p.1 ≤ 11 ∧ tagOkP p) → (∀ p r, L = p :: r → p.1 = l) → ∃ ks, (∀ k ∈ ks, TrT (12 - l) k) ∧ rowsP ks l = L
  | _, [], l, hi, _, _, _, _, _ => ⟨[], fun k hk => absurd hk List.not_mem_nil, by rw [rowsP]⟩
  | 0, p :: L, l, hi, hm, _, _, _, _ => by simp at hm
  | m + 1, p :: L, l, hi, hm, hl, hs, ha, h0 => by
    have hp := h0 p L rfl
    obtain ⟨p1, t⟩ := p
    have e1 : p1 = l := hp
    subst e1
    have hpa := ha (↑l, t) (.head _)
    have hm' : L.length ≤ m := by simpa using hm
    -- the part beneath, then what stands beside
    have split : L = L.takeWhile (fun q => decide ((l : Int) < q.1)) ++ L.dropWhile (fun q => decide ((l : Int) < q.1)) := (List.takeWhile_append_dropWhile).symm
    generalize hA : L.takeWhile (fun q => decide ((l : Int) < q.1)) = A at split
    generalize hB : L.dropWhile (fun q => decide ((l : Int) < q.1)) = B at split
    have lenA : A.length ≤ m := by have := congrArg List.length split; rw [List.length_append] at this; omega
    have lenB : B.length ≤ m := by have := congrArg List.length split; rw [List.length_append] at this; omega
    have mA : ∀ q ∈ A, (l : Int) < q.1 := fun q hq => by
      rw [← hA] at hq
      have := tw_mem hq
      exact of_decide_eq_true this
    have sub : ∀ q, q ∈ A ∨ q ∈ B → q ∈ L := fun q hq => by rw [split]; exact List.mem_append.mpr hq
    have hsL : stepOk ((l : Int) + 1) L := hs.2
    have sA : stepOk ((l : Int) + 1) A := by rw [split] at hsL; exact stepOk_app hsL
    obtain ⟨hiB, sB⟩ : ∃ hi', stepOk hi' B := by rw [split] at hsL; exact stepOk_drop hsL
    have l11 : (l : Int) ≤ 11 := hpa.2.1
    obtain ⟨ks1, k1, k2⟩ := forest m A (l + 1) _ lenA (by omega) sA (fun q hq => ⟨by have := mA q hq; omega, (ha q (.tail _ (sub q (.inl hq)))).2⟩) (fun q r e => by
      have h1 := mA q (by rw [e]; exact .head _)
      rw [e] at sA
      have h2 := sA.1
      omega)
    obtain ⟨ks2, k3, k4⟩ := forest m B l hiB lenB hl sB (fun q hq => ha q (.tail _ (sub q (.inr hq)))) (fun q r e => by
      have h1 := (ha q (.tail _ (sub q (.inr (by rw [e]; exact .head _))))).1
      have h2 : ¬ ((l : Int) < q.1) := fun z => by
        rw [e] at hB
        have := dw_head hB
        rw [decide_eq_true z] at this
        cases this
      omega)
    have ht : ∃ s, t = .str s ∧ isTag (.str s) = true := by
      have := hpa.2.2
      unfold tagOkP at this
      cases t with
      | str s => exact ⟨s, rfl, this⟩
      | _ => simp [isTag] at this
    obtain ⟨s, rfl, hs'⟩ := ht
    refine ⟨.tuple [.str s, .tuple ks1] :: ks2, fun k hk => ?_, ?_⟩
    · rcases List.mem_cons.mp hk with rfl | hk
      · obtain ⟨h, hh⟩ : ∃ h, 12 - l = h + 1 := ⟨11 - l, by omega⟩
        rw [hh]
        exact ⟨s, ks1, rfl, hs', fun k hk => by
          have := k1 k hk
          rw [show 12 - (l + 1) = h by omega] at this
          exact this⟩
      · exact k3 k hk
    · have k2' : rowsP ks1 ((l : Int) + 1) = A := k2
      rw [rowsP, rowP_node, k2', k4, List.cons_append, ← split]
/-- a thing is a flat row -/
def flatGo : Int → Int → List PyData → Bool
  | _, _, [] => true
  | lo, hi, .tuple [.int l, t] :: r => isNum 11 (.int l) && isTag t && (decide (lo ≤ l) && decide (l ≤ hi)) && flatGo 1 (l + 1) r
  | _, _, _ :: _ => false
def isFlatD : PyData → Bool
  | .tuple ds => decide (1 ≤ ds.length) && decide (ds.length ≤ 60) && flatGo 0 0 ds
  | _ => false
theorem flatGo_pr : ∀ {ds : List PyData} {lo hi : Int}, flatGo lo hi ds = true → ∃ L : List Pr, ds = L.map prD ∧ stepOk hi L ∧ (∀ p ∈ L, 0 ≤ p.1 ∧ p.1 ≤ 11 ∧ tagOkP p) ∧ (∀ p r, L = p :: r → lo ≤ p.1 ∧ ∀ q ∈ r, 1 ≤ q.1)
  | [], _, _, _ => ⟨[], rfl, trivial, fun p hp => absurd hp List.not_mem_nil, fun p r e => by cases e⟩
  | d :: ds, lo, hi, h => by
    unfold flatGo at h
    split at h
    · rename_i heq
      cases heq
    · rename_i lo' hi' l t r heq
      cases heq
      simp only [Bool.and_eq_true] at h
      obtain ⟨⟨⟨h1, h2⟩, h3, h4⟩, h5⟩ := h
      obtain ⟨L, e1, e2, e3, e4⟩ := flatGo_pr h5
      rw [isNum, Bool.and_eq_true] at h1
      have b1 := of_decide_eq_true h1.1
      have b2 := of_decide_eq_true h1.2
      have b3 := of_decide_eq_true h3
      have b4 := of_decide_eq_true h4
      refine ⟨(l, t) :: L, by rw [e1]; rfl, ⟨b4, e2⟩, fun p hp => ?_, fun p r e => ?_⟩
      · rcases List.mem_cons.mp hp with rfl | hp
        · exact ⟨b1, b2, h2⟩
        · exact e3 p hp
      · cases e
        refine ⟨b3, fun q hq => ?_⟩
        cases L with
        | nil => exact absurd hq List.not_mem_nil
        | cons q' r' =>
          obtain ⟨c1, c2⟩ := e4 q' r' rfl
          rcases List.mem_cons.mp hq with rfl | hq
          · exact c1
          · exact c2 q hq
    · cases h
theorem rowsP_lens : ∀ (ks : List PyData) (l : Int), (∀ k ∈ ks, ∃ n, TrT n k) → (rowsP ks l).length = nnAll ks
  | [], l, _ => by rw [rowsP, nnAll]; rfl
  | k :: ks, l, h => by
    obtain ⟨n, hn⟩ := h k (.head _)
    rw [rowsP, List.length_append, rowP_len l hn, rowsP_lens ks l (fun x hx => h x (.tail _ hx)), nnAll]
/-- each flat row is that of a tree -/
theorem flat_tree {ds : List PyData} (h : isFlatD (.tuple ds) = true) : ∃ t, TrT 12 t ∧ nn t ≤ 60 ∧ ds = (rowP t 0).map prD := by
  rw [isFlatD, Bool.and_eq_true, Bool.and_eq_true] at h
  have n1 := of_decide_eq_true h.1.1
  have n2 := of_decide_eq_true h.1.2
  obtain ⟨L, e1, e2, e3, e4⟩ := flatGo_pr h.2
  have eL : ds.length = L.length := by rw [e1, List.length_map]
  cases L with
  | nil => rw [List.length_nil] at eL; omega
  | cons p L =>
    obtain ⟨c1, c2⟩ := e4 p L rfl
    have p0 : p.1 = 0 := by have := e2.1; omega
    obtain ⟨ks, k1, k2⟩ := forest (L.length + 1) (p :: L) 0 0 (by simp) (by decide) e2 e3 (fun q r e => by cases e; exact p0)
    have k2' : rowsP ks 0 = p :: L := k2
    cases ks with
    | nil => rw [rowsP] at k2'; cases k2'
    | cons k ks =>
      have hk := k1 k (.head _)
      have : ks = [] := by
        cases ks with
        | nil => rfl
        | cons k' ks' =>
          exfalso
          have hk' := k1 k' (.tail _ (.head _))
          obtain ⟨s1, ks1, rfl, _, _⟩ := hk.node
          obtain ⟨s2, ks2, rfl, _, _⟩ := hk'.node
          rw [rowsP, rowsP, rowP_node, rowP_node, List.cons_append] at k2'
          cases k2'
          have := c2 (0, .str s2) (by simp)
          simp at this
      subst this
      rw [rowsP, rowsP, List.append_nil] at k2'
      refine ⟨k, hk, ?_, by rw [k2']; exact e1⟩
      rw [← rowP_len 0 hk, k2', ← eL]
      exact n2
end Tl

set_option Elab.async false
set_option linter.all false
set_option maxRecDepth 100000
set_option maxHeartbeats 4000000
namespace Tl
open PySem L2
def lvTag : PyData → Bool
  | .tuple [a, b] => isNum 11 a && isTag b
  | _ => false
theorem flatGo_cons (lo hi : Int) (d : PyData) (r : List PyData) : flatGo lo hi (d :: r) = (match d with | .tuple [.int l, t] => lvTag d && (decide (lo ≤ l) && decide (l ≤ hi)) && flatGo 1 (l + 1) r | _ => false) := by
  match d with
  | .tuple [.int l, t] => simp only [flatGo, lvTag]
  | .none => simp [flatGo]
  | .bool _ => simp [flatGo]
  | .int _ => simp [flatGo]
  | .str _ => simp [flatGo]
  | .list _ => simp [flatGo]
  | .dict _ => simp [flatGo]
  | .tuple [] => simp [flatGo]
  | .tuple [_] => simp [flatGo]
  | .tuple (_ :: _ :: _ :: _) => simp [flatGo]
  | .tuple [.none, _] => simp [flatGo]
  | .tuple [.bool _, _] => simp [flatGo]
  | .tuple [.str _, _] => simp [flatGo]
  | .tuple [.list _, _] => simp [flatGo]
  | .tuple [.tuple _, _] => simp [flatGo]
  | .tuple [.dict _, _] => simp [flatGo]
theorem lvTag_of {d : PyData} (h : lvTag d = true) : ∃ l t, d = .tuple [.int l, t] ∧ 0 ≤ l ∧ l ≤ 11 ∧ isTag t = true := by
  unfold lvTag at h
  split at h
  · rename_i a b
    rw [Bool.and_eq_true] at h
    cases a with
    | int l =>
      have h1 := h.1
      rw [isNum, Bool.and_eq_true] at h1
      exact ⟨l, b, rfl, of_decide_eq_true h1.1, of_decide_eq_true h1.2, h.2⟩
    | _ => exact absurd h.1 (by simp [isNum])
  · cases h
theorem flatGo_no {lo hi : Int} {d : PyData} {r : List PyData} (h : lvTag d = false) : flatGo lo hi (d :: r) = false := by
  rw [flatGo_cons]
  split
  · rw [h]; rfl
  · rfl
theorem flatGo_yes {lo hi l : Int} {t : PyData} {r : List PyData} (h : lvTag (.tuple [.int l, t]) = true) : flatGo lo hi (.tuple [.int l, t] :: r) = (decide (lo ≤ l) && decide (l ≤ hi) && flatGo 1 (l + 1) r) := by
  rw [flatGo_cons]
  show (lvTag _ && _ && _) = _
  rw [h, Bool.true_and]
mutual
theorem row_flat : ∀ {n : Nat} {d : PyData} {l lo hi : Int} {rest : List PyData}, TrT n d → 0 ≤ l → l + n ≤ 12 → lo ≤ l → l ≤ hi → (∀ hi', l + 1 ≤ hi' → flatGo 1 hi' rest = true) → flatGo lo hi ((rowP d l).map prD ++ rest) = true
  | 0, _, _, _, _, _, t, _, _, _, _, _ => t.elim
  | n + 1, _, l, lo, hi, rest, ⟨s, ks, rfl, hs, hk⟩, h0, hn, h1, h2, hr => by
    rw [rowP_node, List.map_cons, List.cons_append]
    show flatGo lo hi (.tuple [.int l, .str s] :: _) = true
    rw [flatGo_yes (by rw [lvTag, hs, isNum, decide_eq_true h0, decide_eq_true (by omega)]; rfl), decide_eq_true h1, decide_eq_true h2, Bool.true_and, Bool.true_and]
    exact rows_flat hk h0 (by omega) (Int.le_refl _) hr
theorem rows_flat : ∀ {n : Nat} {ks : List PyData} {l hi : Int} {rest : List PyData}, (∀ k ∈ ks, TrT n k) → 0 ≤ l → l + 1 + n ≤ 12 → l + 1 ≤ hi → (∀ hi', l + 1 ≤ hi' → flatGo 1 hi' rest = true) → flatGo 1 hi ((rowsP ks (l + 1)).map prD ++ rest) = true
  | n, [], l, hi, rest, _, _, _, hh, hr => by
    rw [rowsP]
    exact hr hi hh
  | n, k :: ks, l, hi, rest, hk, h0, hn, hh, hr => by
    rw [rowsP, List.map_append, List.append_assoc]
    exact row_flat (hk k (.head _)) (by omega) (by omega) (by omega) hh fun hi' h' => rows_flat (fun x hx => hk x (.tail _ hx)) h0 hn (by omega) hr
end
theorem isFlat_row {t : PyData} (h : TrT 12 t) (hn : nn t ≤ 60) : isFlatD (.tuple ((rowP t 0).map prD)) = true := by
  have hl := rowP_len 0 h
  have hp := nn_pos t
  rw [isFlatD, List.length_map, hl, decide_eq_true (by omega), decide_eq_true hn]
  have := row_flat (lo := 0) (hi := 0) (rest := []) h (Int.le_refl _) (by decide) (Int.le_refl _) (Int.le_refl _) (fun hi' _ => rfl)
  rw [List.append_nil] at this
  rw [this]
  rfl
theorem small_in (c : Nat) : decide (c ∈ ("abcdefghijklmnopqrstuvwxyz" : Str).cps.toList) = small c := by
  have e : ("abcdefghijklmnopqrstuvwxyz" : Str).cps.toList = (List.range 26).map (· + 97) := by decide +kernel
  rw [e]
  unfold small
  by_cases h : 97 ≤ c ∧ c ≤ 122
  · rw [decide_eq_true h.1, decide_eq_true h.2]
    refine decide_eq_true (List.mem_map.mpr ⟨c - 97, List.mem_range.mpr (by omega), by omega⟩)
  · rw [decide_eq_false (fun z => by
      obtain ⟨x, h1, h2⟩ := List.mem_map.mp z
      have := List.mem_range.mp h1
      omega)]
    by_cases h1 : 97 ≤ c
    · rw [decide_eq_true h1, decide_eq_false (by omega)]; rfl
    · rw [decide_eq_false h1]; rfl
theorem eqv_nil (ds : List PyData) : PyData.eqv (.list ds) (.list []) = ds.isEmpty := by
  cases ds with
  | nil => rfl
  | cons a r => rfl
mutual
theorem gd_nd : ∀ d : PyData, gd d = true → d.hasDict = false
  | .none, _ => rfl
  | .bool _, _ => rfl
  | .int _, _ => rfl
  | .str _, _ => rfl
  | .list ds, h => by rw [gd] at h; rw [PyData.hasDict]; exact gds_nd ds h
  | .tuple ds, h => by rw [gd] at h; rw [PyData.hasDict]; exact gds_nd ds h
  | .dict _, h => Bool.noConfusion h
theorem gds_nd : ∀ ds : List PyData, gdAll ds = true → PyData.hasDictAll ds = false
  | [], _ => rfl
  | d :: ds, h => by
    rw [gdAll, Bool.and_eq_true] at h
    rw [PyData.hasDictAll, gd_nd d h.1, gds_nd ds h.2]
    rfl
end
end Tl

set_option Elab.async false
set_option linter.all false
set_option maxRecDepth 100000
set_option maxHeartbeats 4000000
/-! The empty dict; one of some; rows that are good to be shown, cut and put together. -/
namespace Tl
open PySem L2
theorem se_dnew {K : PySem.W.Frag} {Wx : WX} {RE : REx} : SE K Wx RE tDNewK (cT (.d (.dict []))) := fun F H M σ ρ R Q hr hx hs ht k p hp => by
  obtain ⟨h1, h2⟩ := hr.fresh (u := .dK []) hp
  exact k _ _ _ _ _ h1 h2 (.d (.dic upd_same)) ht
theorem at_mem {α : Type} {xs : List α} {r : Int} (h0 : 0 ≤ r) (h1 : r < (xs.length : Nat)) : ∃ x, atI xs r = some x ∧ x ∈ xs := by
  obtain ⟨n, rfl⟩ : ∃ n : Nat, r = (n : Int) := ⟨r.toNat, by omega⟩
  have hn : n < xs.length := by omega
  exact ⟨xs[n], atI_nat (List.getElem?_eq_getElem hn), List.getElem_mem hn⟩
/-- good to be shown, of a weight and a depth -/
def Gk (m k : Nat) (d : PyData) : Prop := gd d = true ∧ wt d ≤ m ∧ d.depth ≤ k
def Gks (m k : Nat) (ds : List PyData) : Prop := gdAll ds = true ∧ wtAll ds ≤ m ∧ PyData.depthAll ds ≤ k
def GdE (d : PyData) : Prop := Gk 1000000 40 d ∨ d = .dict []
theorem Gk.mono {m k m' k' : Nat} {d : PyData} (h : Gk m k d) (h1 : m ≤ m') (h2 : k ≤ k') : Gk m' k' d := ⟨h.1, Nat.le_trans h.2.1 h1, Nat.le_trans h.2.2 h2⟩
theorem Gks.nil {m k : Nat} : Gks m k [] := ⟨rfl, Nat.zero_le _, Nat.zero_le _⟩
theorem Gks.cons {m k m' m'' : Nat} {d : PyData} {ds : List PyData} (h : Gk m k d) (h' : Gks m' k ds) (e : m + 2 + m' ≤ m'') : Gks m'' k (d :: ds) := by
  refine ⟨by rw [gdAll, h.1, h'.1]; rfl, ?_, ?_⟩
  · rw [wtAll]
    have := h.2.1
    have := h'.2.1
    omega
  · rw [PyData.depthAll]
    have := h.2.2
    have := h'.2.2
    omega
theorem Gks.tup {m k m' : Nat} {ds : List PyData} (h : Gks m k ds) (e : 3 + m ≤ m') : Gk m' (k + 1) (.tuple ds) := ⟨by rw [gd]; exact h.1, by rw [wt]; have := h.2.1; omega, by rw [PyData.depth]; have := h.2.2; omega⟩
theorem Gks.lst {m k m' : Nat} {ds : List PyData} (h : Gks m k ds) (e : 3 + m ≤ m') : Gk m' (k + 1) (.list ds) := ⟨by rw [gd]; exact h.1, by rw [wt]; have := h.2.1; omega, by rw [PyData.depth]; have := h.2.2; omega⟩
theorem Gks.app {m k m' m'' : Nat} {a b : List PyData} (h : Gks m k a) (h' : Gks m' k b) (e : m + m' ≤ m'') : Gks m'' k (a ++ b) := by
  refine ⟨by rw [gdAll_app, h.1, h'.1]; rfl, ?_, ?_⟩
  · rw [wtAll_app]
    have := h.2.1
    have := h'.2.1
    omega
  · rw [depthAll_app]
    have := h.2.2
    have := h'.2.2
    omega
theorem Gks.of_app {m k : Nat} {a b : List PyData} (h : Gks m k (a ++ b)) : Gks m k a ∧ Gks m k b := by
  obtain ⟨h1, h2, h3⟩ := h
  rw [gdAll_app, Bool.and_eq_true] at h1
  rw [wtAll_app] at h2
  rw [depthAll_app] at h3
  exact ⟨⟨h1.1, by omega, by omega⟩, h1.2, by omega, by omega⟩
theorem Gks.take {m k : Nat} {ds : List PyData} (h : Gks m k ds) (n : Nat) : Gks m k (ds.take n) := by
  rw [← List.take_append_drop n ds] at h
  exact h.of_app.1
theorem Gks.drop {m k : Nat} {ds : List PyData} (h : Gks m k ds) (n : Nat) : Gks m k (ds.drop n) := by
  rw [← List.take_append_drop n ds] at h
  exact h.of_app.2
theorem Gks.cut {m k : Nat} {ds : List PyData} (h : Gks m k ds) (lo hi : Option Int) : Gks m k (cut ds lo hi) := (h.drop _).take _
theorem Gks.rev {m k : Nat} {ds : List PyData} (h : Gks m k ds) : Gks m k ds.reverse := by
  induction ds generalizing m with
  | nil => exact h
  | cons a r ih =>
    obtain ⟨h1, h2, h3⟩ := h
    rw [gdAll, Bool.and_eq_true] at h1
    rw [wtAll] at h2
    rw [PyData.depthAll] at h3
    rw [List.reverse_cons]
    exact Gks.app (m := wtAll r) (m' := wt a + 2) (ih ⟨h1.2, Nat.le_refl _, by omega⟩) (Gks.cons (m := wt a) (m' := 0) ⟨h1.1, Nat.le_refl _, by omega⟩ Gks.nil (Nat.le_refl _)) (by omega)
theorem Gks.get {m k : Nat} {ds : List PyData} {d : PyData} (h : Gks m k ds) (hd : d ∈ ds) : Gk m k d := by
  obtain ⟨i, hi, rfl⟩ := List.getElem_of_mem hd
  obtain ⟨q1, q2, q3⟩ := gdAll_get h.1 (List.getElem?_eq_getElem hi)
  have := h.2.1
  have := h.2.2
  exact ⟨q1, by omega, by omega⟩
theorem cut_to {α : Type} {xs : List α} {k : Nat} : cut xs none (some (k : Int)) = xs.take k := by
  unfold cut
  rw [HT.sIx_none, HT.sIx_nat, List.drop_zero, Nat.sub_zero]
  by_cases h : k ≤ xs.length
  · rw [Nat.min_eq_left h]
  · rw [Nat.min_eq_right (by omega), List.take_length, List.take_of_length_le (by omega)]
theorem cut_from {α : Type} {xs : List α} {k : Nat} : cut xs (some (k : Int)) none = xs.drop k := by
  unfold cut
  rw [HT.sIx_none, HT.sIx_nat]
  by_cases h : k ≤ xs.length
  · rw [Nat.min_eq_left h, List.take_of_length_le (by rw [List.length_drop]; omega)]
  · rw [Nat.min_eq_right (by omega), List.drop_length, List.drop_of_length_le (by omega), List.take_nil]
theorem cut_from1 {α : Type} {xs : List α} {k : Nat} : cut xs (some ((k : Int) + 1)) none = xs.drop (k + 1) := cut_from (k := k + 1)
theorem cut_len {α : Type} (xs : List α) (lo hi : Option Int) : (cut xs lo hi).length ≤ xs.length := by
  unfold cut
  rw [List.length_take, List.length_drop]
  omega
theorem gk_int {i : Int} {m k : Nat} (h : i.natAbs < 10 ^ 41) (hm : 1930 ≤ m) : Gk m k (.int i) := ⟨by rw [gd]; exact decide_eq_true h, by rw [wt]; exact hm, Nat.zero_le _⟩
theorem gk_str {s : Str} {m k : Nat} (h : s.length ≤ 1000) (h2 : PyData.strOk s = true) (hm : 10 * s.length + 4 ≤ m) : Gk m k (.str s) := ⟨by rw [gd, decide_eq_true h, h2]; rfl, by rw [wt]; exact hm, Nat.zero_le _⟩
theorem gk_none {m k : Nat} (hm : 4 ≤ m) : Gk m k .none := ⟨rfl, hm, Nat.zero_le _⟩
theorem gk_bool {b : Bool} {m k : Nat} (hm : 5 ≤ m) : Gk m k (.bool b) := ⟨rfl, hm, Nat.zero_le _⟩
theorem cutS_ok {s : Str} (lo hi : Option Int) (h : PyData.strOk s = true) : PyData.strOk (cutS s lo hi) = true ∧ (cutS s lo hi).length ≤ s.length := by
  unfold cutS
  constructor
  · rw [PyData.strOk, ← Array.all_toList, List.all_eq_true] at h ⊢
    intro c hc
    exact h c (List.mem_of_mem_drop (List.mem_of_mem_take hc))
  · show (List.toArray _).size ≤ s.cps.size
    rw [List.size_toArray, List.length_take, List.length_drop, Array.length_toList]
    omega
theorem strOk_app {a b : Str} (h1 : PyData.strOk a = true) (h2 : PyData.strOk b = true) : PyData.strOk (a ++ b) = true ∧ (a ++ b).length = a.length + b.length := by
  refine ⟨?_, strLen_append a b⟩
  rw [PyData.strOk, ← Array.all_toList, List.all_eq_true] at h1 h2 ⊢
  intro c hc
  have e : (a ++ b).cps.toList = a.cps.toList ++ b.cps.toList := by
    show (a.cps ++ b.cps).toList = _
    rw [Array.toList_append]
  rw [e] at hc
  rcases List.mem_append.mp hc with hc | hc
  · exact h1 c hc
  · exact h2 c hc
theorem gO_atD {ds : List PyData} {r : Int} {k : W → Prop} (Pq : PyData → Prop) (h0 : 0 ≤ r) (h1 : r < (ds.length : Nat)) (hp : ∀ d ∈ ds, Pq d) (q : ∀ d, Pq d → k (W.d d)) : gO (atI (ds.map W.d) r) k := by
  obtain ⟨d, e, hm⟩ := at_mem (xs := ds) h0 h1
  refine gO_i (a := W.d d) ?_ (q d (hp d hm))
  rw [atI_map, e]
  rfl
theorem all1 {α : Type} {P : α → Prop} {a : α} {l : List α} (h : P a) (t : ∀ x ∈ l, P x) : ∀ x ∈ a :: l, P x := fun x hx => (List.mem_cons.mp hx).elim (fun z => by rw [z]; exact h) (t x)
theorem all0 {α : Type} {P : α → Prop} : ∀ x ∈ ([] : List α), P x := fun x hx => absurd hx List.not_mem_nil
theorem GdE.txt {d : PyData} (h : GdE d) : txt d = true := by
  rcases h with h | rfl
  · exact gd_txt d h.1
  · rfl
theorem GdE.sh {d : PyData} (h : GdE d) : (d.hasDict = false ∨ d = .dict []) ∧ shOk d := by
  rcases h with h | rfl
  · refine ⟨.inl (gd_nd d h.1), gd_show d h.1, by have := h.2.2; omega, ?_⟩
    have := shown_le d h.1
    have h2 := h.2.1
    exact Nat.le_trans (Nat.le_trans this h2) (by decide)
  · exact ⟨.inr rfl, by decide +kernel, by decide +kernel, by decide +kernel⟩
end Tl

set_option Elab.async false
set_option linter.all false
set_option maxRecDepth 100000
set_option maxHeartbeats 4000000
/-! A def called at one place alone (what stands around it is known), and a law's end by it. -/
namespace Tl
open PySem PySem.Spec PyProof.Rows L2
theorem run_at {P : Program} {w : World} {K : PySem.W.Frag} {mg : Str → Option Value} {base : Heap} {k : Nat} {f : Addr} {fd : FuncData} {x qual : Str} {st : Stmt} {N ps : List Str} {A0 : Around} {outer : List Env} {s : Shared} {H : Hp} {args : Args} {us : List Value} {vs : List V} {Q : VK} {E : XK}
    (F : Fun K x qual st f fd) (S : FnScope N ps (defScope st)) (hr : Room (k + 1) A0) (e0 : Env0 P w K mg base A0 outer s H) (hb : BindsTo s fd args (ps.zip us)) (r : Vals vs us) (hl : vs.length = ps.length)
    (body : ∀ cdv : Value, Room k (A0.deeper (envOfC qual (defScope st) s.heap.objs.size f cdv)) →
      ∃ t, PSs (cxOf CX0 P w K mg base N qual (defScope st) f cdv A0 outer s H E).nox (defBody st) t ∧ t { nx := fun _ H' => Q .non H', rt := Q } (start N vs) H) :
    codeAny (model P w) A0 (.call (.ref f) args) (CR CX0 outer P w H s Q E) s := by
  obtain ⟨oc, od, kV, doc, pm, an, cdv, ct, osl, rfl, lk, hcd⟩ := F.ex
  have keep : ∀ b o, base.get? b = some o → s.heap.get? b = some o := fun b o q => (e0.bs b o q).1
  have KX : K.In s.heap := e0.mod.kin.keeps keep
  have hkind : ∀ y ∈ ps.zip us, (defScope st).names.lookup y.1 = some .local ∨
      ((defScope st).names.lookup y.1 = some .cell ∧ ((cellsFrom (s.heap.objs.size + 1) (defScope st).names []).lookup y.1).isSome = true) := by
    rintro ⟨n, v⟩ hy
    exact (S.par n (List.of_mem_zip hy).1).imp id fun q => ⟨q, PySem.W.cellsFrom_some _ _ _ (.inl q)⟩
  refine codeAny_call_function hr.depth (KX _ _ lk) rfl S.co S.gen rfl
    (PySem.W.codeRec_of KX hcd) (hb _ _ _ _ ?_)
  refine wpAny_newFunctionEnv_cells S.kind hkind fun env he s1 xx => ?_
  subst he
  refine ⟨(e0.mod.nolimit.keeps keep).keeps xx.toInCall.keep, codeAny_func ?_⟩
  obtain ⟨t, ht, hq⟩ := body cdv (hr.deeper _)
  have I := inv_start (CX := CX0) (E := E) S hr.hd e0 hl r xx
  refine wpAny_mono (ht.nox.run [] s1 (start N vs) H _ I hq) (fun fl s' hs => ?_) fun e s' hs => hs
  cases fl with
  | ret u =>
    obtain ⟨v, σ', H', J, rv, q⟩ := hs
    exact ⟨v, H', J.os, J.bare, J.base, J.hok, rv, q⟩
  | next =>
    obtain ⟨σ', H', J, q⟩ := hs
    exact ⟨V.non, H', J.os, J.bare, J.base, J.hok, rfl, q⟩
  | brk =>
    obtain ⟨_, _, _, q⟩ := hs
    exact q.elim
  | cont =>
    obtain ⟨_, _, _, q⟩ := hs
    exact q.elim
/-- what is tracked as a law begins: nothing, or the script alone, locked -/
def onlyAt (a : Addr) (o : Obj) (xs : List V) : Hp := fun b => if b = a then some (.frz o (.lst xs)) else none
theorem end_at {P : Program} {w : World} {K : PySem.W.Frag} {mg mb : Str → Option Value} {fa a : Addr} {s₁ : Shared} {vs : List Value} {ns : List Int}
    (KX : K.In s₁.heap) (hns : s₁.heap.Ns mainGlobals mg) (hmb : s₁.heap.Ns builtinsNs mb) (hbb : ∀ x : Str, x ≠ "__name__" → mb x = bootBuiltins x)
    (hlim : s₁.heap.NoLimit) (hg : s₁.gens = #[]) (ha : s₁.heap.get? a = some { cls := .type "list", data := .seq vs.toArray }) (hi : IntsAre vs ns) (hl : ns.length ≤ sizeLine)
    (run : ∀ (base : Heap) (H : Hp), K.In base → base.Ns mainGlobals mg → SqL K H a (ns.map V.int) → Env0 P w K mg base callerA [] s₁ H →
      codeAny (model P w) callerA (.call (.ref fa) ⟨[.ref a], []⟩) (CR CX0 [] P w H s₁ (fun v _ => v = V.bl true) fun _ _ _ => False) s₁) :
    codeAny (model P w) callerA (.call (.ref fa) ⟨[.ref a], []⟩)
      (fun r s' => r = .ok (.ret (.bool true)) ∧ OldK s₁.heap s'.heap ∧ s'.os = s₁.os ∧ AllBare s'.gens) s₁ := by
  have rv := vals_ints hi
  have go : ∀ H : Hp, (∀ b u, H b = some u → b = a ∧ ∃ o xs, u = .frz o (.lst xs)) → SqL K H a (ns.map V.int) → HOk P w H s₁.heap → (H a ≠ none → K.lookup a = none) →
      codeAny (model P w) callerA (.call (.ref fa) ⟨[.ref a], []⟩)
        (fun r s' => r = .ok (.ret (.bool true)) ∧ OldK s₁.heap s'.heap ∧ s'.os = s₁.os ∧ AllBare s'.gens) s₁ := by
    intro H hO hS hok hK
    have bo : ∀ {b : Addr} {o : Obj}, s₁.heap.get? b = some o → H b = none → (hidT s₁.heap H).get? b = some o := fun q n => hidT_get q n
    have nd : ∀ {b : Addr} {o : Obj} {es : Array DictEntry} {ep : Nat}, s₁.heap.get? b = some o → o.data = .dict es ep → H b = none := by
      intro b o es ep q d
      cases z : H b with
      | none => rfl
      | some u =>
        obtain ⟨rfl, _⟩ := hO b u z
        rw [ha] at q
        cases q
        have d' : Data.seq vs.toArray _ = Data.dict es ep := d
        cases d'
    have nsK : ∀ {b : Addr} {m : Str → Option Value}, s₁.heap.Ns b m → (hidT s₁.heap H).Ns b m := by
      rintro b m ⟨o, es, ep, q, d, r⟩
      exact ⟨o, es, ep, bo q (nd q d), d, r⟩
    have hKb : K.In (hidT s₁.heap H) := fun b o q => bo (KX b o q) (by
      cases z : H b with
      | none => rfl
      | some u =>
        obtain ⟨rfl, _⟩ := hO b u z
        have := hK (by rw [z]; exact fun y => nomatch y)
        rw [this] at q
        cases q)
    obtain ⟨mc, l1, l2⟩ := hlim
    have hM : Mod K mg (hidT s₁.heap H) := ⟨hKb, nsK hns, ⟨mb, nsK hmb, hbb⟩, ⟨mc, nsK l1, l2⟩⟩
    have e0 : Env0 P w K mg (hidT s₁.heap H) callerA [] s₁ H :=
      ⟨rfl, hM, fun b o q => of_hidT q, Nat.le_of_eq (hidT_size _ _), trivial, fun b hb => absurd (show b ∈ ([] : List Addr) from hb) (by simp), hok, .of_eq hg⟩
    refine codeAny_mono (run _ H hKb (nsK hns) hS e0) fun r s' h => ?_
    cases r with
    | error e => exact h.elim
    | ok fl =>
      cases fl with
      | ret u =>
        obtain ⟨v, H', os, bare, un, hok', r', q⟩ := h
        have q' : v = .bl true := q
        subst q'
        obtain rfl : u = Value.bool true := r'
        refine ⟨rfl, OldK.of_keep fun b o e => ?_, os, bare⟩
        cases z : H b with
        | none => exact un.keep b o e z (fun y => absurd (show b ∈ ([] : List Addr) from y) (by simp)) (by simp)
        | some u =>
          obtain ⟨rfl, ob, xs, rfl⟩ := hO b u z
          have z2 := un.frzs b ob _ z
          obtain ⟨e1, _⟩ := hok b _ z
          obtain ⟨e2, _⟩ := hok' b _ z2
          rw [e] at e1
          cases e1
          exact e2
      | next => exact h.elim
      | brk => exact h.elim
      | cont => exact h.elim
  have lenV := hi.length
  cases hk : K.lookup a with
  | some o =>
    have e := KX a o hk
    rw [ha] at e
    cases e
    have no : ∀ (b : Addr) (u : HO), (fun _ : Addr => (none : Option HO)) b = some u → False := fun b u z => by
      have z' : (none : Option HO) = some u := z
      cases z'
    exact go (fun _ => none) (fun b u z => (no b u z).elim) (.inr ⟨_, vs.toArray, _, hk, rfl, rfl, rfl, by rw [List.size_toArray, lenV]; exact hl, by simpa using rv⟩)
      (fun b u z => (no b u z).elim) fun z => absurd rfl z
  | none =>
    have at_a : onlyAt a { cls := .type "list", data := .seq vs.toArray } (ns.map V.int) a = some (.frz { cls := .type "list", data := .seq vs.toArray } (.lst (ns.map V.int))) := if_pos rfl
    have only : ∀ b u, onlyAt a { cls := .type "list", data := .seq vs.toArray } (ns.map V.int) b = some u → b = a ∧ u = .frz { cls := .type "list", data := .seq vs.toArray } (.lst (ns.map V.int)) := fun b u z => by
      unfold onlyAt at z
      by_cases hb : b = a
      · rw [if_pos hb] at z
        exact ⟨hb, (Option.some.inj z).symm⟩
      · rw [if_neg hb] at z
        cases z
    refine go (onlyAt a { cls := .type "list", data := .seq vs.toArray } (ns.map V.int)) (fun b u z => ?_) (.inl (.inr ⟨_, at_a⟩)) (fun b u z => ?_) fun _ => hk
    · obtain ⟨h1, h2⟩ := only b u z
      exact ⟨h1, _, _, h2⟩
    · obtain ⟨rfl, rfl⟩ := only b u z
      exact ⟨ha, by rw [List.length_map]; exact hl, vs, _, rv, ha⟩
theorem walk_at_top {l : PySem.W.OpenLaw} {n : Nat} {q : Program} {loose : List Str} {XP : (Str → Option Value) → Heap → Prop} {YP : World → Heap → Prop} {d : DefRec} {K : Params → PySem.W.Frag}
    (hn : l.most = some n) (hn2 : n ≤ sizeLine) (hdf : d.params.defaults = []) (hY : ∀ (w : World) (h : Heap), YP w h → (K w.params).In h)
    (F : ∀ (w : World) (mg : Str → Option Value) (fa : Addr) (h : Heap), (K w.params).In h → h.Ns mainGlobals mg → mg d.name = some (.ref fa) →
      ∀ (s₁ : Shared) (base : Heap) (H : Hp) (a : Addr) (ns : List Int), ns.length ≤ n → (K w.params).In base → base.Ns mainGlobals mg → SqL (K w.params) H a (ns.map V.int) → Env0 l.prog w (K w.params) mg base callerA [] s₁ H →
        codeAny (model l.prog w) callerA (.call (.ref fa) ⟨[.ref a], []⟩) (CR CX0 [] l.prog w H s₁ (fun v _ => v = V.bl true) fun _ _ _ => False) s₁) :
    PySem.W.WalkO q loose XP YP l.row.toRowW d [] (fun f vs => PySem.call f vs) := by
  refine Att.attach_call hn hdf fun w s₀ s₁ mg mb fa o pm cd doc a vs ns G Y ho hd hcd hmg hobj hints hlen hg => ?_
  have KX := hY w _ Y
  exact end_at KX G.T.g G.T.b G.T.builtins G.T.nolimit hg hobj hints (Nat.le_trans hlen hn2)
    fun base H h1 h2 h3 h4 => F w mg fa _ KX G.T.g hmg s₁ base H a ns hlen h1 h2 h3 h4
end Tl

set_option Elab.async false
set_option linter.all false
set_option maxRecDepth 100000
set_option maxHeartbeats 4000000
/-! Defs that show things: they are run where no text is being made. -/
namespace Tl
open PySem PySem.Spec PyProof.Rows L2
/-- a promise of a def that is kept where nothing is being shown -/
structure FnG (P : Program) (w : World) (K : PySem.W.Frag) (mg : Str → Option Value) (base : Heap) (k : Nat) (f : Addr) (fd : FuncData) (ps : List Str) (sp : Sp) : Prop where
  len : ∀ vs H Q E, sp vs H Q E → vs.length = ps.length
  run : ∀ (A : Around) (st : List Env) (s : Shared) (H : Hp) (args : Args) (us : List Value) (vs : List V) (Q : VK) (E : XK), A.guards = some [] → Room k A → Env0 P w K mg base A st s H → BindsTo s fd args (ps.zip us) → Vals vs us → sp vs H Q E →
    codeAny (model P w) A (.call (.ref f) args) (CR CX0 st P w H s Q E) s
structure UseG (P : Program) (w : World) (K : PySem.W.Frag) (mg : Str → Option Value) (base : Heap) (x : Str) (ps : List Str) (k : Nat) (sp : Sp) where
  f : Addr
  fd : FuncData
  ok : FnG P w K mg base k f fd ps sp
  m : mg x = some (.ref f)
  kp : PySem.W.keepIn K (.ref f) = true
  b : Binds K fd ps []
section
variable {X : Cx} {k : Nat} {f : Addr} {fd : FuncData} {ps : List Str} {sp : Sp} {E : XK} {x : Str} {p pos : Pos} {e : Expr} {es : List Expr} {t : TA}
theorem run_G {pins : List (Addr × Obj)} {σ : L2.St} {H : Hp} {s : Shared} {Q : VK} {us : List Value} {vs : List V} (F : FnG X.prog X.w X.K X.mg X.base k f fd ps sp) (hr : Room k X.A) (g : X.A.guards = some []) (hb : Binds X.K fd ps [])
    (I : Inv X pins σ H s) (r : Vals vs us) (h : sp vs H Q E) : wpAny (model X.prog X.w) X.A (call (.ref f) us) (EP X pins σ Q) X.xe s := by
  have hl : us.length = ps.length := by
    rw [← r.length]
    exact F.len _ _ _ _ h
  have hB := hb s us I.kIn (by rw [List.append_nil]; exact hl)
  rw [List.append_nil] at hB
  refine wpAny_call (codeAny_mono (F.run X.A X.stack s H _ us vs Q E g hr I.env0 hB r h) fun z s' hq => ?_)
  match z, hq with
  | .ok (.ret u), hq => exact I.after hq
theorem pe_callG (F : FnG X.prog X.w X.K X.mg X.base k f fd ps sp) (hr : Room k X.A) (g : X.A.guards = some []) (hg : Gl X x) (hm : X.mg x = some (.ref f)) (hk : PySem.W.keepIn X.K (.ref f) = true) (hb : Binds X.K fd ps [])
    (ha : PA X (e :: es) t) (hdb : (x == ("__debug__" : Str)) = false := by decide) (he : starEach (e :: es) X.env = (false, eval e X.env) :: starEach es X.env := by rfl)
    (hpl : (backTo pos (starEach es X.env)).any (·.1) = false := by rfl) : PE X (.Call (.Name x p) (e :: es) [] pos) (tCall sp [] E t) :=
  ⟨fun pn s σ H Q I h => wpAny_Call_Name_kw (ld_glob I hg hm (PySem.W.callWith_K (h₀ := X.base) I.ok.mod.kin hk
    (thn (ha.run pos pn s σ H _ I h) fun us s1 ⟨vs, H1, I1, r, q⟩ => ⟨I1.kIn, run_G (E := E) F hr g hb I1 r (List.append_nil vs ▸ q)⟩) he hpl) hdb)⟩
end
section
variable {P : Program} {w : World} {K : PySem.W.Frag} {mg : Str → Option Value} {base : Heap}
theorem okDG {f : Addr} {fd : FuncData} {k n : Nat} {x qual : Str} {st : Stmt} {N ps : List Str} {tf : TF} (F : Fun K x qual st f fd) (S : FnScope N ps (defScope st)) (hp : ps.length = n)
    (hb : ∀ (cdv : Value) (A : Around) (outer : List Env) (s : Shared) (H : Hp) (E : XK), (A.deeper (PyProof.Rows.envOfC qual (defScope st) s.heap.objs.size f cdv)).guards = some [] → Room k (A.deeper (PyProof.Rows.envOfC qual (defScope st) s.heap.objs.size f cdv)) →
      ∃ (t : TS) (T : TDS), PSs (cxOf CX0 P w K mg base N qual (defScope st) f cdv A outer s H E).nox (defBody st) t ∧ SSt K (fun _ _ _ _ => False) (fun _ _ _ => False) t T ∧
        ∀ ws M R RX, ws.length = n → tf ws M R RX → T (endD (lax R)) (start0 N.length ws) M) : FnG P w K mg base (k + 1) f fd ps (spD K n tf) := by
  refine ⟨fun vs H Q E h => ?_, fun A outer s H args us vs Q E hg hr e0 hB rv h => ?_⟩
  · obtain ⟨F0, M, ws, R, RX, r, rs, hl, _⟩ := h
    rw [rs.len, hl, hp]
  · obtain ⟨F0, M, ws, R, RX, r, rs, hl, hf, hk, _⟩ := h
    refine run_at F S hr e0 hB rv (by rw [rs.len, hl, hp]) fun cdv hr2 => ?_
    obtain ⟨t, T, h1, h2, h3⟩ := hb cdv A outer s H E hg hr2
    exact ⟨t, h1, h2 F0 H M _ _ _ _ r (fun F' H' M' σ ρ cls d x _ _ _ _ z => z) (rel_start rs) (h3 ws M R RX hl hf) (ek_def (kt_lax hk))⟩
end
end Tl

set_option Elab.async false
set_option linter.all false
set_option maxRecDepth 100000
set_option maxHeartbeats 4000000
/-! A law that makes its source of numbers by its first row. -/
namespace Tl
open PySem PySem.Spec PyProof.Rows L2
/-- a new source of numbers, from a script -/
def spState (K : PySem.W.Frag) : Sp := fun vs H Q _ => ∃ (a : Addr) (ns : List Int), vs = [.ref a] ∧ SqL K H a (ns.map V.int) ∧ ∀ (st c : Addr) (cs : List Int) (z : Int) (H' : Hp), Same H H' → H st = none → H c = none → c ≠ st → H' st = some (.lst [.ref c, .int 0, .int 0, .int z]) → H' c = some (.lst (cs.map V.int)) → 0 < cs.length → cs.length ≤ 63 → 0 ≤ z → z < 2147483647 → Q (.ref st) H'
section
variable {P : Program} {w : World} {K : PySem.W.Frag} {mg : Str → Option Value} {base : Heap}
theorem src_new {H : Hp} {sa c : Addr} {cs : List Int} {z : Int} (n : c ≠ sa) (h1 : H sa = some (.lst [.ref c, .int 0, .int 0, .int z])) (h2 : H c = some (.lst (cs.map V.int))) (l0 : 0 < cs.length) (l1 : cs.length ≤ 63) (z0 : 0 ≤ z) (z1 : z < 2147483647) : ∃ F M, Rl K F H M ∧ M sa = some (.src true) := by
  refine ⟨fun b => if b = c then some (.lst (cs.map V.int)) else none, fun b => if b = sa then some (.src true) else none, ⟨fun b u q => ?_, fun b o q => ?_, fun b o q => ?_⟩, if_pos rfl⟩
  · have q' : (if b = c then some (HO.lst (cs.map V.int)) else none) = some u := q
    split at q'
    · rename_i e
      rw [e, h2]
      exact q'
    · cases q'
  · have q' : (if b = sa then some (MO.src true) else none) = some o := q
    split at q'
    · rename_i e
      exact if_neg (fun z => n (by rw [← z, e]))
    · cases q'
  · have q' : (if b = sa then some (MO.src true) else none) = some o := q
    split at q'
    · rename_i e
      cases q'
      exact ⟨_, by rw [e]; exact h1, _, rfl, c, cs, 0, 0, z, rfl, SqL.of (if_pos rfl), l1, fun _ => l0, by decide, by decide, z0, by rw [if_pos rfl]; exact z1⟩
    · cases q'
theorem law_at {f : Addr} {fd : FuncData} {k : Nat} {st : Stmt} {N : List Str} {s : Shared} {H : Hp} {a : Addr} {ns : List Int} (F : Fun K "law" "law" st f fd) (S : FnScope N ["_law_script"] (defScope st)) (hS : SqL K H a (ns.map V.int)) (e0 : Env0 P w K mg base callerA [] s H) (hk : Room (k + 1) callerA) (hbi : Binds K fd ["_law_script"] [])
    (hb : ∀ cdv : Value, (callerA.deeper (envOfC "law" (defScope st) s.heap.objs.size f cdv)).guards = some [] → Room k (callerA.deeper (envOfC "law" (defScope st) s.heap.objs.size f cdv)) →
      ∃ (E : XK) (t : TS) (T : TDS), PSs (cxOf CX0 P w K mg base N "law" (defScope st) f cdv callerA [] s H (fun _ _ _ => False)).nox (defBody st) (tSeq (tAsg (tCall (spState K) [] E (tCons (tVar 0) tNil)) (gName 1)) t) ∧ SSt K (fun _ _ _ _ => False) (fun _ _ _ => False) t T ∧
        ∀ (sa : Addr) (M : Mem), M sa = some (.src true) → T (endD fun x _ => x = .d (.bool true)) (put (start0 N.length [.o (.ref a)]) 1 (some (.r sa))) M) :
    codeAny (model P w) callerA (.call (.ref f) ⟨[.ref a], []⟩) (CR CX0 [] P w H s (fun v _ => v = V.bl true) fun _ _ _ => False) s := by
  have KX : K.In s.heap := e0.mod.kin.keeps fun b o q => (e0.bs b o q).1
  refine run_at (k := k) (vs := [V.ref a]) (us := [Value.ref a]) F S hk e0 (hbi s [.ref a] KX rfl) (.cons rfl .nil) rfl (fun cdv hr => ?_)
  obtain ⟨E, t, T, h1, h2, h3⟩ := hb cdv rfl hr
  refine ⟨_, h1, ?_⟩
  have hst : L2.start N [V.ref a] = some (V.ref a) :: List.replicate (N.length - 1) none := rfl
  refine ⟨V.ref a, by rw [hst]; rfl, ?_⟩
  refine ⟨a, ns, rfl, hS, fun sa c cs z H' e hsa hc n q1 q2 l0 l1 z0 z1 => ?_⟩
  obtain ⟨F1, M1, r1, hM⟩ := src_new (K := K) n q1 q2 l0 l1 z0 z1
  refine h2 F1 H' M1 _ _ _ _ r1 (fun F' H' M' σ ρ cls d x _ _ _ _ z => z) ?_ (h3 sa M1 hM) ?_
  · exact (rel_start (N := N) (K := K) (F := F1) (.cons (.o (V.ref a)) .nil)).set (.r sa) 1
  · exact ek_def (Q := fun v _ => v = V.bl true) fun v H2 F2 M2 x r g rx q => by
      subst q
      exact rx.bl
end
end Tl

set_option Elab.async false
set_option linter.all false
set_option maxRecDepth 100000
set_option maxHeartbeats 4000000
/-! What a top needs: facts of classes, promises lifted to one level. -/
namespace Tl
open PySem L2
theorem kit_sub0 {K : PySem.W.Frag} {D C : Addr} {b : Bool} (h1 : PySem.W.isClsIn K C = true) (h2 : PySem.W.typeIn K (.ref C) = some (.type "type")) (h : PySem.W.subIn K (.ref D) (.ref C) = some b) (hb : D = C → b = true) : PySem.W.kitOne K (.ref D) (.ref C) = some b := by
  unfold PySem.W.kitOne
  by_cases e : D = C
  · rw [hb e, e, if_pos (by simp)]
  · rw [if_neg (fun z => e (Value.ref.inj (eq_of_beq z)))]
    unfold PySem.W.kitCls
    have h1' : (PySem.W.clsIn K C).isSome = true := h1
    have e2 : ((PySem.W.clsIn K C).isSome && PySem.W.typeIn K (.ref C) == some (.type "type")) = true := by rw [h1', h2] <;> rfl
    show (if ((PySem.W.clsIn K C).isSome && PySem.W.typeIn K (.ref C) == some (.type "type")) = true then PySem.W.subIn K (.ref D) (.ref C) else none) = some b
    rw [if_pos e2]
    exact h
theorem kit_sub {K : PySem.W.Frag} {D C : Addr} (h1 : PySem.W.isClsIn K C = true) (h2 : PySem.W.typeIn K (.ref C) = some (.type "type")) (h : PySem.W.subIn K (.ref D) (.ref C) = some true) : PySem.W.kitOne K (.ref D) (.ref C) = some true := kit_sub0 h1 h2 h fun _ => rfl
theorem kit_no {K : PySem.W.Frag} {D C : Addr} (h1 : PySem.W.isClsIn K C = true) (h2 : PySem.W.typeIn K (.ref C) = some (.type "type")) (hs : PySem.W.subIn K (.ref D) (.ref D) = some true) (h : PySem.W.subIn K (.ref D) (.ref C) = some false) : PySem.W.kitOne K (.ref D) (.ref C) = some false :=
  kit_sub0 h1 h2 h fun e => by
    subst e
    rw [hs] at h
    cases h
theorem kit_ve {K : PySem.W.Frag} {D : Addr} (h : PySem.W.subIn K (.ref D) (.type "ValueError") = some true) : PySem.W.kitOne K (.ref D) (.type "ValueError") = some true := by
  unfold PySem.W.kitOne
  rw [if_neg (by simp)]
  show (if PySem.W.kitMeta "ValueError" = true then PySem.W.subIn K (.ref D) (.type "ValueError") else none) = some true
  rw [if_pos (by decide +kernel)]
  exact h
section
variable {P : Program} {w : World} {K : PySem.W.Frag} {mg : Str → Option Value} {base : Heap} {x : Str} {ps : List Str} {k k' : Nat} {sp : Sp}
def Use.up (u : Use P w K mg base x ps k sp) (h : k ≤ k') : Use P w K mg base x ps k' sp := ⟨u.f, u.fd, u.ok.mono h, u.m, u.kp, u.b⟩
def UseX.up (u : UseX P w K mg base x ps k sp) (h : k ≤ k') : UseX P w K mg base x ps k' sp := ⟨u.f, u.fd, u.ok.mono h, u.m, u.kp, u.b⟩
theorem FnG.mono {f : Addr} {fd : FuncData} (F : FnG P w K mg base k f fd ps sp) (h : k ≤ k') : FnG P w K mg base k' f fd ps sp := ⟨F.len, fun A st s H args us vs Q E g hr => F.run A st s H args us vs Q E g (hr.mono h)⟩
def UseG.up (u : UseG P w K mg base x ps k sp) (h : k ≤ k') : UseG P w K mg base x ps k' sp := ⟨u.f, u.fd, u.ok.mono h, u.m, u.kp, u.b⟩
/-- a def as the top has left it -/
structure At (K : PySem.W.Frag) (mg : Str → Option Value) (x : Str) (st : Stmt) where
  f : Addr
  fd : FuncData
  F : Fun K x x st f fd
  m : mg x = some (.ref f)
def use {st : Stmt} (d : At K mg x st) (b : Binds K d.fd ps []) (ok : FnOk P w K mg base CX0 k d.f d.fd ps sp) : Use P w K mg base x ps k sp := ⟨d.f, d.fd, ok, d.m, d.F.kp, b⟩
def useX {st : Stmt} (d : At K mg x st) (b : Binds K d.fd ps []) (ok : FnOk P w K mg base (L2.CX P w) k d.f d.fd ps sp) : UseX P w K mg base x ps k sp := ⟨d.f, d.fd, ok, d.m, d.F.kp, b⟩
def useG {st : Stmt} (d : At K mg x st) (b : Binds K d.fd ps []) (ok : FnG P w K mg base k d.f d.fd ps sp) : UseG P w K mg base x ps k sp := ⟨d.f, d.fd, ok, d.m, d.F.kp, b⟩
/-- one def, from what the top has written -/
def at_mk {h : Heap} {x : Str} {st : Stmt} (X : K.In h) (G : h.Ns mainGlobals mg) {f : Addr} {od an : Option Addr} {sl : Array (Option Value)} {oc kV dc pm cd ct : Value} (a : PySem.W.nsIn K mainGlobals x = some (some (.ref f)))
    (l : K.lookup f = some ⟨oc, od, .func (PySem.W.fnOf x x (defArgs st) (defBody st) (defScope st) .none kV dc pm an cd ct), sl⟩) (c : PySem.W.codeIn K cd x = true) (k : PySem.W.keepIn K (.ref f) = true) : At K mg x st :=
  ⟨f, _, fun_mk (st := st) l c k, PySem.W.mg_of X G a⟩
end
theorem tuple_of_list {ρ : EnvD} {M : Mem} {ds : List PyData} {k : W → Mem → Prop} (q : k (.d (.tuple ds)) M) : nilA ρ M fun xs M2 => fTuple (W.d (.list ds) :: xs) M2 k := by
  show gDs (ds.map W.d) _
  rw [gDs_map]
  exact q
end Tl

set_option Elab.async false
set_option linter.all false
set_option maxRecDepth 100000
set_option maxHeartbeats 4000000
/-! Places, levels and parts of a tree that is data. -/
namespace Tl
open PySem L2
def pathD (q : List Nat) : PyData := .tuple (q.map fun n : Nat => .int (n : Int))
mutual
def plc : PyData → List (List Nat)
  | .tuple [_, .tuple ks] => [] :: plcAll 0 ks
  | _ => [[]]
def plcAll : Nat → List PyData → List (List Nat)
  | _, [] => []
  | i, k :: ks => (plc k).map (i :: ·) ++ plcAll (i + 1) ks
end
mutual
def lev : PyData → Nat
  | .tuple [_, .tuple ks] => 1 + levAll ks
  | _ => 1
def levAll : List PyData → Nat
  | [] => 0
  | k :: ks => max (lev k) (levAll ks)
end
/-- the part at a path -/
def sub : PyData → List Nat → Option PyData
  | d, [] => some d
  | .tuple [_, .tuple ks], n :: q => (match ks[n]? with | some k => sub k q | none => none)
  | _, _ :: _ => none
def optP : Option PyData → PyData
  | some d => d
  | none => .none
theorem plc_node (s : PyData) (ks : List PyData) : plc (.tuple [s, .tuple ks]) = [] :: plcAll 0 ks := by rw [plc]
theorem lev_node (s : PyData) (ks : List PyData) : lev (.tuple [s, .tuple ks]) = 1 + levAll ks := by rw [lev]
theorem sub_node (s : PyData) (ks : List PyData) (n : Nat) (q : List Nat) : sub (.tuple [s, .tuple ks]) (n :: q) = (match ks[n]? with | some k => sub k q | none => none) := by rw [sub]
theorem sub_nil (d : PyData) : sub d [] = some d := by
  rw [sub]
theorem plcAll_app : ∀ (i : Nat) (a b : List PyData), plcAll i (a ++ b) = plcAll i a ++ plcAll (i + a.length) b
  | i, [], b => by rw [plcAll]; rfl
  | i, k :: a, b => by
    rw [List.cons_append, plcAll, plcAll, plcAll_app (i + 1) a b, List.append_assoc, List.length_cons, show i + 1 + a.length = i + (a.length + 1) by omega]
theorem plcAll_one (i : Nat) (k : PyData) : plcAll i [k] = (plc k).map (i :: ·) := by rw [plcAll, plcAll, List.append_nil]
mutual
theorem plc_len : ∀ {n : Nat} {d : PyData}, TrT n d → (plc d).length = nn d
  | 0, _, h => h.elim
  | n + 1, d, h => by
    obtain ⟨s, ks, rfl, _, hk⟩ := h
    rw [plc_node, List.length_cons, plcAll_len 0 hk, nn]
    omega
theorem plcAll_len : ∀ {n : Nat} {ks : List PyData} (i : Nat), (∀ k ∈ ks, TrT n k) → (plcAll i ks).length = nnAll ks
  | _, [], _, _ => by rw [plcAll, nnAll]; rfl
  | n, k :: ks, i, h => by rw [plcAll, List.length_append, List.length_map, plc_len (h k (.head _)), plcAll_len (i + 1) fun x hx => h x (.tail _ hx), nnAll]
end
mutual
theorem lev_le : ∀ {n : Nat} {d : PyData}, TrT n d → lev d ≤ n
  | 0, _, h => h.elim
  | n + 1, d, h => by
    obtain ⟨s, ks, rfl, _, hk⟩ := h
    have := levAll_le hk
    rw [lev_node]
    omega
theorem levAll_le : ∀ {n : Nat} {ks : List PyData}, (∀ k ∈ ks, TrT n k) → levAll ks ≤ n
  | _, [], _ => by rw [levAll]; exact Nat.zero_le _
  | n, k :: ks, h => by
    have h1 := lev_le (h k (.head _))
    have h2 := levAll_le fun x hx => h x (.tail _ hx)
    rw [levAll]
    omega
end
theorem nnAll_map : ∀ ks : List PyData, ((ks.map fun k => ((nn k : Nat) : Int)).sum) = ((nnAll ks : Nat) : Int)
  | [] => by rw [nnAll]; rfl
  | k :: ks => by
    rw [List.map_cons, List.sum_cons, nnAll_map ks, nnAll]
    omega
theorem mx_lev : ∀ {ks : List PyData}, ks ≠ [] → mxI (ks.map fun k => ((lev k : Nat) : Int)) = ((levAll ks : Nat) : Int)
  | [], h => absurd rfl h
  | [k], _ => by
    rw [List.map_cons, List.map_nil, mxI, levAll, levAll]
    omega
  | k :: z :: r, _ => by
    have e : mxI ((k :: z :: r).map fun k => ((lev k : Nat) : Int)) = max ((lev k : Nat) : Int) (mxI ((z :: r).map fun k => ((lev k : Nat) : Int))) := rfl
    rw [e, mx_lev (ks := z :: r) (by simp), show levAll (k :: z :: r) = max (lev k) (levAll (z :: r)) by rw [levAll]]
    omega
theorem mx_lev0 (ks : List PyData) : mxI ((0 : Int) :: ks.map fun k => ((lev k : Nat) : Int)) = ((levAll ks : Nat) : Int) := by
  cases ks with
  | nil => rw [List.map_nil, mxI, levAll]; rfl
  | cons k r =>
    have e : mxI ((0 : Int) :: (k :: r).map fun k => ((lev k : Nat) : Int)) = max (0 : Int) (mxI ((k :: r).map fun k => ((lev k : Nat) : Int))) := rfl
    rw [e, mx_lev (by simp)]
    omega
theorem sub_tr : ∀ {q : List Nat} {n : Nat} {d e : PyData}, TrT n d → sub d q = some e → TrT (n - q.length) e ∧ q.length < n ∧ nn e ≤ nn d
  | [], n, d, e, h, hs => by
    rw [sub_nil] at hs
    cases hs
    refine ⟨h, ?_, Nat.le_refl _⟩
    cases n with
    | zero => exact h.elim
    | succ n => exact Nat.succ_pos _
  | i :: q, 0, d, e, h, hs => h.elim
  | i :: q, n + 1, d, e, h, hs => by
    obtain ⟨s, ks, rfl, _, hk⟩ := h
    rw [sub_node] at hs
    cases c : ks[i]? with
    | none => rw [c] at hs; cases hs
    | some k =>
      rw [c] at hs
      have hm := List.mem_of_getElem? c
      obtain ⟨h1, h2, h3⟩ := sub_tr (hk k hm) hs
      refine ⟨?_, by rw [List.length_cons]; omega, ?_⟩
      · rw [List.length_cons, show n + 1 - (q.length + 1) = n - q.length by omega]
        exact h1
      · have : ∀ {ks : List PyData} {k : PyData}, k ∈ ks → nn k ≤ nnAll ks := fun {ks k} h => by
          induction ks with
          | nil => cases h
          | cons z r ih =>
            rw [nnAll]
            rcases List.mem_cons.mp h with rfl | h
            · omega
            · have := ih h; omega
        have := this hm
        rw [nn]
        omega
mutual
theorem plc_sub : ∀ {n : Nat} {d : PyData}, TrT n d → ∀ q ∈ plc d, ∃ e, sub d q = some e
  | 0, _, h => h.elim
  | n + 1, d, h => by
    obtain ⟨s, ks, rfl, _, hk⟩ := h
    intro q hq
    rw [plc_node] at hq
    rcases List.mem_cons.mp hq with rfl | hq
    · exact ⟨_, sub_nil _⟩
    · obtain ⟨i, r, k, rfl, _, hi, hr⟩ := plcAll_sub 0 hk q hq
      obtain ⟨e, he⟩ := hr
      exact ⟨e, by rw [sub_node, show ks[i]? = some k by rw [← hi]; rfl]; exact he⟩
theorem plcAll_sub : ∀ {n : Nat} {ks : List PyData} (j : Nat), (∀ k ∈ ks, TrT n k) → ∀ q ∈ plcAll j ks, ∃ i r k, q = i :: r ∧ j ≤ i ∧ ks[i - j]? = some k ∧ ∃ e, sub k r = some e
  | _, [], _, _, q, hq => by rw [plcAll] at hq; cases hq
  | n, k :: ks, j, h, q, hq => by
    rw [plcAll] at hq
    rcases List.mem_append.mp hq with hq | hq
    · obtain ⟨r, hr, rfl⟩ := List.mem_map.mp hq
      obtain ⟨e, he⟩ := plc_sub (h k (.head _)) r hr
      exact ⟨j, r, k, rfl, Nat.le_refl _, by rw [Nat.sub_self]; rfl, e, he⟩
    · obtain ⟨i, r, k', rfl, hi, hk, he⟩ := plcAll_sub (j + 1) (fun x hx => h x (.tail _ hx)) q hq
      exact ⟨i, r, k', rfl, by omega, by rw [show i - j = (i - (j + 1)) + 1 by omega]; exact hk, he⟩
end
/-- a new list, told as data -/
theorem FnOk.dat {P : Program} {w : World} {K : PySem.W.Frag} {mg : Str → Option Value} {base : Heap} {CX : CXT} {f : Addr} {fd : FuncData} {k n : Nat} {ps : List Str} {tf tf' : TF} (F : FnOk P w K mg base CX k f fd ps (spD K n tf))
    (h : ∀ ws M R RX, ws.length = n → tf' ws M R RX → tf ws M (fun x M' => ∃ p ds, x = .r p ∧ M p = none ∧ M' = mset M p (.lst (ds.map W.d)) ∧ R (.d (.list ds)) M) RX) : FnOk P w K mg base CX k f fd ps (spD K n tf') :=
  F.imp fun vs H Q E ⟨F0, M, ws, R, RX, r, rs, hl, hf, hk, hx⟩ => ⟨F0, M, ws, _, RX, r, rs, hl, h ws M R RX hl hf, fun v H' F' M' x r' g rx q => by
    obtain ⟨p, ds, rfl, hp, rfl, hR⟩ := q
    obtain ⟨F2, r2, g2, d2⟩ := r'.freeze (p := p) (ds := ds) mset_same
    rw [mdel_mset, mdel_none hp] at r2 g2
    rw [rx.ref]
    exact hk _ H' F2 M _ r2 (g.trans g2) (.d d2) hR, hx⟩
theorem mapW {α : Type} (g : α → PyData) (xs : List α) : (xs.map g).map W.d = xs.map fun a => W.d (g a) := by rw [List.map_map]; rfl
theorem gIs_ints {bs : List Int} {k : List Int → Prop} (q : k bs) : gIs ((bs.map PyData.int).map W.d) k := by
  rw [mapW, gIs_map (fun a => a), List.map_id']
  exact q
theorem sum_ints {ρ : EnvD} {M : Mem} {bs : List Int} {k : W → Mem → Prop} (q : k (.d (.int bs.sum)) M) : nilA ρ M fun xs M2 => fSum (W.d (.list (bs.map PyData.int)) :: xs) M2 k := gIs_ints q
theorem max_ints {ρ : EnvD} {M : Mem} {bs : List Int} {k : W → Mem → Prop} (h : 0 < bs.length) (q : k (.d (.int (mxI bs))) M) : nilA ρ M fun xs M2 => fMax (W.d (.list (bs.map PyData.int)) :: xs) M2 k := gIs_ints (bs := bs) (k := fun bs => 0 < bs.length ∧ k (.d (.int (mxI bs))) M) ⟨h, q⟩
theorem lc1F {α : Type} {b : TDG} {keep : Mem → Prop} {te : TDE} {ρ : EnvD} {k : List PyData → Prop} {M : Mem} {i : Nat} {f : α → W} (g : α → PyData) (hk : keep M) {xs : List α} (hb : ∀ a ∈ xs, ∀ Rk : W → Mem → Prop, Rk (.d (g a)) M → te (put ρ i (some (f a))) M Rk) (hl : xs.length ≤ sizeLine) {fin : List PyData → Mem → Prop} (h : fin (xs.map g) M) : lcGo (bName i) keep yesT te ρ (fun acc M2 => gDs acc fun ds => fin ds M2) (rows1 (xs.map f)) [] M := by
  refine lc1 (fun a => .d (g a)) hk hb hl ?_
  rw [show (xs.map fun a => W.d (g a)) = (xs.map g).map W.d by rw [List.map_map]; rfl]
  exact gDs_i h
end Tl

set_option Elab.async false
set_option linter.all false
set_option maxRecDepth 100000
set_option maxHeartbeats 4000000
/-! The very value told; count papers. -/
namespace Tl
open PySem L2
mutual
theorem gd_lay : ∀ d : PyData, gd d = true → d.canLay0 = true
  | .none, _ => rfl
  | .bool _, _ => rfl
  | .int _, _ => rfl
  | .str s, h => by
    rw [gd, Bool.and_eq_true] at h
    rw [PyData.canLay0]
    exact h.2
  | .list ds, h => by rw [gd] at h; rw [PyData.canLay0]; exact gds_lay ds h
  | .tuple ds, h => by rw [gd] at h; rw [PyData.canLay0]; exact gds_lay ds h
  | .dict _, h => Bool.noConfusion h
theorem gds_lay : ∀ ds : List PyData, gdAll ds = true → PyData.canLayAll0 ds = true
  | [], _ => rfl
  | d :: ds, h => by
    rw [gdAll, Bool.and_eq_true] at h
    rw [PyData.canLayAll0, gd_lay d h.1, gds_lay ds h.2]
    rfl
end
theorem gd_eqOk {d : PyData} (h : gd d = true) (hd : d.depth ≤ 64) : eqOk d = true := by
  unfold eqOk SeqAt.shaped
  rw [gd_nd d h, gd_lay d h, decide_eq_true hd]
  rfl
mutual
/-- told: numbers and tuples alone -/
def told : PyData → Bool
  | .int _ => true
  | .tuple ds => tolds ds
  | _ => false
def tolds : List PyData → Bool
  | [] => true
  | d :: ds => told d && tolds ds
end
mutual
def sameD : PyData → PyData → Bool
  | .int i, .int j => decide (i = j)
  | .tuple a, .tuple b => sameL a b
  | _, _ => false
def sameL : List PyData → List PyData → Bool
  | [], [] => true
  | x :: a, y :: b => sameD x y && sameL a b
  | _, _ => false
end
theorem sameL_len : ∀ {a b : List PyData}, a.length ≠ b.length → sameL a b = false
  | [], [], h => absurd rfl h
  | [], _ :: _, _ => by rw [sameL] <;> simp
  | _ :: _, [], _ => by rw [sameL] <;> simp
  | x :: a, y :: b, h => by
    rw [sameL, sameL_len (a := a) (b := b) (fun e => h (by rw [List.length_cons, List.length_cons, e])), Bool.and_false]
mutual
theorem sameD_refl : ∀ {d : PyData}, told d = true → sameD d d = true
  | .int i, _ => by rw [sameD, decide_eq_true rfl]
  | .tuple ds, h => by rw [told] at h; rw [sameD]; exact sameL_refl h
  | .none, h => Bool.noConfusion h
  | .bool _, h => Bool.noConfusion h
  | .str _, h => Bool.noConfusion h
  | .list _, h => Bool.noConfusion h
  | .dict _, h => Bool.noConfusion h
theorem sameL_refl : ∀ {ds : List PyData}, tolds ds = true → sameL ds ds = true
  | [], _ => by rw [sameL]
  | d :: ds, h => by
    rw [tolds, Bool.and_eq_true] at h
    rw [sameL, sameD_refl h.1, sameL_refl h.2]
    rfl
end
theorem tolds_get : ∀ {ds : List PyData} {i : Nat} {d : PyData}, tolds ds = true → ds[i]? = some d → told d = true
  | [], _, _, _, e => by simp at e
  | a :: r, 0, d, h, e => by
    rw [tolds, Bool.and_eq_true] at h
    simp at e
    subst e
    exact h.1
  | a :: r, i + 1, d, h, e => by
    rw [tolds, Bool.and_eq_true] at h
    exact tolds_get (ds := r) (i := i) h.2 (by simpa using e)
/-- a row of numbers -/
theorem sameL_ints : ∀ {as : List PyData} {js : List Int}, sameL as (js.map PyData.int) = true → as = js.map PyData.int
  | [], [], _ => rfl
  | [], _ :: _, h => by simp [sameL] at h
  | _ :: _, [], h => by simp [sameL] at h
  | x :: a, j :: js, h => by
    rw [List.map_cons, sameL, Bool.and_eq_true] at h
    obtain ⟨h1, h2⟩ := h
    cases x with
    | int i =>
      rw [sameD] at h1
      rw [of_decide_eq_true h1, sameL_ints h2]
      rfl
    | _ => simp [sameD] at h1
theorem eqvAll_ints : ∀ (is js : List Int), PyData.eqvAll (is.map PyData.int) (js.map PyData.int) = sameL (is.map PyData.int) (js.map PyData.int)
  | [], [] => by simp [PyData.eqvAll, sameL]
  | [], _ :: _ => by simp [PyData.eqvAll, sameL]
  | _ :: _, [] => by simp [PyData.eqvAll, sameL]
  | i :: is, j :: js => by
    rw [List.map_cons, List.map_cons, PyData.eqvAll, sameL, eqvAll_ints is js, sameD]
    congr 1
/-- numbers that are no truths -/
def isI : PyData → Bool
  | .int _ => true
  | _ => false
theorem isI_all : ∀ {ds : List PyData}, ds.all isI = true → ∃ is : List Int, ds = is.map PyData.int
  | [], _ => ⟨[], rfl⟩
  | d :: ds, h => by
    rw [List.all_cons, Bool.and_eq_true] at h
    obtain ⟨is, rfl⟩ := isI_all h.2
    cases d with
    | int i => exact ⟨i :: is, rfl⟩
    | _ => exact Bool.noConfusion h.1
/-- a row of a count paper -/
def rowD (q : List Nat) (m h : Nat) : PyData := .tuple [pathD q, .int (m : Int), .int (h : Int)]
theorem pathD_ints (q : List Nat) : pathD q = .tuple ((q.map fun n : Nat => (n : Int)).map PyData.int) := by
  unfold pathD
  rw [List.map_map]
  rfl
theorem row_eqv {as : List PyData} {b c : PyData} {q : List Nat} {m h : Nat} (ha : as.all isI = true) (hb : isI b = true) (hc : isI c = true) : PyData.eqv (.tuple [.tuple as, b, c]) (rowD q m h) = sameD (.tuple [.tuple as, b, c]) (rowD q m h) := by
  obtain ⟨is, rfl⟩ := isI_all ha
  cases b with
  | int i =>
    cases c with
    | int j =>
      unfold rowD
      rw [pathD_ints]
      simp only [PyData.eqv, PyData.eqvAll, sameD, sameL, eqvAll_ints]
      rfl
    | _ => exact Bool.noConfusion hc
  | _ => exact Bool.noConfusion hb
theorem row_odd {as : List PyData} {b c : PyData} {q : List Nat} {m h : Nat} (ho : ((as ++ [b, c]).all isI) = false) : sameD (.tuple [.tuple as, b, c]) (rowD q m h) = false := by
  cases hs : sameD (.tuple [.tuple as, b, c]) (rowD q m h) with
  | false => rfl
  | true =>
    unfold rowD at hs
    rw [pathD_ints] at hs
    simp only [sameD, sameL, Bool.and_eq_true] at hs
    obtain ⟨h1, h2, h3, _⟩ := hs
    have ea := sameL_ints h1
    subst ea
    have hi : ∀ {x : PyData} {n : Int}, sameD x (.int n) = true → isI x = true := fun {x n} h => by
      cases x with
      | int i => rfl
      | _ => simp [sameD] at h
    have e1 := hi h2
    have e2 := hi h3
    rw [List.all_append, List.all_cons, List.all_cons, e1, e2] at ho
    have : (List.map PyData.int (List.map (fun n : Nat => (n : Int)) q)).all isI = true := by
      rw [List.all_map, List.all_eq_true]
      intro x _
      rfl
    rw [this] at ho
    cases ho
/-- the row of a place -/
def prow (d : PyData) (q : List Nat) : PyData := match sub d q with
  | some e => rowD q (nn e) (lev e)
  | none => .none
def paper (d : PyData) : List PyData := (plc d).map (prow d)
theorem sub_app : ∀ {q : List Nat} {n : Nat} {d : PyData} (r : List Nat), TrT n d → sub d (q ++ r) = (match sub d q with | some e => sub e r | none => none)
  | [], n, d, r, h => by rw [List.nil_append, sub_nil]
  | i :: q, 0, d, r, h => h.elim
  | i :: q, n + 1, d, r, h => by
    obtain ⟨s, ks, rfl, _, hk⟩ := h
    rw [List.cons_append, sub_node, sub_node]
    cases c : ks[i]? with
    | none => rfl
    | some k => exact sub_app r (hk k (List.mem_of_getElem? c))
theorem told_path (q : List Nat) : told (pathD q) = true := by
  unfold pathD
  rw [told]
  induction q with
  | nil => rfl
  | cons a r ih => rw [List.map_cons, tolds, ih]; rfl
theorem told_row (q : List Nat) (m h : Nat) : told (rowD q m h) = true := by
  unfold rowD
  simp [told, tolds, told_path]
theorem paper_rows {n : Nat} {d : PyData} (ht : TrT n d) : ∃ L : List (List Nat × Nat × Nat), paper d = L.map (fun x => rowD x.1 x.2.1 x.2.2) ∧ ∀ x ∈ L, x.1.length < n ∧ x.2.1 ≤ nn d ∧ x.2.2 ≤ n := by
  refine ⟨(plc d).map fun q => match sub d q with | some e => (q, nn e, lev e) | none => (q, 0, 0), ?_, fun x hx => ?_⟩
  · unfold paper
    rw [List.map_map]
    refine List.map_congr_left fun q hq => ?_
    obtain ⟨e, he⟩ := plc_sub ht q hq
    show prow d q = _
    unfold prow
    rw [he]
    simp only [Function.comp, he]
  · obtain ⟨q, hq, rfl⟩ := List.mem_map.mp hx
    obtain ⟨e, he⟩ := plc_sub ht q hq
    obtain ⟨h1, h2, h3⟩ := sub_tr ht he
    rw [he]
    have := lev_le h1
    exact ⟨h2, h3, by show lev e ≤ n; omega⟩
theorem paper_told {n : Nat} {d : PyData} (ht : TrT n d) : told (.tuple (paper d)) = true := by
  obtain ⟨L, e, h⟩ := paper_rows ht
  rw [told, e]
  clear e h
  induction L with
  | nil => rfl
  | cons a r ih => rw [List.map_cons, tolds, told_row, Bool.true_and]; exact ih
end Tl

set_option Elab.async false
set_option linter.all false
set_option maxRecDepth 100000
set_option maxHeartbeats 4000000
/-! More names at once; what is good to be shown, decided. -/
namespace Tl
open PySem L2
theorem wipe_set : ∀ {vs : List Nat} {σ : L2.St} {i : Nat} {a : Option V}, i ∈ vs → wipe (σ.set i a) vs = wipe σ vs
  | [], _, _, _, h => by cases h
  | v :: vs, σ, i, a, h => by
    show (wipe (σ.set i a) vs).set v none = (wipe σ vs).set v none
    by_cases c : i ∈ vs
    · rw [wipe_set c]
    · have e : i = v := by
        rcases List.mem_cons.mp h with h | h
        · exact h
        · exact absurd h c
      subst e
      have go : ∀ (us : List Nat) (τ : L2.St), (wipe (τ.set i a) us).set i none = (wipe τ us).set i none := by
        intro us
        induction us with
        | nil =>
          intro τ
          show (τ.set i a).set i none = τ.set i none
          rw [List.set_set]
        | cons u us ih =>
          intro τ
          show ((wipe (τ.set i a) us).set u none).set i none = ((wipe τ us).set u none).set i none
          by_cases e : u = i
          · subst e
            rw [List.set_set, List.set_set]
            exact ih τ
          · rw [List.set_comm _ _ e, ih τ, List.set_comm _ _ (fun z => e z.symm)]
      exact go vs σ
section
variable {K : PySem.W.Frag} {Wx : WX} {RE : REx}
@[reducible] def bTup3 (i j k : Nat) : TDG := fun row ρ M R => match row with | [w] => gT w fun ds => (match ds with | [a, b, c] => R (put (put (put ρ i (some (.d a))) j (some (.d b))) k (some (.d c))) M | _ => False) | _ => False
theorem sg_tup3 {i j k : Nat} : SG K (gTup K 3 (gCons (gName i) (gCons (gName j) (gCons (gName k) gNil)))) false [i, j, k] (bTup3 i j k) := fun F H M x H' row σ ρ R Q hr hy hs hb kk => by
  obtain ⟨w, rfl, rfl, rx⟩ := hy
  obtain ⟨ds, rfl, h1⟩ := gT_of hb
  obtain ⟨a, xs, rfl, h2, h3⟩ := rx.tup
  split at h1
  · rename_i c d e
    cases h3 with
    | cons q1 h3 =>
    cases h3 with
    | cons q2 h3 =>
    cases h3 with
    | cons q3 h3 =>
    cases h3
    refine ⟨a, _, rfl, same_t hr.fh h2, rfl, _, _, rfl, _, _, rfl, _, [], rfl, rfl, ?_⟩
    refine kk _ _ F M _ hr .refl (((hs.set (.d q1) i).set (.d q2) j).set (.d q3) k) ?_ h1
    rw [wipe_set (by simp), wipe_set (by simp), wipe_set (by simp)]
  · exact h1.elim
end
instance {m k : Nat} {d : PyData} : Decidable (Gk m k d) := inferInstanceAs (Decidable (_ ∧ _ ∧ _))
instance {m k : Nat} {d : List PyData} : Decidable (Gks m k d) := inferInstanceAs (Decidable (_ ∧ _ ∧ _))
theorem Gks.of {m k : Nat} : ∀ {ds : List PyData}, (∀ d ∈ ds, Gk m k d) → Gks ((m + 2) * ds.length) k ds
  | [], _ => ⟨rfl, Nat.zero_le _, Nat.zero_le _⟩
  | d :: ds, h => Gks.cons (h d (.head _)) (Gks.of fun x hx => h x (.tail _ hx)) (by rw [List.length_cons, Nat.mul_succ]; omega)
theorem Gks.mono {m k m' k' : Nat} {ds : List PyData} (h : Gks m k ds) (h1 : m ≤ m') (h2 : k ≤ k') : Gks m' k' ds := ⟨h.1, Nat.le_trans h.2.1 h1, Nat.le_trans h.2.2 h2⟩
theorem Gks.ofL {m k n m' : Nat} {ds : List PyData} (h : ∀ d ∈ ds, Gk m k d) (hl : ds.length ≤ n) (hm : (m + 2) * n ≤ m') : Gks m' k ds := (Gks.of h).mono (Nat.le_trans (Nat.mul_le_mul (Nat.le_refl _) hl) hm) (Nat.le_refl _)
theorem GdE.of {m k : Nat} {d : PyData} (h : Gk m k d) (h1 : m ≤ 1000000) (h2 : k ≤ 40) : GdE d := .inl (h.mono h1 h2)
theorem GdE.dep {d : PyData} (h : GdE d) : d.depth < 50 := by
  rcases h with h | rfl
  · have := h.2.2
    omega
  · decide
theorem small41 {i : Int} (h : -100000 ≤ i) (h2 : i ≤ 100000) : i.natAbs < 10 ^ 41 := Nat.lt_of_le_of_lt (show i.natAbs ≤ 100000 by omega) (by decide)
theorem gk_i {i : Int} {k : Nat} (h : -100000 ≤ i) (h2 : i ≤ 100000) : Gk 1930 k (.int i) := gk_int (small41 h h2) (Nat.le_refl _)
theorem sub_ent : ∀ {q : List Nat} {n : Nat} {d e : PyData}, TrT n d → sub d q = some e → ∀ i ∈ q, i < nn d
  | [], n, d, e, h, hs, i, hi => by cases hi
  | j :: q, 0, d, e, h, hs, i, hi => h.elim
  | j :: q, n + 1, d, e, h, hs, i, hi => by
    obtain ⟨s, ks, rfl, _, hk⟩ := h
    rw [sub_node] at hs
    have hl : ∀ ks : List PyData, ks.length ≤ nnAll ks := fun ks => by
      induction ks with
      | nil => exact Nat.zero_le _
      | cons z r ih =>
        have := nn_pos z
        rw [nnAll, List.length_cons]
        omega
    have hm : ∀ {ks : List PyData} {k : PyData}, k ∈ ks → nn k ≤ nnAll ks := fun {ks k} h => by
      induction ks with
      | nil => cases h
      | cons z r ih =>
        rw [nnAll]
        rcases List.mem_cons.mp h with rfl | h
        · omega
        · have := ih h; omega
    cases c : ks[j]? with
    | none => rw [c] at hs; cases hs
    | some k =>
      rw [c] at hs
      have h1 := hl ks
      have h2 := (List.getElem?_eq_some_iff.mp c).1
      have h3 := hm (List.mem_of_getElem? c)
      rw [nn]
      rcases List.mem_cons.mp hi with rfl | hi
      · omega
      · have := sub_ent (hk k (List.mem_of_getElem? c)) hs i hi
        omega
/-- a path that is good to be shown -/
theorem gk_path {q : List Nat} (hl : q.length ≤ 20) (h : ∀ i ∈ q, i ≤ 1000) : Gk 40000 1 (pathD q) := by
  unfold pathD
  refine (Gks.ofL (m := 1930) (k := 0) (n := 20) (m' := 39000) (fun d hd => ?_) (by rw [List.length_map]; exact hl) (by decide)).tup (by decide)
  obtain ⟨i, hi, rfl⟩ := List.mem_map.mp hd
  have := h i hi
  exact gk_i (by omega) (by omega)
theorem gks_path {q : List Nat} (hl : q.length ≤ 20) (h : ∀ i ∈ q, i ≤ 1000) : Gks 39000 0 (q.map fun n : Nat => PyData.int (n : Int)) := by
  refine Gks.ofL (m := 1930) (n := 20) (fun d hd => ?_) (by rw [List.length_map]; exact hl) (by decide)
  obtain ⟨i, hi, rfl⟩ := List.mem_map.mp hd
  have := h i hi
  exact gk_i (by omega) (by omega)
/-- good to be shown, up to a greater weight -/
def GdB (d : PyData) : Prop := Gk 8000000 40 d ∨ d = .dict []
theorem GdB.of {m k : Nat} {d : PyData} (h : Gk m k d) (h1 : m ≤ 8000000) (h2 : k ≤ 40) : GdB d := .inl (h.mono h1 h2)
theorem GdB.txt {d : PyData} (h : GdB d) : txt d = true := by
  rcases h with h | rfl
  · exact gd_txt d h.1
  · rfl
theorem GdB.dep {d : PyData} (h : GdB d) : d.depth < 50 := by
  rcases h with h | rfl
  · have := h.2.2
    omega
  · decide
theorem GdB.sh {d : PyData} (h : GdB d) : (d.hasDict = false ∨ d = .dict []) ∧ shOk d := by
  rcases h with h | rfl
  · refine ⟨.inl (gd_nd d h.1), gd_show d h.1, by have := h.2.2; omega, ?_⟩
    have := shown_le d h.1
    have h2 := h.2.1
    exact Nat.le_trans (Nat.le_trans this h2) (by decide)
  · exact ⟨.inr rfl, by decide +kernel, by decide +kernel, by decide +kernel⟩
theorem gdAll_mem : ∀ {ds : List PyData} {d : PyData}, gdAll ds = true → d ∈ ds → gd d = true
  | a :: r, d, h, hd => by
    rw [gdAll, Bool.and_eq_true] at h
    rcases List.mem_cons.mp hd with rfl | hd
    · exact h.1
    · exact gdAll_mem h.2 hd
theorem depthAll_get : ∀ {ds : List PyData} {d : PyData}, d ∈ ds → d.depth ≤ PyData.depthAll ds
  | a :: r, d, hd => by
    rw [PyData.depthAll]
    rcases List.mem_cons.mp hd with rfl | hd
    · exact Nat.le_max_left _ _
    · exact Nat.le_trans (depthAll_get hd) (Nat.le_max_right _ _)
theorem depthAll_of {k : Nat} : ∀ {ds : List PyData}, (∀ d ∈ ds, d.depth ≤ k) → PyData.depthAll ds ≤ k
  | [], _ => Nat.zero_le _
  | a :: r, h => by
    have h1 := h a (.head _)
    have h2 := depthAll_of (ds := r) fun x hx => h x (.tail _ hx)
    rw [PyData.depthAll]
    omega
/-! ### papers -/
structure ROk (d : PyData) : Prop where
  e : ∃ (q : List Nat) (m h : Nat), d = rowD q m h ∧ q.length ≤ 12 ∧ (∀ i ∈ q, i ≤ 60) ∧ m ≤ 60 ∧ h ≤ 12
theorem ROk.g {d : PyData} (r : ROk d) : Gk 30000 2 d := by
  obtain ⟨q, m, h, rfl, h1, h2, h3, h4⟩ := r.e
  unfold rowD
  have hp : Gk 25000 1 (pathD q) := by
    unfold pathD
    refine (Gks.ofL (m := 1930) (k := 0) (n := 12) (m' := 24000) (fun d hd => ?_) (by rw [List.length_map]; exact h1) (by decide)).tup (by decide)
    obtain ⟨i, hi, rfl⟩ := List.mem_map.mp hd
    have := h2 i hi
    exact gk_i (by omega) (by omega)
  exact (Gks.cons (m' := 3864) (m'' := 28866) hp (.cons (m' := 1932) (gk_i (by omega) (by omega)) (.cons (m' := 0) (gk_i (by omega) (by omega)) .nil (by decide)) (by decide)) (by decide)).tup (by decide)
structure POk (ds : List PyData) : Prop where
  n0 : 1 ≤ ds.length
  n1 : ds.length ≤ 60
  e : ∀ d ∈ ds, ROk d
theorem POk.g {ds : List PyData} (h : POk ds) : Gks 1900000 2 ds := Gks.ofL (m := 30000) (n := 60) (fun d hd => (h.e d hd).g) h.n1 (by decide)
theorem paper_ok {d : PyData} (ht : TrT 12 d) (hn : nn d ≤ 60) : POk (paper d) := by
  have hl : (paper d).length = nn d := by
    unfold paper
    rw [List.length_map, plc_len ht]
  have := nn_pos d
  refine ⟨by omega, by omega, fun x hx => ?_⟩
  unfold paper at hx
  obtain ⟨q, hq, rfl⟩ := List.mem_map.mp hx
  obtain ⟨e, he⟩ := plc_sub ht q hq
  obtain ⟨h1, h2, h3⟩ := sub_tr ht he
  have h4 := sub_ent ht he
  have h5 := lev_le h1
  refine ⟨q, nn e, lev e, by unfold prow; rw [he], by omega, fun i hi => by have := h4 i hi; omega, by omega, by omega⟩
end Tl

set_option Elab.async false
set_option linter.all false
set_option maxRecDepth 100000
set_option maxHeartbeats 4000000
/-! A law whose source of numbers is a list with the script itself. -/
namespace Tl
open PySem PySem.Spec PyProof.Rows L2
section
variable {P : Program} {w : World} {K : PySem.W.Frag} {mg : Str → Option Value} {base : Heap}
theorem src_new2 {H : Hp} {sa c : Addr} {cs : List Int} {z : Int} (hS : SqL K H c (cs.map V.int)) (h1 : H sa = none) (l1 : cs.length ≤ 63) (z0 : 0 ≤ z) (z1 : z < 2305843009213693951) : ∃ F M, Rl K F (upd H sa (.lst [.ref c, .int 0, .int 0, .int z])) M ∧ M sa = some (.src false) := by
  have hF : SqL K (fun b => if b = c then H b else none) c (cs.map V.int) := by
    rcases hS with (h | ⟨o, h⟩) | h
    · exact .inl (.inl (by show (if c = c then H c else none) = _; rw [if_pos rfl]; exact h))
    · exact .inl (.inr ⟨o, by show (if c = c then H c else none) = _; rw [if_pos rfl]; exact h⟩)
    · exact .inr h
  refine ⟨fun b => if b = c then H b else none, fun b => if b = sa then some (.src false) else none, ⟨fun b u q => ?_, fun b o q => ?_, fun b o q => ?_⟩, if_pos rfl⟩
  · have q' : (if b = c then H b else none) = some u := q
    split at q'
    · have n : b ≠ sa := fun z => by rw [z, h1] at q'; cases q'
      rw [upd_ne n]
      exact q'
    · cases q'
  · have q' : (if b = sa then some (MO.src false) else none) = some o := q
    split at q'
    · rename_i e
      show (if b = c then H b else none) = none
      rw [e, h1]
      split <;> rfl
    · cases q'
  · have q' : (if b = sa then some (MO.src false) else none) = some o := q
    split at q'
    · rename_i e
      cases q'
      exact ⟨_, by rw [e]; exact upd_same, _, rfl, c, cs, 0, 0, z, rfl, hF, l1, (fun h => by cases h), by decide, by decide, z0, by rw [if_neg (by decide)]; exact z1⟩
    · cases q'
theorem law_at2 {f : Addr} {fd : FuncData} {k : Nat} {st : Stmt} {N : List Str} {s : Shared} {H : Hp} {a : Addr} {ns : List Int} {z : Int} (F : Fun K "law" "law" st f fd) (S : FnScope N ["_law_script"] (defScope st)) (hlen : ns.length ≤ 63) (hS : SqL K H a (ns.map V.int)) (e0 : Env0 P w K mg base callerA [] s H) (hk : Room (k + 1) callerA) (hbi : Binds K fd ["_law_script"] []) (z0 : 0 ≤ z) (z1 : z < 2305843009213693951)
    (hb : ∀ cdv : Value, (callerA.deeper (envOfC "law" (defScope st) s.heap.objs.size f cdv)).guards = some [] → Room k (callerA.deeper (envOfC "law" (defScope st) s.heap.objs.size f cdv)) →
      ∃ (t : TS) (T : TDS), PSs (cxOf CX0 P w K mg base N "law" (defScope st) f cdv callerA [] s H (fun _ _ _ => False)).nox (defBody st) (tSeq (tAsg (tLst (tCons (tVar 0) (tCons (tC (.int 0)) (tCons (tC (.int 0)) (tCons (tC (.int z)) tNil))))) (gName 1)) t) ∧ SSt K (fun _ _ _ _ => False) (fun _ _ _ => False) t T ∧
        ∀ (sa : Addr) (M : Mem), M sa = some (.src false) → T (endD fun x _ => x = .d (.bool true)) (put (start0 N.length [.o (.ref a)]) 1 (some (.r sa))) M) :
    codeAny (model P w) callerA (.call (.ref f) ⟨[.ref a], []⟩) (CR CX0 [] P w H s (fun v _ => v = V.bl true) fun _ _ _ => False) s := by
  have KX : K.In s.heap := e0.mod.kin.keeps fun b o q => (e0.bs b o q).1
  refine run_at (k := k) (vs := [V.ref a]) (us := [Value.ref a]) F S hk e0 (hbi s [.ref a] KX rfl) (.cons rfl .nil) rfl (fun cdv hr => ?_)
  obtain ⟨t, T, h1, h2, h3⟩ := hb cdv rfl hr
  refine ⟨_, h1, ?_⟩
  have hst : L2.start N [V.ref a] = some (V.ref a) :: List.replicate (N.length - 1) none := rfl
  refine ⟨V.ref a, by rw [hst]; rfl, by show 4 ≤ sizeLine; decide, fun sa hsa => ?_⟩
  obtain ⟨F1, M1, r1, hM⟩ := src_new2 (K := K) hS hsa hlen z0 z1
  refine h2 F1 _ M1 _ _ _ _ r1 (fun F' H' M' σ ρ cls d x _ _ _ _ z => z) ?_ (h3 sa M1 hM) ?_
  · exact (rel_start (N := N) (K := K) (F := F1) (.cons (.o (V.ref a)) .nil)).set (.r sa) 1
  · exact ek_def (Q := fun v _ => v = V.bl true) fun v H2 F2 M2 x r g rx q => by
      subst q
      exact rx.bl
end
end Tl

set_option Elab.async false
set_option linter.all false
set_option maxRecDepth 100000
set_option maxHeartbeats 4000000
/-! Places in the walk behind, and the least number within each part. -/
namespace Tl
open PySem L2
mutual
def plb : PyData → List (List Nat)
  | .tuple [_, .tuple ks] => plbAll 0 ks ++ [[]]
  | _ => [[]]
def plbAll : Nat → List PyData → List (List Nat)
  | _, [] => []
  | i, k :: ks => (plb k).map (i :: ·) ++ plbAll (i + 1) ks
end
theorem plb_node (s : PyData) (ks : List PyData) : plb (.tuple [s, .tuple ks]) = plbAll 0 ks ++ [[]] := by rw [plb]
theorem plbAll_app : ∀ (i : Nat) (a b : List PyData), plbAll i (a ++ b) = plbAll i a ++ plbAll (i + a.length) b
  | i, [], b => by rw [plbAll]; rfl
  | i, k :: a, b => by
    rw [List.cons_append, plbAll, plbAll, plbAll_app (i + 1) a b, List.append_assoc, List.length_cons, show i + 1 + a.length = i + (a.length + 1) by omega]
theorem plbAll_one (i : Nat) (k : PyData) : plbAll i [k] = (plb k).map (i :: ·) := by rw [plbAll, plbAll, List.append_nil]
mutual
theorem plb_len : ∀ {n : Nat} {d : PyData}, TrT n d → (plb d).length = nn d
  | 0, _, h => h.elim
  | n + 1, d, h => by
    obtain ⟨s, ks, rfl, _, hk⟩ := h
    rw [plb_node, List.length_append, plbAll_len 0 hk, nn, List.length_singleton]
    omega
theorem plbAll_len : ∀ {n : Nat} {ks : List PyData} (i : Nat), (∀ k ∈ ks, TrT n k) → (plbAll i ks).length = nnAll ks
  | _, [], _, _ => by rw [plbAll, nnAll]; rfl
  | n, k :: ks, i, h => by rw [plbAll, List.length_append, List.length_map, plb_len (h k (.head _)), plbAll_len (i + 1) fun x hx => h x (.tail _ hx), nnAll]
end
/-- the law's rows: a place, its tag, the number at which its part begins -/
abbrev Wk := List Nat × PyData × Nat
mutual
def wk : PyData → List Nat → Nat → List Wk
  | .tuple [s, .tuple ks], q, n => wkAll ks q 0 n ++ [(q, s, n)]
  | d, q, n => [(q, d, n)]
def wkAll : List PyData → List Nat → Nat → Nat → List Wk
  | [], _, _, _ => []
  | k :: ks, q, i, n => wk k (q ++ [i]) n ++ wkAll ks q (i + 1) (n + nn k)
end
theorem wk_node (s : PyData) (ks : List PyData) (q : List Nat) (n : Nat) : wk (.tuple [s, .tuple ks]) q n = wkAll ks q 0 n ++ [(q, s, n)] := by rw [wk]
theorem wkAll_app : ∀ (a b : List PyData) (q : List Nat) (i n : Nat), wkAll (a ++ b) q i n = wkAll a q i n ++ wkAll b q (i + a.length) (n + nnAll a)
  | [], b, q, i, n => by rw [wkAll, nnAll]; rfl
  | k :: a, b, q, i, n => by
    rw [List.cons_append, wkAll, wkAll, wkAll_app a b, List.append_assoc, List.length_cons, nnAll, show i + 1 + a.length = i + (a.length + 1) by omega, show n + nn k + nnAll a = n + (nn k + nnAll a) by omega]
mutual
/-- the rows tell the places of the walk behind, and their numbers -/
theorem wk_ok : ∀ {n : Nat} {d : PyData} (q : List Nat) (m : Nat), TrT n d → (wk d q m).map (·.1) = (plb d).map (q ++ ·) ∧ ∀ (i : Nat) (r : List Nat) (x : Wk), (plb d)[i]? = some r → (wk d q m)[i]? = some x → ∃ e, sub d r = some e ∧ x.2.2 + nn e = m + i + 1 ∧ x.2.2 ≤ m + i ∧ ∃ ks', e = .tuple [x.2.1, .tuple ks']
  | 0, _, _, _, h => h.elim
  | n + 1, d, q, m, h => by
    obtain ⟨s, ks, rfl, hs, hk⟩ := h
    obtain ⟨h1, h2⟩ := wkAll_ok (n := n) q 0 m hk
    have hl := plbAll_len 0 hk
    have hl2 : (wkAll ks q 0 m).length = nnAll ks := by rw [← hl, ← List.length_map (f := (·.1)) (as := wkAll ks q 0 m), h1, List.length_map]
    rw [wk_node, plb_node]
    refine ⟨by rw [List.map_append, List.map_append, h1]; simp, fun i r x hr hx => ?_⟩
    by_cases c : i < nnAll ks
    · rw [List.getElem?_append_left (by omega)] at hr hx
      obtain ⟨j, r', k, rfl, hj, e, he, h3, h4⟩ := h2 i r x hr hx
      refine ⟨e, ?_, h3, h4⟩
      rw [sub_node, show ks[j]? = some k by rw [← hj]; rfl]
      exact he
    · have hi : i = nnAll ks := by
        have := (List.getElem?_eq_some_iff.mp hr).1
        rw [List.length_append, List.length_singleton] at this
        omega
      subst hi
      rw [List.getElem?_append_right (by omega), hl, Nat.sub_self] at hr
      rw [List.getElem?_append_right (by omega), hl2, Nat.sub_self] at hx
      cases hr
      cases hx
      exact ⟨_, sub_nil _, by rw [nn]; show m + (1 + nnAll ks) = _; omega, by show m ≤ _; omega, _, rfl⟩
theorem wkAll_ok : ∀ {n : Nat} {ks : List PyData} (q : List Nat) (j m : Nat), (∀ k ∈ ks, TrT n k) → (wkAll ks q j m).map (·.1) = (plbAll j ks).map (q ++ ·) ∧ ∀ (i : Nat) (r : List Nat) (x : Wk), (plbAll j ks)[i]? = some r → (wkAll ks q j m)[i]? = some x → ∃ (j' : Nat) (r' : List Nat) (k : PyData), r = j' :: r' ∧ ks[j' - j]? = some k ∧ ∃ e, sub k r' = some e ∧ x.2.2 + nn e = m + i + 1 ∧ x.2.2 ≤ m + i ∧ ∃ ks', e = .tuple [x.2.1, .tuple ks']
  | _, [], _, _, _, _ => by rw [plbAll, wkAll]; exact ⟨rfl, fun i r x h => by simp at h⟩
  | n, k :: ks, q, j, m, h => by
    obtain ⟨a1, a2⟩ := wk_ok (q ++ [j]) m (h k (.head _))
    obtain ⟨b1, b2⟩ := wkAll_ok (n := n) (ks := ks) q (j + 1) (m + nn k) fun x hx => h x (.tail _ hx)
    have hl := plb_len (h k (.head _))
    have hl2 : (wk k (q ++ [j]) m).length = nn k := by rw [← hl, ← List.length_map (f := (·.1)) (as := wk k (q ++ [j]) m), a1, List.length_map]
    rw [plbAll, wkAll]
    refine ⟨?_, fun i r x hr hx => ?_⟩
    · rw [List.map_append, List.map_append, a1, b1, List.map_map]
      congr 1
      refine List.map_congr_left fun r _ => ?_
      show q ++ [j] ++ r = q ++ j :: r
      rw [List.append_assoc]
      rfl
    · by_cases c : i < nn k
      · rw [List.getElem?_append_left (by rw [List.length_map]; omega), List.getElem?_map] at hr
        rw [List.getElem?_append_left (by omega)] at hx
        obtain ⟨r', hr', rfl⟩ := Option.map_eq_some_iff.mp hr
        obtain ⟨e, e1, e2, e3⟩ := a2 i r' x hr' hx
        exact ⟨j, r', k, rfl, by rw [Nat.sub_self]; rfl, e, e1, e2, e3⟩
      · rw [List.getElem?_append_right (by rw [List.length_map]; omega), List.length_map, hl] at hr
        rw [List.getElem?_append_right (by omega), hl2] at hx
        obtain ⟨j', r', k', rfl, hk', e, e1, e2, e3⟩ := b2 (i - nn k) r x hr hx
        have hj : j + 1 ≤ j' := by
          have := List.mem_of_getElem? hr
          clear b2 hx
          have go : ∀ (ks : List PyData) (j0 : Nat) (r : List Nat), r ∈ plbAll j0 ks → ∃ a b, r = a :: b ∧ j0 ≤ a := by
            intro ks
            induction ks with
            | nil => intro j0 r hr; rw [plbAll] at hr; cases hr
            | cons z zs ih =>
              intro j0 r hr
              rw [plbAll] at hr
              rcases List.mem_append.mp hr with hr | hr
              · obtain ⟨b, _, rfl⟩ := List.mem_map.mp hr
                exact ⟨j0, b, rfl, Nat.le_refl _⟩
              · obtain ⟨a, b, e, hab⟩ := ih (j0 + 1) r hr
                exact ⟨a, b, e, by omega⟩
          obtain ⟨a, b, e, hab⟩ := go ks (j + 1) _ this
          cases e
          exact hab
        exact ⟨j', r', k', rfl, by rw [show j' - j = (j' - (j + 1)) + 1 by omega]; exact hk', e, e1, by omega, by omega, e3.2⟩
end
/-- things that are drawn as they come -/
theorem lc_any {b : TDG} {keep : Mem → Prop} {te : TDE} {ρ : EnvD} {fin : List W → Mem → Prop} {M : Mem} (Pq : W → Prop) (hk : keep M) : ∀ (rows : List (List W)) (acc : List W), (∀ row ∈ rows, ∀ (Rk : W → Mem → Prop) (Rn : Mem → Prop), (∀ y, Pq y → Rk y M) → b row ρ M fun ρ1 M1 => IfB true (te ρ1 M1 Rk) (Rn M1)) → acc.length + rows.length ≤ sizeLine → (∀ ys, ys.length = rows.length → (∀ y ∈ ys, Pq y) → fin (acc ++ ys) M) → lcGo b keep yesT te ρ fin rows acc M
  | [], acc, hb, hl, h => by
    rw [lcGo]
    have := h [] rfl (fun y hy => by cases hy)
    rw [List.append_nil] at this
    exact ⟨hk, this⟩
  | row :: rows, acc, hb, hl, h => by
    rw [lcGo]
    rw [List.length_cons] at hl
    refine ⟨hk, hb row (.head _) _ _ fun y hy => ⟨by omega, lc_any Pq hk rows (acc ++ [y]) (fun x hx => hb x (.tail _ hx)) (by rw [List.length_append]; simp; omega) fun ys hy1 hy2 => ?_⟩⟩
    rw [List.append_assoc]
    exact h (y :: ys) (by rw [List.length_cons, List.length_cons, hy1]) (fun z hz => by
      rcases List.mem_cons.mp hz with rfl | hz
      · exact hy
      · exact hy2 z hz)
end Tl

set_option Elab.async false
set_option linter.all false
set_option maxRecDepth 100000
set_option maxHeartbeats 4000000
/-! Defs that are handed on by a name: a walk over some of them, a call of one of them. -/
namespace Tl
open PySem PySem.Spec PyProof.Rows L2
/-- a call through a local name: one of the defs of G -/
def tCallD (i : Nat) (G : Addr → Sp → Prop) (E : L2.St → XK) (t : TA) : TE := fun σ H Q => ∃ f sp, σ[i]? = some (some (.ref f)) ∧ G f sp ∧ t σ H fun vs H1 => sp vs H1 Q (E σ)
section
variable {X : Cx} {CX : CXT} {k i : Nat} {G : Addr → Sp → Prop} {E : L2.St → XK} {x : Str} {e : Expr} {es : List Expr} {t : TA} {p pos : Pos}
theorem pe_callD (hG : ∀ f sp, G f sp → ∃ fd ps, FnOk X.prog X.w X.K X.mg X.base CX k f fd ps sp ∧ PySem.W.keepIn X.K (.ref f) = true ∧ Binds X.K fd ps []) (hr : Room k X.A) (hx : ∀ σ, PassesAt CX X σ (E σ)) (hN : X.N[i]? = some x) (hv : Vis X.env.scope x) (ha : PA X (e :: es) t)
    (hd : (x == ("__debug__" : Str)) = false := by decide) (hcd : (x == ("__classdict__" : Str)) = false := by decide)
    (he : starEach (e :: es) X.env = (false, eval e X.env) :: starEach es X.env := by rfl) (hpl : (backTo pos (starEach es X.env)).any (·.1) = false := by rfl) : PE X (.Call (.Name x p) (e :: es) [] pos) (tCallD i G E t) := by
  refine ⟨fun pins s σ H Q I h => ?_⟩
  obtain ⟨f, sp, hs, hg, h⟩ := h
  obtain ⟨fd, ps, F, hk, hb⟩ := hG f sp hg
  refine wpAny_Call_Name_kw (thn ((pe_var (pos := p) (i := i) hN hv hd hcd).run pins s σ H (fun v H1 => v = .ref f ∧ H1 = H) I ⟨.ref f, hs, rfl, rfl⟩) fun u s1 ⟨v, H1, I1, r1, ev, eH⟩ => ?_)
  subst ev
  rw [eH] at I1
  cases r1
  refine PySem.W.callWith_K (h₀ := X.base) I.ok.mod.kin hk (thn (ha.run pos pins s1 σ H _ I1 h) fun us s2 ⟨vs, H2, I2, r, q⟩ => ⟨I2.kIn, ?_⟩) he hpl
  exact run_fnS F hr hb (hx σ) I2 r q
end
section
variable {K : PySem.W.Frag} {Wx : WX} {RE : REx}
@[reducible] def callD (RE : REx) (G : Addr → TF → Prop) (i : Nat) (T : TDA) : TDE := fun ρ M R => match slot ρ i with | some (.o (.ref f)) => ∃ tf, G f tf ∧ T ρ M fun xs M1 => tf xs M1 R fun x M' => RE x ρ M' | _ => False
theorem se_callD {n i : Nat} {G : Addr → TF → Prop} {t : TA} {T : TDA} (h : SAn K Wx RE n t T) : SE K Wx RE (tCallD i (fun f sp => ∃ tf, G f tf ∧ sp = spD K n tf) (WE Wx) t) (callD RE G i T) := fun F H M σ ρ R Q hr hx hs ht k => by
  unfold callD at ht
  split at ht
  · rename_i f c
    obtain ⟨tf, hg, ht⟩ := ht
    obtain ⟨v, h1, h2⟩ := hs.at_ i _ c
    cases h2
    exact ⟨f, _, h1, ⟨tf, hg, rfl⟩, h F H M σ ρ _ _ hr hx hs ht fun vs H1 F1 M1 xs r1 g1 rxs hl h1 =>
      ⟨F1, M1, xs, R, _, r1, rxs, hl, h1, fun w H2 F2 M2 z r2 g2 rz hz => k w H2 F2 M2 z r2 (g1.trans g2) rz hz, fun cls d H' F' M' x r2 g2 xr z => hx F' H' M' σ ρ cls d x (g1.trans g2) r2 (hs.mono (g1.trans g2).ff) xr z⟩⟩
  · exact ht.elim
/-- over a tuple that is written there, of whatever things -/
@[reducible] def itTupO (T : TDA) : TDI := fun ρ M R => T ρ M fun xs M1 => R (rows1 xs) any1 M1
theorem si_tupO {n : Nat} {t : TA} {T : TDA} (h : SAn K Wx RE n t T) (hn : n ≤ 1000 := by decide) : SI K Wx RE (iTup K (tTup t)) false (itTupO T) := fun F H M σ ρ R Q hr hx hs ht k =>
  h F H M σ ρ _ _ hr hx hs ht fun vs H1 F1 M1 xs r1 g1 rxs hl h1 => by
    refine ⟨by rw [rxs.len, hl]; exact sz1000 hn, fun p hp => ?_⟩
    obtain ⟨r2, g2⟩ := r1.fresh (u := .tup vs) hp
    have sq : SqT K (upd F1 p (.tup vs)) p vs := .inl (.inl upd_same)
    refine ⟨p, rfl, ⟨vs, same_t r2.fh sq⟩, k _ _ _ _ _ _ r2 (g1.trans g2) ?_ h1⟩
    refine ItOk.of (walk_tup (K := K) (a := p) (xs := vs)) (by unfold rows1; rw [List.length_map, rxs.len]) (fun F2 H2 M2 r2 g2 _ => same_t (g2.ff.trans r2.fh) sq) (fun i x H2 H3 F2 M2 row hrow r3 g3 _ y => ?_)
    obtain ⟨w, hw, rfl⟩ := rows1_get hrow
    obtain ⟨v, hv, rv⟩ := rxs.got hw
    obtain ⟨rfl, hy⟩ := y
    rw [hv] at hy
    cases hy
    exact ⟨_, rfl, rfl, rv.mono (g2.ff.trans g3.ff)⟩
end
end Tl

set_option Elab.async false
set_option linter.all false
set_option maxRecDepth 100000
set_option maxHeartbeats 4000000
/-! list.pop() and min of a list. -/
namespace Tl
open PySem L2
section
variable {K : PySem.W.Frag} {Wx : WX} {RE : REx}
/-- list.pop() -/
@[reducible] def popT (T : TDE) : TDE := fun ρ M R => T ρ M fun x M1 => gR x fun a => ∃ ws y, M1 a = some (.lst (ws ++ [y])) ∧ R y (mset M1 a (.lst ws))
theorem RWs.split1 {F : Hp} : ∀ {ws : List W} {y : W} {vs : List V}, RWs K F vs (ws ++ [y]) → ∃ us v, vs = us ++ [v] ∧ RWs K F us ws ∧ RW K F v y
  | [], _, _, h => by
    cases h with
    | cons a b => cases b; exact ⟨[], _, rfl, .nil, a⟩
  | w :: ws, _, _, h => by
    cases h with
    | cons a b =>
      obtain ⟨us, v, rfl, h1, h2⟩ := RWs.split1 b
      exact ⟨_ :: us, v, rfl, .cons a h1, h2⟩
theorem se_pop {to : TE} {T : TDE} (h1 : SE K Wx RE to T) : SE K Wx RE (tBM0 K "list" rPop to) (popT T) := fun F H M σ ρ R Q hr hx hs ht k =>
  h1 F H M σ ρ _ _ hr hx hs ht fun v H1 F1 M1 x r1 g1 rx h2 => by
    obtain ⟨a, rfl, ws, y, h3, h4⟩ := gR_of h2
    obtain ⟨us, h5, h6⟩ := r1.lst h3
    obtain ⟨us, u, rfl, h7, h8⟩ := RWs.split1 h6
    rw [rx.ref]
    refine ⟨?_, a, _, u, rfl, rfl, h5, by simp, ?_⟩
    · exact .inl ⟨rfl, _, SqL.of h5⟩
    · rw [List.dropLast_concat]
      obtain ⟨r2, g2⟩ := r1.put (u := .lst us) (o := .lst ws) h3 ⟨_, rfl, h7⟩
      exact k _ _ _ _ _ r2 (g1.trans g2) h8 h4
theorem forGo_c {b : TDG} {keep : Mem → Prop} {body : TDS} {D : EndD} {row : List W} {rest : List (List W)} {ρ : EnvD} {M : Mem} (h : keep M) (q : b row ρ M fun ρ1 M1 => body ⟨forGo b keep body D rest, D.rt, D.nx, forGo b keep body D rest⟩ ρ1 M1) : forGo b keep body D (row :: rest) ρ M := by rw [forGo]; exact ⟨h, q⟩
theorem forGo_n {b : TDG} {keep : Mem → Prop} {body : TDS} {D : EndD} {ρ : EnvD} {M : Mem} (h : keep M) (q : D.nx ρ M) : forGo b keep body D [] ρ M := by rw [forGo]; exact ⟨h, q⟩
/-- the least of some numbers -/
def mnI : List Int → Int
  | [] => 0
  | [x] => x
  | x :: r => min x (mnI r)
theorem mnI_mem : ∀ {l : List Int}, l ≠ [] → mnI l ∈ l ∧ ∀ y ∈ l, mnI l ≤ y
  | [], h => absurd rfl h
  | [x], _ => ⟨List.mem_singleton.mpr rfl, fun y hy => by rw [List.mem_singleton.mp hy]; exact Int.le_refl _⟩
  | x :: z :: r, _ => by
    obtain ⟨h1, h2⟩ := mnI_mem (l := z :: r) (by simp)
    have e : mnI (x :: z :: r) = min x (mnI (z :: r)) := rfl
    rw [e]
    constructor
    · rcases Int.le_total x (mnI (z :: r)) with c | c
      · rw [Int.min_eq_left c]; exact List.mem_cons_self
      · rw [Int.min_eq_right c]; exact List.mem_cons_of_mem _ h1
    · intro y hy
      rcases List.mem_cons.mp hy with rfl | hy
      · exact Int.min_le_left _ _
      · exact Int.le_trans (Int.min_le_right _ _) (h2 y hy)
theorem mnI_eq {l : List Int} {m : Int} (h1 : m ∈ l) (h2 : ∀ y ∈ l, m ≤ y) : mnI l = m := by
  obtain ⟨a, b⟩ := mnI_mem (l := l) (List.ne_nil_of_mem h1)
  exact Int.le_antisymm (b _ h1) (h2 _ a)
@[reducible] def fMin : FL := fun xs M R => g1 xs fun x => gW M x fun ws => gIs ws fun bs => 0 < bs.length ∧ R (.d (.int (mnI bs))) M
theorem sc_min : SC K (rMin K) fMin := fun F H M vs xs R Q hr rx hf k => by
  obtain ⟨x, rfl, h1⟩ := g1_of hf
  obtain ⟨v, rfl, r⟩ := rx.one
  obtain ⟨a, us, ws, rfl, h2, h3, h4⟩ := gW_of hr r h1
  obtain ⟨bs, rfl, h0, h5⟩ := gIs_of h4
  refine ⟨a, bs, rfl, ?_, h0, fun m m1 m2 => ?_⟩
  · rw [← rws_int h3]
    exact SqL.of h2
  · rw [mnI_eq m1 m2] at h5
    exact k _ H F M _ hr .refl (.d (.int _)) h5
end
end Tl

set_option Elab.async false
set_option linter.all false
set_option maxRecDepth 100000
set_option maxHeartbeats 4000000
/-! A list beside the empty list. -/
namespace Tl
open PySem L2
section
variable {X : Cx}
def rEqN : R2 := fun x y H Q => ∃ a b xs, x = .ref a ∧ y = .ref b ∧ H a = some (.lst xs) ∧ H b = some (.lst []) ∧ Q (.bl xs.isEmpty) H
def rNeN : R2 := fun x y H Q => ∃ a b xs, x = .ref a ∧ y = .ref b ∧ H a = some (.lst xs) ∧ H b = some (.lst []) ∧ Q (.bl (!xs.isEmpty)) H
theorem op_eqN (hu : X.A.units + 64 < cLine) : OpR X (compareOp .Eq) rEqN := by
  intro pins s σ H x y v u Q I rx ry h
  obtain ⟨a, b, xs, rfl, rfl, ea, eb, q⟩ := h
  obtain rfl : v = Value.ref a := rx
  obtain rfl : u = Value.ref b := ry
  obtain ⟨za, ia, na, ra, la, ha⟩ := I.lstM ea
  obtain ⟨zb, ib, nb, rb, lb, hb⟩ := I.lstM eb
  have e0 : ib = [] := by cases rb; rfl
  subst e0
  have hl : s.heap.IsList a ia.toArray := ⟨_, ha, rfl, na, rfl⟩
  have hl2 : s.heap.IsList b #[] := ⟨_, hb, rfl, nb, rfl⟩
  cases xs with
  | nil =>
    have e1 : ia = [] := by cases ra; rfl
    subst e1
    exact SeqAt.eq_listAt (e := fun _ => true) hl hl2 rfl (by omega) (fun j h1 _ => absurd h1 (by simp)) ⟨.bl _, H, I, rfl, q⟩
  | cons x0 r0 =>
    refine SeqAt.eq_list_lengthsAt hl hl2 ?_ (by omega) ⟨.bl _, H, I, rfl, q⟩
    rw [List.size_toArray, ← la, List.length_cons]
    simp
theorem op_neN (hu : X.A.units + 64 < cLine) : OpR X (compareOp .NotEq) rNeN := by
  intro pins s σ H x y v u Q I rx ry h
  obtain ⟨a, b, xs, rfl, rfl, ea, eb, q⟩ := h
  obtain rfl : v = Value.ref a := rx
  obtain rfl : u = Value.ref b := ry
  obtain ⟨za, ia, na, ra, la, ha⟩ := I.lstM ea
  obtain ⟨zb, ib, nb, rb, lb, hb⟩ := I.lstM eb
  have e0 : ib = [] := by cases rb; rfl
  subst e0
  have hl : s.heap.IsList a ia.toArray := ⟨_, ha, rfl, na, rfl⟩
  have hl2 : s.heap.IsList b #[] := ⟨_, hb, rfl, nb, rfl⟩
  cases xs with
  | nil =>
    have e1 : ia = [] := by cases ra; rfl
    subst e1
    exact SeqAt.RcNeAt.lists (e := fun _ => true) hl hl2 rfl (by omega) (fun j h1 _ => absurd h1 (by simp)) X.prog X.w _ _ ⟨.bl _, H, I, rfl, q⟩
  | cons x0 r0 =>
    refine SeqAt.RcNeAt.lists_lengths hl hl2 ?_ (by omega) X.prog X.w _ _ ⟨.bl _, H, I, rfl, q⟩
    rw [List.size_toArray, ← la, List.length_cons]
    simp
end
section
variable {K : PySem.W.Frag}
/-- a list, whatever is in it, beside [] -/
@[reducible] def fEqN (neg : Bool) : F2 := fun x y M R => y = .d (.list []) ∧ gW M x fun ws => R (.d (.bool (ng neg ws.isEmpty))) M
theorem rws_empty {F : Hp} {vs : List V} {ws : List W} (h : RWs K F vs ws) : vs.isEmpty = ws.isEmpty := by cases h <;> rfl
theorem so_eqN : SO K rEqN (fEqN false) := fun F H M v u x y R Q hr rx ry hf k => by
  obtain ⟨rfl, h1⟩ := hf
  obtain ⟨a, vs, ws, rfl, h2, h3, h4⟩ := gW_of hr rx h1
  obtain ⟨b, us, rfl, h5, h6⟩ := ry.lst
  cases h6
  refine ⟨a, b, vs, rfl, rfl, h2, hr.fh _ _ h5, ?_⟩
  rw [rws_empty h3]
  exact k _ H F M _ hr .refl (.d (.bl _)) h4
theorem so_neN : SO K rNeN (fEqN true) := fun F H M v u x y R Q hr rx ry hf k => by
  obtain ⟨rfl, h1⟩ := hf
  obtain ⟨a, vs, ws, rfl, h2, h3, h4⟩ := gW_of hr rx h1
  obtain ⟨b, us, rfl, h5, h6⟩ := ry.lst
  cases h6
  refine ⟨a, b, vs, rfl, rfl, h2, hr.fh _ _ h5, ?_⟩
  rw [rws_empty h3]
  exact k _ H F M _ hr .refl (.d (.bl _)) h4
@[reducible] def bTup4 (i j k l : Nat) : TDG := fun row ρ M R => match row with | [w] => gT w fun ds => (match ds with | [a, b, c, d] => R (put (put (put (put ρ i (some (.d a))) j (some (.d b))) k (some (.d c))) l (some (.d d))) M | _ => False) | _ => False
theorem sg_tup4 {i j k l : Nat} : SG K (gTup K 4 (gCons (gName i) (gCons (gName j) (gCons (gName k) (gCons (gName l) gNil))))) false [i, j, k, l] (bTup4 i j k l) := fun F H M x H' row σ ρ R Q hr hy hs hb kk => by
  obtain ⟨w, rfl, rfl, rx⟩ := hy
  obtain ⟨ds, rfl, h1⟩ := gT_of hb
  obtain ⟨a, xs, rfl, h2, h3⟩ := rx.tup
  split at h1
  · rename_i c d e f
    cases h3 with
    | cons q1 h3 =>
    cases h3 with
    | cons q2 h3 =>
    cases h3 with
    | cons q3 h3 =>
    cases h3 with
    | cons q4 h3 =>
    cases h3
    refine ⟨a, _, rfl, same_t hr.fh h2, rfl, _, _, rfl, _, _, rfl, _, _, rfl, _, [], rfl, rfl, ?_⟩
    refine kk _ _ F M _ hr .refl ((((hs.set (.d q1) i).set (.d q2) j).set (.d q3) k).set (.d q4) l) ?_ h1
    rw [wipe_set (by simp), wipe_set (by simp), wipe_set (by simp), wipe_set (by simp)]
  · exact h1.elim
end
end Tl

set_option Elab.async false
set_option linter.all false
set_option maxRecDepth 100000
set_option maxHeartbeats 4000000
/-! Objects of own classes: fields, methods, making one. -/
namespace Tl
open PySem PySem.Spec PyProof.Rows L2
/-! ### fields -/
def putW (f : Str) (v : W) : List (Str × W) → List (Str × W)
  | [] => [(f, v)]
  | (g, x) :: r => if g = f then (g, v) :: r else (g, x) :: putW f v r
inductive gPut (f : Str) (v : W) (fs : List (Str × W)) (k : List (Str × W) → Prop) : Prop where
  | mk (q : k (putW f v fs))
theorem gPut_n {f : Str} {v : W} {k : List (Str × W) → Prop} (q : k [(f, v)]) : gPut f v [] k := .mk q
theorem gPut_0 {f : Str} {v x : W} {r : List (Str × W)} {k : List (Str × W) → Prop} (q : k ((f, v) :: r)) : gPut f v ((f, x) :: r) k := .mk (by rw [putW, if_pos rfl]; exact q)
theorem gPut_s {f g : Str} {v x : W} {r : List (Str × W)} {k : List (Str × W) → Prop} (h : (g == f) = false) (q : gPut f v r fun r' => k ((g, x) :: r')) : gPut f v ((g, x) :: r) k := by
  obtain ⟨q⟩ := q
  exact .mk (by rw [putW, if_neg (fun z => by rw [z] at h; simp at h)]; exact q)
theorem lk_0 {f : Str} {w : W} {r : List (Str × W)} {k : W → Prop} (q : k w) : gO (List.lookup f ((f, w) :: r)) k := .mk w (by rw [List.lookup, beq_self_eq_true]) q
theorem lk_s {f g : Str} {w : W} {r : List (Str × W)} {k : W → Prop} (h : (f == g) = false) (q : gO (List.lookup f r) k) : gO (List.lookup f ((g, w) :: r)) k := by
  obtain ⟨a, e, q⟩ := gO_of q
  exact .mk a (by rw [List.lookup, h]; exact e) q
theorem nk_n {f : Str} : List.lookup f ([] : List (Str × W)) = none := rfl
theorem nk_c {f g : Str} {w : W} {r : List (Str × W)} (h : (f == g) = false) (q : List.lookup f r = none) : List.lookup f ((g, w) :: r) = none := by rw [List.lookup, h]; exact q
theorem exI {o : Option MO} {C dx : Addr} {fs : List (Str × W)} {k : Addr → Addr → List (Str × W) → Prop} (h : o = some (.ins C dx fs)) (q : k C dx fs) : ∃ C dx fs, o = some (.ins C dx fs) ∧ k C dx fs := ⟨C, dx, fs, h, q⟩
theorem exI2 {o : Option MO} {C dx : Addr} {fs : List (Str × W)} {k : Addr → List (Str × W) → Prop} (h : o = some (.ins C dx fs)) (q : k dx fs) : ∃ dx fs, o = some (.ins C dx fs) ∧ k dx fs := ⟨dx, fs, h, q⟩
section
variable {K : PySem.W.Frag} {F H : Hp} {M : Mem}
theorem prR_lookup {F : Hp} : ∀ {fv : List (Str × V)} {fw : List (Str × W)} {f : Str} {w : W}, PrR K F fv fw → fw.lookup f = some w → ∃ v, fv.lookup f = some v ∧ RW K F v w
  | [], [], _, _, _, h => by cases h
  | [], _ :: _, _, _, h, _ => by have := h.1; simp at this
  | _ :: _, [], _, _, h, _ => by have := h.1; simp at this
  | (a, x) :: fv, (b, y) :: fw, f, w, h, e => by
    obtain ⟨h1, h2⟩ := h
    simp only [List.map_cons, List.cons.injEq] at h1
    obtain ⟨e1, e2⟩ := h1
    subst e1
    cases h2 with
    | cons r1 r2 =>
      rw [List.lookup] at e ⊢
      cases c : f == a with
      | true => rw [c] at e; cases e; exact ⟨x, rfl, r1⟩
      | false => rw [c] at e; exact prR_lookup ⟨e2, r2⟩ e
theorem prR_none {F : Hp} : ∀ {fv : List (Str × V)} {fw : List (Str × W)} {f : Str}, PrR K F fv fw → fw.lookup f = none → fv.lookup f = none
  | [], _, _, _, _ => rfl
  | _ :: _, [], _, h, _ => by have := h.1; simp at this
  | (a, x) :: fv, (b, y) :: fw, f, h, e => by
    obtain ⟨h1, h2⟩ := h
    simp only [List.map_cons, List.cons.injEq] at h1
    obtain ⟨e1, e2⟩ := h1
    subst e1
    cases h2 with
    | cons r1 r2 =>
      rw [List.lookup] at e ⊢
      cases c : f == a with
      | true => rw [c] at e; cases e
      | false => rw [c] at e; exact prR_none ⟨e2, r2⟩ e
theorem prR_put {F : Hp} {f : Str} {v : V} {w : W} (r : RW K F v w) : ∀ {fv : List (Str × V)} {fw : List (Str × W)}, PrR K F fv fw → PrR K F (putF f v fv) (putW f w fw)
  | [], [], _ => ⟨rfl, .cons r .nil⟩
  | [], _ :: _, h => by have := h.1; simp at this
  | _ :: _, [], h => by have := h.1; simp at this
  | (a, x) :: fv, (b, y) :: fw, h => by
    obtain ⟨h1, h2⟩ := h
    simp only [List.map_cons, List.cons.injEq] at h1
    obtain ⟨e1, e2⟩ := h1
    subst e1
    cases h2 with
    | cons r1 r2 =>
      rw [putF, putW]
      by_cases c : a = f
      · rw [if_pos c, if_pos c]
        exact ⟨by simp [e2], .cons r r2⟩
      · rw [if_neg c, if_neg c]
        obtain ⟨q1, q2⟩ := prR_put r (fv := fv) (fw := fw) ⟨e2, r2⟩
        exact ⟨by simp [q1], .cons r1 q2⟩
theorem PrR.len {F : Hp} {fv : List (Str × V)} {fw : List (Str × W)} (h : PrR K F fv fw) : fv.length = fw.length := by
  have := congrArg List.length h.1
  simpa using this
theorem Rl.ins (h : Rl K F H M) {a C dx : Addr} {fw : List (Str × W)} (e : M a = some (.ins C dx fw)) : ∃ fv, H a = some (.ins C dx fv) ∧ PrR K F fv fw := by
  obtain ⟨u, h1, fv, rfl, h2⟩ := h.at_ a _ e
  exact ⟨fv, h1, h2⟩
end
section
variable {K : PySem.W.Frag} {Wx : WX} {RE : REx}
@[reducible] def fldT (K : PySem.W.Frag) (f : Str) (T : TDE) : TDE := fun ρ M R => T ρ M fun x M1 => gR x fun a => ∃ C dx fs, M1 a = some (.ins C dx fs) ∧ (L2.Cls K C ∧ NoAttr K C f) ∧ gO (List.lookup f fs) fun w => R w M1
theorem se_fld {f : Str} {t : TE} {T : TDE} (h : SE K Wx RE t T) : SE K Wx RE (tFld K t f) (fldT K f T) := fun F H M σ ρ R Q hr hx hs ht k =>
  h F H M σ ρ _ _ hr hx hs ht fun v H1 F1 M1 x r1 g1 rx h1 => by
    obtain ⟨a, rfl, C, dx, fs, hM, ⟨hc, hn⟩, h2⟩ := gR_of h1
    obtain ⟨w, hl, h3⟩ := gO_of h2
    obtain ⟨fv, e1, e2⟩ := r1.ins hM
    obtain ⟨u, e3, e4⟩ := prR_lookup e2 hl
    exact ⟨a, C, dx, fv, u, rx.ref, e1, hc, hn, e3, k u H1 F1 M1 w r1 g1 e4 h3⟩
@[reducible] def setF (K : PySem.W.Frag) (f : Str) (T O : TDE) : TDS := fun D ρ M => T ρ M fun y M1 => O ρ M1 fun x M2 => gR x fun a => ∃ C dx fs, M2 a = some (.ins C dx fs) ∧ (L2.Cls K C ∧ NoAttr K C f ∧ fs.length < 1000) ∧ gPut f y fs fun fs' => D.nx ρ (mset M2 a (.ins C dx fs'))
theorem ss_fld {f : Str} {tv to : TE} {T O : TDE} (h1 : SE K Wx RE tv T) (h2 : SE K Wx RE to O) : SSt K Wx RE (sFld K to tv f) (setF K f T O) := fun F H M σ ρ D E hr hx hs ht k =>
  h1 F H M σ ρ _ _ hr hx hs ht fun v H1 F1 M1 y r1 g1 ry q1 => h2 F1 H1 M1 σ ρ _ _ r1 (hx.mono g1) (hs.mono g1.ff) q1 fun o H2 F2 M2 x r2 g2 rx q2 => by
    obtain ⟨a, rfl, C, dx, fs, hM, ⟨hc, hn, hl⟩, ⟨q3⟩⟩ := gR_of q2
    obtain ⟨fv, e1, e2⟩ := r2.ins hM
    have e3 := prR_put (f := f) (ry.mono g2.ff) e2
    obtain ⟨r3, g3⟩ := r2.put (u := .ins C dx (putF f v fv)) (o := .ins C dx (putW f y fs)) hM ⟨_, rfl, e3⟩
    have g := (g1.trans g2).trans g3
    exact ⟨a, C, dx, fv, rx.ref, e1, hc, hn, by rw [e2.len]; exact hl, k.nx σ _ _ _ ρ r3 g (hs.mono g.ff) q3⟩
/-! ### methods -/
@[reducible] def methT (C : Addr) (m : Str) (f : TF) (T : TDE) (U : TDA) : TDE := fun ρ M R => T ρ M fun x M1 => gR x fun a => ∃ dx fs, M1 a = some (.ins C dx fs) ∧ List.lookup m fs = none ∧ U ρ M1 fun xs M2 => f (.r a :: xs) M2 R fun _ _ => False
@[reducible] def methX (RE : REx) (C : Addr) (m : Str) (f : TF) (T : TDE) (U : TDA) : TDE := fun ρ M R => T ρ M fun x M1 => gR x fun a => ∃ dx fs, M1 a = some (.ins C dx fs) ∧ List.lookup m fs = none ∧ U ρ M1 fun xs M2 => f (.r a :: xs) M2 R fun x M' => RE x ρ M'
theorem se_meth {C : Addr} {m : Str} {n : Nat} {f : TF} {E : XK} {to : TE} {t : TA} {T : TDE} {U : TDA} (h1 : SE K Wx RE to T) (h2 : SAn K Wx RE n t U) : SE K Wx RE (tMeth C m (spD K (n + 1) f) [] E to t) (methT C m f T U) := fun F H M σ ρ R Q hr hx hs ht k =>
  h1 F H M σ ρ _ _ hr hx hs ht fun v H1 F1 M1 x r1 g1 rx q1 => by
    obtain ⟨a, rfl, dx, fs, hM, hl, q2⟩ := gR_of q1
    obtain ⟨fv, e1, e2⟩ := r1.ins hM
    refine ⟨a, dx, fv, rx.ref, e1, prR_none e2 hl, h2 F1 H1 M1 σ ρ _ _ r1 (hx.mono g1) (hs.mono g1.ff) q2 fun vs H2 F2 M2 xs r2 g2 rxs hl2 q3 => ?_⟩
    show spD K (n + 1) f (v :: (vs ++ [])) H2 Q E
    rw [List.append_nil]
    exact ⟨F2, M2, _, R, _, r2, .cons (rx.mono g2.ff) rxs, by rw [List.length_cons, hl2], q3, fun w H3 F3 M3 z r3 g3 rz hz => k w H3 F3 M3 z r3 ((g1.trans g2).trans g3) rz hz, fun cls d H' F' M' x _ _ _ z => z.elim⟩
/-- a method that may raise -/
def tMethS (C : Addr) (m : Str) (sp : Sp) (E : L2.St → XK) (ta : TE) (t : TA) : TE := fun σ H Q => ta σ H fun x H1 => ∃ a dx fs, x = .ref a ∧ H1 a = some (.ins C dx fs) ∧ fs.lookup m = none ∧ t σ H1 fun vs H2 => sp (x :: vs) H2 Q (E σ)
theorem se_methX {C : Addr} {m : Str} {n : Nat} {f : TF} {to : TE} {t : TA} {T : TDE} {U : TDA} (h1 : SE K Wx RE to T) (h2 : SAn K Wx RE n t U) : SE K Wx RE (tMethS C m (spD K (n + 1) f) (WE Wx) to t) (methX RE C m f T U) := fun F H M σ ρ R Q hr hx hs ht k =>
  h1 F H M σ ρ _ _ hr hx hs ht fun v H1 F1 M1 x r1 g1 rx q1 => by
    obtain ⟨a, rfl, dx, fs, hM, hl, q2⟩ := gR_of q1
    obtain ⟨fv, e1, e2⟩ := r1.ins hM
    refine ⟨a, dx, fv, rx.ref, e1, prR_none e2 hl, h2 F1 H1 M1 σ ρ _ _ r1 (hx.mono g1) (hs.mono g1.ff) q2 fun vs H2 F2 M2 xs r2 g2 rxs hl2 q3 => ?_⟩
    exact ⟨F2, M2, _, R, _, r2, .cons (rx.mono g2.ff) rxs, by rw [List.length_cons, hl2], q3, fun w H3 F3 M3 z r3 g3 rz hz => k w H3 F3 M3 z r3 ((g1.trans g2).trans g3) rz hz, fun cls d H' F' M' x r3 g3 xr z => hx F' H' M' σ ρ cls d x ((g1.trans g2).trans g3) r3 (hs.mono ((g1.trans g2).trans g3).ff) xr z⟩
/-- a, b = x, y -/
@[reducible] def parT (i j : Nat) (T : TDA) : TDS := fun D ρ M => T ρ M fun xs M1 => g2 xs fun x y => D.nx (put (put ρ i (some x)) j (some y)) M1
theorem ss_par {i j n : Nat} {t : TA} {T : TDA} (h : SAn K Wx RE n t T) : SSt K Wx RE (tPar i j t) (parT i j T) := fun F H M σ ρ D E hr hx hs ht k =>
  h F H M σ ρ _ _ hr hx hs ht fun vs H1 F1 M1 xs r1 g1 rxs hl q1 => by
    obtain ⟨x, y, rfl, q2⟩ := g2_of q1
    obtain ⟨v, u, rfl, rv, ru⟩ := rxs.two
    exact ⟨v, u, rfl, k.nx _ H1 F1 M1 _ r1 g1 (((hs.mono g1.ff).set rv i).set ru j) q2⟩
/-! ### making one -/
@[reducible] def makeT (C : Addr) (f : TF) (U : TDA) : TDE := fun ρ M R => U ρ M fun xs M1 => ∀ a dx, M1 a = none → f (.r a :: xs) (mset M1 a (.ins C dx [])) (fun v M2 => v = .d .none ∧ R (.r a) M2) fun _ _ => False
@[reducible] def makeX (RE : REx) (C : Addr) (f : TF) (U : TDA) : TDE := fun ρ M R => U ρ M fun xs M1 => ∀ a dx, M1 a = none → f (.r a :: xs) (mset M1 a (.ins C dx [])) (fun v M2 => v = .d .none ∧ R (.r a) M2) fun x M' => RE x ρ M'
theorem Rl.made {F H : Hp} {M : Mem} (h : Rl K F H M) {x dx C : Addr} (e1 : H x = none) (e2 : H dx = none) (hne : dx ≠ x) : Rl K F (upd (upd H dx (.own x)) x (.ins C dx [])) (mset M x (.ins C dx [])) ∧ Gr F H M F (upd (upd H dx (.own x)) x (.ins C dx [])) (mset M x (.ins C dx [])) := by
  obtain ⟨r1, g1⟩ := h.same (same_new (o := .own x) e2)
  have e3 : upd H dx (.own x) x = none := by rw [upd_ne (fun z => hne z.symm)]; exact e1
  obtain ⟨r2, g2⟩ := r1.born (u := .ins C dx []) (o := .ins C dx []) e3 ⟨[], rfl, rfl, .nil⟩
  exact ⟨r2, g1.trans g2⟩
theorem se_make {C : Addr} {n : Nat} {f : TF} {E : XK} {t : TA} {U : TDA} (h : SAn K Wx RE n t U) : SE K Wx RE (tMake C (spD K (n + 1) f) [] E t) (makeT C f U) := fun F H M σ ρ R Q hr hx hs ht k =>
  h F H M σ ρ _ _ hr hx hs ht fun vs H1 F1 M1 xs r1 g1 rxs hl q1 x dx e1 e2 hne => by
    obtain ⟨r2, g2⟩ := r1.made (C := C) e1 e2 hne
    show spD K (n + 1) f (.ref x :: (vs ++ [])) _ _ E
    rw [List.append_nil]
    refine ⟨F1, _, _, _, _, r2, .cons (.r x) (rxs.mono g2.ff), by rw [List.length_cons, hl], q1 x dx (r1.new e1), fun w H3 F3 M3 z r3 g3 rz hz => ?_, fun cls d H' F' M' x _ _ _ z => z.elim⟩
    obtain ⟨rfl, hz⟩ := hz
    exact ⟨rz.non, k _ H3 F3 M3 _ r3 ((g1.trans g2).trans g3) (.r x) hz⟩
def tMakeS (C : Addr) (sp : Sp) (E : L2.St → XK) (t : TA) : TE := fun σ H Q => t σ H fun vs H1 => ∀ x dx, H1 x = none → H1 dx = none → dx ≠ x →
  sp (.ref x :: vs) (upd (upd H1 dx (.own x)) x (.ins C dx [])) (fun v H2 => v = .non ∧ Q (.ref x) H2) (E σ)
theorem se_makeX {C : Addr} {n : Nat} {f : TF} {t : TA} {U : TDA} (h : SAn K Wx RE n t U) : SE K Wx RE (tMakeS C (spD K (n + 1) f) (WE Wx) t) (makeX RE C f U) := fun F H M σ ρ R Q hr hx hs ht k =>
  h F H M σ ρ _ _ hr hx hs ht fun vs H1 F1 M1 xs r1 g1 rxs hl q1 x dx e1 e2 hne => by
    obtain ⟨r2, g2⟩ := r1.made (C := C) e1 e2 hne
    refine ⟨F1, _, _, _, _, r2, .cons (.r x) (rxs.mono g2.ff), by rw [List.length_cons, hl], q1 x dx (r1.new e1), fun w H3 F3 M3 z r3 g3 rz hz => ?_, fun cls d H' F' M' y r3 g3 xr z => hx F' H' M' σ ρ cls d y ((g1.trans g2).trans g3) r3 (hs.mono ((g1.trans g2).trans g3).ff) xr z⟩
    obtain ⟨rfl, hz⟩ := hz
    exact ⟨rz.non, k _ H3 F3 M3 _ r3 ((g1.trans g2).trans g3) (.r x) hz⟩
end
section
variable {X : Cx} {CX : CXT} {k : Nat} {f C : Addr} {fd : FuncData} {ps : List Str} {sp : Sp} {E : L2.St → XK} {x m : Str} {p pos apos : Pos} {e o : Expr} {es : List Expr} {ta : TE} {t : TA}
theorem pe_methE {pl : Sem Bool} (he : PE X o ta) (c : L2.Cls X.K C) (hm : Meth X.K C m f) (F : FnOk X.prog X.w X.K X.mg X.base CX k f fd ps sp) (hr : Room k X.A) (hb : Binds X.K fd ps []) (hx : ∀ σ, PassesAt CX X σ (E σ)) (ha : PA X (e :: es) t)
    (hst : starEach (e :: es) X.env = (false, eval e X.env) :: starEach es X.env := by rfl) (hpl : (backTo pos (starEach es X.env)).any (·.1) = false := by rfl)
    (ht : eval (.Call (.Attribute o m apos) (e :: es) [] pos) X.env = (do
      let ov ← eval o X.env
      standAt apos.atName
      let (f, first) ← holding [ov] (getMethod ov m pl)
      callWith pos f first (backTo pos (starEach (e :: es) X.env)) (backToKw pos (keywordEach [] X.env))) := by rfl) :
    PE X (.Call (.Attribute o m apos) (e :: es) [] pos) (tMethS C m sp E ta t) := by
  refine ⟨fun pins s σ H Q I h => ?_⟩
  refine PySem.W.methodCall_KW (pl := pl) (thn (he.run pins s σ H _ I h) fun u s1 ⟨x, H1, I1, rx, a, dx, fs, ex, ea, l, q⟩ => ?_) ht
  subst ex
  obtain rfl : u = Value.ref a := rx
  refine getmeth_ok I1 ea c hm l ?_
  refine PySem.W.callWith_K (first := [.ref a]) (h₀ := X.base) I.ok.mod.kin hm.kp (thn (ha.run pos pins s1 σ H1 _ I1 q) fun us s2 ⟨vs, H2, I2, r, q2⟩ => ⟨I2.kIn, ?_⟩) hst hpl
  exact run_fnS (us := .ref a :: us) (vs := .ref a :: vs) F hr hb (hx σ) I2 (.cons rfl r) q2
theorem pe_methE0 {pl : Sem Bool} (he : PE X o ta) (c : L2.Cls X.K C) (hm : Meth X.K C m f) (F : FnOk X.prog X.w X.K X.mg X.base CX k f fd ps sp) (hr : Room k X.A) (hb : Binds X.K fd ps []) (hx : ∀ σ, PassesAt CX X σ (E σ))
    (ht : eval (.Call (.Attribute o m apos) [] [] pos) X.env = (do
      let ov ← eval o X.env
      standAt apos.atName
      let (f, first) ← holding [ov] (getMethod ov m pl)
      callWith pos f first (backTo pos (starEach [] X.env)) (backToKw pos (keywordEach [] X.env))) := by rfl) :
    PE X (.Call (.Attribute o m apos) [] [] pos) (tMethS C m sp E ta tNil) := by
  refine ⟨fun pins s σ H Q I h => ?_⟩
  refine PySem.W.methodCall_KW (pl := pl) (thn (he.run pins s σ H _ I h) fun u s1 ⟨x, H1, I1, rx, a, dx, fs, ex, ea, l, q⟩ => ?_) ht
  subst ex
  obtain rfl : u = Value.ref a := rx
  refine getmeth_ok I1 ea c hm l ?_
  exact PySem.W.callWith_K0 (first := [.ref a]) I1.kIn hm.kp (run_fnS (us := [.ref a]) (vs := [.ref a]) F hr hb (hx σ) I1 (.cons rfl .nil) q)
end
section
variable {K : PySem.W.Frag} {Wx : WX} {RE : REx}
/-- o.f op= e -/
@[reducible] def augF (K : PySem.W.Frag) (g : F2) (f : Str) (O T : TDE) : TDS := fun D ρ M => O ρ M fun x M1 => gR x fun a => ∃ C dx fs, M1 a = some (.ins C dx fs) ∧ (L2.Cls K C ∧ NoAttr K C f) ∧ gO (List.lookup f fs) fun v => T ρ M1 fun y M2 => g v y M2 fun z M3 =>
  ∃ dx' fs', M3 a = some (.ins C dx' fs') ∧ fs'.length < 1000 ∧ gPut f z fs' fun fs2 => D.nx ρ (mset M3 a (.ins C dx' fs2))
theorem ss_augF {f : Str} {rd : R2} {g : F2} {to tv : TE} {O T : TDE} (hg : SO K rd g) (h1 : SE K Wx RE to O) (h2 : SE K Wx RE tv T) : SSt K Wx RE (sFldAug K to tv rd f) (augF K g f O T) := fun F H M σ ρ D E hr hx hs ht k =>
  h1 F H M σ ρ _ _ hr hx hs ht fun v H1 F1 M1 x r1 g1 rx q1 => by
    obtain ⟨a, rfl, C, dx, fs, hM, ⟨hc, hn⟩, q2⟩ := gR_of q1
    obtain ⟨w, hl, q3⟩ := gO_of q2
    obtain ⟨fv, e1, e2⟩ := r1.ins hM
    obtain ⟨u, e3, e4⟩ := prR_lookup e2 hl
    refine ⟨a, C, dx, fv, u, rx.ref, e1, hc, hn, e3, h2 F1 H1 M1 σ ρ _ _ r1 (hx.mono g1) (hs.mono g1.ff) q3 fun y H2 F2 M2 yw r2 g2 ry q4 => ?_⟩
    refine hg F2 H2 M2 u y w yw _ _ r2 (e4.mono g2.ff) ry q4 fun z H3 F3 M3 zw r3 g3 rz q5 => ?_
    obtain ⟨dx', fs', hM3, hl3, ⟨q6⟩⟩ := q5
    obtain ⟨fv3, e5, e6⟩ := r3.ins hM3
    have e7 := prR_put (f := f) rz e6
    obtain ⟨r4, g4⟩ := r3.put (u := .ins C dx' (putF f z fv3)) (o := .ins C dx' (putW f zw fs')) hM3 ⟨_, rfl, e7⟩
    have g := ((g1.trans g2).trans g3).trans g4
    exact ⟨dx', fv3, e5, by rw [e6.len]; exact hl3, k.nx σ _ _ _ ρ r4 g (hs.mono g.ff) q6⟩
end
end Tl

set_option Elab.async false
set_option linter.all false
set_option maxRecDepth 100000
set_option maxHeartbeats 4000000
/-! Errors with a field, raised. -/
namespace Tl
open PySem PySem.Spec PyProof.Rows L2
def inClsN (s : Stmt) (i : Nat) : Stmt := match s with
  | .ClassDef _ _ _ b _ _ _ _ _ _ _ => b.getD i (.Pass ⟨0, 0, 0, 0⟩)
  | _ => .Pass ⟨0, 0, 0, 0⟩
def spInitF (K : PySem.W.Frag) (C : Addr) (fld : Str) : Sp := fun vs H Q _ => ∃ (a : Addr) (v : V), vs = [.ref a, v] ∧ H a = some (exo a C none) ∧ ∀ dx, H dx = none → dx ≠ a → Q .non (upd (upd H dx (exd dx [(fld, v)])) a (exo a C (some dx)))
/-- an own error with one field, as the top has left it -/
structure ErF (K : PySem.W.Frag) (mg : Str → Option Value) (nm qual fld : Str) (st : Stmt) (C : Addr) : Prop where
  o : OexC K C
  g : mg nm = some (.ref C)
  n : PySem.W.findIn K (.ref C) fld = some none
  i : ∃ fI fdI, PySem.W.findIn K (.ref C) "__init__" = some (some (.ref fI)) ∧ PySem.W.typeIn K (.ref fI) = some (.type "function") ∧ Fun K "__init__" qual st fI fdI
section
variable {K : PySem.W.Frag} {Wx : WX} {RE : REx}
@[reducible] def raiseF (RE : REx) (C : Addr) (fld : Str) (T : TDA) : TDS := fun _ ρ M => T ρ M fun xs M1 => g1 xs fun x => gD x fun d => RE ⟨.ref C, [(fld, d)]⟩ ρ M1
theorem ss_raiseF {C : Addr} {fld : Str} {n : Nat} {t : TA} {T : TDA} (h : SAn K Wx RE n t T) : SSt K Wx RE (fun _ σ H => tMkO C (spInitF K C fld) [] t σ H fun cls d H' => Wx cls d σ H') (raiseF RE C fld T) := fun F H M σ ρ D E hr hx hs ht k =>
  h F H M σ ρ _ _ hr hx hs ht fun vs H1 F1 M1 xs r1 g1 rxs hl q1 => by
    obtain ⟨x, rfl, q2⟩ := g1_of q1
    obtain ⟨d, rfl, q3⟩ := gD_of q2
    obtain ⟨v, rfl, rv⟩ := rxs.one
    refine ⟨by show 1 ≤ 1000; decide, fun a ha => ⟨a, v, rfl, upd_same, fun dx hd1 hd2 => ⟨rfl, dx, [(fld, v)], upd_same, ?_, ?_, ?_⟩⟩⟩
    · rw [upd_ne hd2]
      exact upd_same
    · rw [upd_ne hd2] at hd1
      exact hd1
    · rw [upd_ne hd2] at hd1
      have e : upd (L2.del (upd (upd (upd H1 a (exo a C none)) dx (exd dx [(fld, v)])) a (exo a C (some dx))) a) dx (.xd [(fld, v)]) = upd H1 dx (.xd [(fld, v)]) := by
        funext b
        by_cases c : b = dx
        · rw [c, upd_same, upd_same]
        · rw [upd_ne c, upd_ne c]
          by_cases c2 : b = a
          · subst c2
            show (if b = b then none else _) = _
            rw [if_pos rfl, ha]
          · rw [L2.del_ne c2, upd_ne c2, upd_ne c, upd_ne c2]
      rw [e]
      obtain ⟨r2, g2⟩ := r1.fresh (u := .xd [(fld, v)]) hd1
      have g := g1.trans g2
      refine hx (upd F1 dx (.xd [(fld, v)])) _ M1 σ ρ (.ref C) (some dx) ⟨.ref C, [(fld, d)]⟩ g r2 (hs.mono g.ff) ⟨rfl, [(fld, v)], upd_same, rfl, .cons (Dx.mono g2.ff _ _ rv.dx) .nil⟩ q3
/-! ### isinstance of data, one of some built-in classes -/
def tyAny (d : PyData) : List String → Option Bool
  | [] => some false
  | n :: r => (tyIs d n).bind fun b => if b = true then some true else tyAny d r
theorem tyAny_kit {d : PyData} : ∀ {ns : List String} {b : Bool}, tyAny d ns = some b → PySem.W.kitAny K (.type (tyName d)) (ns.map Value.type) = some b
  | [], b, h => by
    rw [tyAny] at h
    cases h
    exact kitAny_nil
  | n :: r, b, h => by
    rw [tyAny] at h
    cases c : tyIs d n with
    | none => rw [c] at h; cases h
    | some e =>
      rw [c, Option.bind_some] at h
      cases e with
      | true =>
        rw [if_pos rfl] at h
        cases h
        exact kitAny_cons (kit_ty (tyIs_kit c)) (fun z => by cases z) fun _ => rfl
      | false =>
        rw [if_neg Bool.false_ne_true] at h
        exact kitAny_cons (kit_ty (tyIs_kit c)) (fun _ => tyAny_kit h) (fun z => by cases z)
inductive gNs (ys : List W) (k : List String → Prop) : Prop where
  | mk (ns : List String) (h : ys = ns.map fun n => W.o (.ty n)) (q : k ns)
theorem gNs_n {k : List String → Prop} (q : k []) : gNs [] k := .mk [] rfl q
theorem gNs_c {n : String} {r : List W} {k : List String → Prop} (h : gNs r fun ns => k (n :: ns)) : gNs (.o (.ty n) :: r) k := by
  obtain ⟨ns, rfl, q⟩ := h
  exact .mk (n :: ns) rfl q
theorem gNs_cls {F : Hp} : ∀ {ns : List String} {vs : List V}, RWs K F vs (ns.map fun n => W.o (.ty n)) → Paired ClsV vs (ns.map Value.type)
  | [], _, h => by cases h; exact .nil
  | n :: ns, _, h => by
    cases h with
    | cons a b => cases a; exact .cons (.ty n) (gNs_cls b)
@[reducible] def isDT (T : TDE) (U : TDA) : TDE := fun ρ M R => T ρ M fun x M1 => U ρ M1 fun ys M2 => gNs ys fun ns => gD x fun d => gO (tyAny d ns) fun b => R (.d (.bool b)) M2
theorem se_isDT {n : Nat} {tx : TE} {ta : TA} {T : TDE} {U : TDA} (h1 : SE K Wx RE tx T) (h2 : SAn K Wx RE n ta U) (hn : n ≤ 1000 := by decide) : SE K Wx RE (tCB (rIsiT K) (tCons tx (tCons (tTup ta) tNil))) (isDT T U) := fun F H M σ ρ R Q hr hx hs ht k =>
  h1 F H M σ ρ _ _ hr hx hs ht fun v H1 F1 M1 x r1 g1 rx q1 => h2 F1 H1 M1 σ ρ _ _ r1 (hx.mono g1) (hs.mono g1.ff) q1 fun vs H2 F2 M2 ys r2 g2 rys hl q2 => by
    refine ⟨by rw [rys.len, hl]; exact sz1000 hn, fun p hp => ?_⟩
    obtain ⟨ns, rfl, q3⟩ := q2
    obtain ⟨d, rfl, q4⟩ := gD_of q3
    obtain ⟨b, q5, q6⟩ := gO_of q4
    have sm := same_new (o := .tup vs) hp
    obtain ⟨r3, g3⟩ := r2.same sm
    exact ⟨v, p, vs, _, _, b, rfl, upd_same, gNs_cls rys, ty_dx (Dx.mono (g2.ff.trans r3.fh) _ _ rx.dx), tyAny_kit q5, k _ _ F2 M2 _ r3 ((g1.trans g2).trans g3) (.d (.bl _)) q6⟩
theorem tyAny_lt {d : PyData} : tyAny d ["list", "tuple"] = some (isList d || isTup d) := by
  rw [tyAny, tyAny, tyAny, tyIs_list, tyIs_tuple]
  cases isList d <;> cases isTup d <;> rfl
end
end Tl

set_option Elab.async false
set_option linter.all false
set_option maxRecDepth 100000
set_option maxHeartbeats 4000000
/-! list and tuple of a range; a list taken apart; equal data. -/
namespace Tl
open PySem L2
section
variable {K : PySem.W.Frag} {Wx : WX} {RE : REx}
def rgD (a b : Int) : List PyData := (List.range (b - a).toNat).map fun i => PyData.int (a + (i : Nat))
theorem rgD_dx {F : Hp} (a b : Int) : DxL K F (rgV a b) (rgD a b) := by
  unfold rgV rgD
  generalize List.range (b - a).toNat = l
  induction l with
  | nil => exact .nil
  | cons x r ih => exact .cons (.int _) ih
theorem rgD_len (a b : Int) : (rgD a b).length = (b - a).toNat := by unfold rgD; rw [List.length_map, List.length_range]
@[reducible] def lstRg1 (T : TDE) : TDE := fun ρ M R => T ρ M fun x M1 => gI x fun n => (-1000000 ≤ n ∧ n ≤ 1000000) ∧ R (.d (.list (rgD 0 n))) M1
@[reducible] def tupRg1 (T : TDE) : TDE := fun ρ M R => T ρ M fun x M1 => gI x fun n => (-1000000 ≤ n ∧ n ≤ 1000000) ∧ R (.d (.tuple (rgD 0 n))) M1
theorem se_lstRg1 {t : TE} {T : TDE} (h : SE K Wx RE t T) : SE K Wx RE (tLstRg (tRg1 t)) (lstRg1 T) := fun F H M σ ρ R Q hr hx hs ht k =>
  h F H M σ ρ _ _ hr hx hs ht fun v H1 F1 M1 x r1 g1 rx q1 => by
    obtain ⟨n, rfl, ⟨c1, c2⟩, q2⟩ := gI_of q1
    refine ⟨n, rx.int, ⟨by omega, by omega, by omega, by omega, by omega⟩, fun q hq => ?_⟩
    obtain ⟨r2, g2, rz⟩ := r1.list hq (rgD_dx (K := K) (F := F1) 0 n)
    exact k _ _ _ _ _ r2 (g1.trans g2) rz q2
theorem se_tupRg1 {t : TE} {T : TDE} (h : SE K Wx RE t T) : SE K Wx RE (tTupRg (tRg1 t)) (tupRg1 T) := fun F H M σ ρ R Q hr hx hs ht k =>
  h F H M σ ρ _ _ hr hx hs ht fun v H1 F1 M1 x r1 g1 rx q1 => by
    obtain ⟨n, rfl, ⟨c1, c2⟩, q2⟩ := gI_of q1
    refine ⟨n, rx.int, ⟨by omega, by omega, by omega, by omega, by omega⟩, fun q hq => ?_⟩
    obtain ⟨r2, g2, rz⟩ := r1.tup hq (rgD_dx (K := K) (F := F1) 0 n)
    exact k _ _ _ _ _ r2 (g1.trans g2) rz q2
@[reducible] def lstRg2 (T U : TDE) : TDE := fun ρ M R => T ρ M fun x M1 => U ρ M1 fun y M2 => gI x fun m => gI y fun n => (-1000000 ≤ m ∧ m ≤ 1000000 ∧ -1000000 ≤ n ∧ n ≤ 1000000) ∧ R (.d (.list (rgD m n))) M2
theorem se_lstRg2 {t u : TE} {T U : TDE} (h : SE K Wx RE t T) (h' : SE K Wx RE u U) : SE K Wx RE (tLstRg (tRg2 t u)) (lstRg2 T U) := fun F H M σ ρ R Q hr hx hs ht k =>
  h F H M σ ρ _ _ hr hx hs ht fun v H1 F1 M1 x r1 g1 rx q1 => h' F1 H1 M1 σ ρ _ _ r1 (hx.mono g1) (hs.mono g1.ff) q1 fun v2 H2 F2 M2 y r2 g2 ry q2 => by
    obtain ⟨m, rfl, q3⟩ := gI_of q2
    obtain ⟨n, rfl, ⟨c1, c2, c3, c4⟩, q4⟩ := gI_of q3
    refine ⟨m, n, rx.int, ry.int, ⟨by omega, by omega, by omega, by omega, by omega⟩, fun q hq => ?_⟩
    obtain ⟨r3, g3, rz⟩ := r2.list hq (rgD_dx (K := K) (F := F2) m n)
    exact k _ _ _ _ _ r3 ((g1.trans g2).trans g3) rz q4
/-- a, b = a list that is data -/
@[reducible] def bLst2 (i j : Nat) : TDG := fun row ρ M R => match row with | [w] => gL w fun ds => (match ds with | [a, b] => R (put (put ρ i (some (.d a))) j (some (.d b))) M | _ => False) | _ => False
theorem sg_lst2 {i j : Nat} : SG K (gLst K 2 (gCons (gName i) (gCons (gName j) gNil))) false [i, j] (bLst2 i j) := fun F H M x H' row σ ρ R Q hr hy hs hb k => by
  obtain ⟨w, rfl, rfl, rx⟩ := hy
  obtain ⟨ds, rfl, h1⟩ := gL_of hb
  obtain ⟨a, xs, rfl, h2, h3⟩ := rx.lst
  split at h1
  · rename_i c d
    cases h3 with
    | cons q1 h3 =>
    cases h3 with
    | cons q2 h3 =>
    cases h3
    refine ⟨a, _, rfl, SqL.of (hr.fh _ _ h2), rfl, _, _, rfl, _, [], rfl, rfl, ?_⟩
    exact k _ _ F M _ hr .refl ((hs.set (.d q1) i).set (.d q2) j) wipe2 h1
  · exact h1.elim
end
mutual
theorem eqv_self : ∀ d : PyData, d.hasDict = false → PyData.eqv d d = true
  | .none, _ => rfl
  | .bool b, _ => by rw [PyData.eqv]; exact beq_self_eq_true b
  | .int i, _ => by rw [PyData.eqv]; exact beq_self_eq_true i
  | .str x, _ => by rw [PyData.eqv]; exact beq_self_eq_true x
  | .list ds, h => by rw [PyData.hasDict] at h; rw [PyData.eqv]; exact eqvAll_self ds h
  | .tuple ds, h => by rw [PyData.hasDict] at h; rw [PyData.eqv]; exact eqvAll_self ds h
  | .dict _, h => by rw [PyData.hasDict] at h; cases h
theorem eqvAll_self : ∀ ds : List PyData, PyData.hasDictAll ds = false → PyData.eqvAll ds ds = true
  | [], _ => rfl
  | d :: r, h => by
    rw [PyData.hasDictAll, Bool.or_eq_false_iff] at h
    rw [PyData.eqvAll, eqv_self d h.1, eqvAll_self r h.2]
    rfl
end
end Tl

set_option Elab.async false
set_option linter.all false
set_option maxRecDepth 100000
set_option maxHeartbeats 4000000
namespace Tl
open PySem L2 RZ
local macro_rules
  | `(tactic| decreasing_trivial) => `(tactic| ((with_reducible (conv => whnf)); (repeat ((first | (with_reducible refine gDs_c ?_) | (with_reducible refine gDs_n ?_) | (with_reducible refine gNs_c ?_) | (with_reducible refine gNs_n ?_) | (with_reducible refine gO_i tyAny_lt ?_) | (with_reducible refine gIs_c ?_) | (with_reducible refine gIs_n ?_) | (with_reducible refine gBs_c ?_) | (with_reducible refine gBs_n ?_) | (with_reducible refine gSs_c ?_) | (with_reducible refine gSs_n ?_) | (with_reducible refine gO_i tyIs_int ?_) | (with_reducible refine gO_i tyIs_bool ?_) | (with_reducible refine gO_i tyIs_str ?_) | (with_reducible refine gO_i tyIs_tuple ?_) | (with_reducible refine gO_i tyIs_list ?_) | (with_reducible refine gDs_i ?_) | (with_reducible refine gO_i (Eq.refl _) ?_) | (with_reducible refine gO_i (by assumption) ?_) | (with_reducible refine gO_i at_0 ?_) | (with_reducible refine gO_i at_m0 ?_) | (with_reducible refine gO_i at_1 ?_) | (with_reducible refine gO_i at_m1 ?_) | (with_reducible refine gO_i at_2 ?_) | (with_reducible refine gO_i at_m2 ?_) | (with_reducible refine gO_i at_3 ?_) | (with_reducible refine gO_i at_m3 ?_) | (with_reducible refine gO_i at_4 ?_) | (with_reducible refine gO_i at_m4 ?_) | (with_reducible refine gO_i at_5 ?_) | (with_reducible refine gO_i at_m5 ?_) | (with_reducible refine gO_i at_6 ?_) | (with_reducible refine gO_i at_m6 ?_) | (with_reducible refine gO_i at_7 ?_) | (with_reducible refine gO_i at_m7 ?_) | (with_reducible refine IfB.ngf ?_) | (with_reducible refine IfB.ngt ?_) | (with_reducible refine IfB.not ?_) | (with_reducible refine IfB.nil ?_) | (with_reducible refine IfB.nilT ?_) | (with_reducible refine IfB.f isE_c ?_) | (with_reducible refine IfB.t isE_n ?_) | (with_reducible refine IfB.t ?gha ?_; (case gha => rfl)) | (with_reducible refine IfB.f ?gha ?_; (case gha => rfl)) | (with_reducible refine IfB.t ?gha ?_; (case gha => assumption)) | (with_reducible refine IfB.f ?gha ?_; (case gha => assumption)) | (with_reducible refine IfB.yes (Eq.refl _) ?_) | (with_reducible refine IfB.yes ?gha ?_; (case gha => (first | omega | (simp only [len_c, len_n, List.length_map]; omega)))) | (with_reducible refine IfB.no ?gha ?_; (case gha => (first | omega | (simp only [len_c, len_n, List.length_map]; omega)))) | (with_reducible refine IfB.t ?gha ?_; (case gha => decide +kernel)) | (with_reducible refine IfB.f ?gha ?_; (case gha => decide +kernel))); (with_reducible (conv => whnf))))))
local macro_rules
  | `(tactic| decreasing_trivial_pre_omega) => `(tactic| (decreasing_trivial; (repeat ((first | ((with_reducible refine And.intro ?gha ?_); (case gha => (first | assumption | omega | exact rfl | (exact mset_same) | (exact ⟨_, mset_same⟩) | (exact Exists.intro _ (by first | exact mset_same | assumption | (rw [mset_ne (by assumption)]; first | exact mset_same | assumption))) | (exact sm_of (by omega) (by omega)) | (exact sz1000 (by first | omega | (simp; done) | (simp; omega))) | (exact Or.inl ⟨by decide, by decide⟩) | decide | (simp; done) | (refine ⟨?_, ?_⟩ <;> (first | assumption | omega | exact rfl | (exact mset_same) | (exact ⟨_, mset_same⟩) | (exact Exists.intro _ (by first | exact mset_same | assumption | (rw [mset_ne (by assumption)]; first | exact mset_same | assumption))) | (exact sm_of (by omega) (by omega)) | (exact sz1000 (by first | omega | (simp; done) | (simp; omega))) | (exact Or.inl ⟨by decide, by decide⟩) | decide | (simp; done))) | (refine ⟨?_, ?_, ?_⟩ <;> (first | assumption | omega | exact rfl | (exact mset_same) | (exact ⟨_, mset_same⟩) | (exact Exists.intro _ (by first | exact mset_same | assumption | (rw [mset_ne (by assumption)]; first | exact mset_same | assumption))) | (exact sm_of (by omega) (by omega)) | (exact sz1000 (by first | omega | (simp; done) | (simp; omega))) | (exact Or.inl ⟨by decide, by decide⟩) | decide | (simp; done))) | (refine ⟨?_, ?_, ?_, ?_⟩ <;> (first | assumption | omega | exact rfl | (exact mset_same) | (exact ⟨_, mset_same⟩) | (exact Exists.intro _ (by first | exact mset_same | assumption | (rw [mset_ne (by assumption)]; first | exact mset_same | assumption))) | (exact sm_of (by omega) (by omega)) | (exact sz1000 (by first | omega | (simp; done) | (simp; omega))) | (exact Or.inl ⟨by decide, by decide⟩) | decide | (simp; done)))))) | (with_reducible refine exW (by first | exact mset_same | assumption | (rw [mset_ne (by assumption)]; first | exact mset_same | assumption)) ?_)); decreasing_trivial))))
def top (i : Nat) : Stmt := PySem.Challenge.pw_treelore_k66_ties_as_lists.main.body.getD i (.Pass ⟨0, 0, 0, 0⟩)
section
variable {P : Program} {w : World} {K : PySem.W.Frag} {mg : Str → Option Value} {base : Heap}
abbrev sIsCount : Stmt := top 22
theorem scCount : FnScope ["thing"] ["thing"] (defScope sIsCount) := ⟨rfl, rfl, rfl, by decide +kernel, rfl, by decide +kernel, by decide +kernel⟩
theorem ok_count {f : Addr} {fd : FuncData} {k : Nat} (F : Fun K "is_count" "is_count" sIsCount f fd) (T : Bl mg) : FnOk P w K mg base CX0 (k + 1) f fd ["thing"] (spD K 1 (tfB isCount)) := by
  refine okD F scCount rfl fun cdv A outer s H E hr => ?_
  refine ⟨_, _, (pss_one (ps_ret (pe_and (pe_callB (r := rIsi K) call_isi (by rfl) T.isi PyProof.Rows.boot_isinstance (pa_cons (pv 0) (pa_cons (b_int T) pa_nil))) (pe_and (pe_not (pe_callB (r := rIsi K) call_isi (by rfl) T.isi PyProof.Rows.boot_isinstance (pa_cons (pv 0) (pa_cons (b_bool T) pa_nil)))) (pe_one (pe_cmpR op_ge (pv 0) pe_int (nomark _))))))),
    (ss_ret (se_and (se_cb sc_isi (sa_cons se_nm (sa_cons se_o sa_nil))) (se_and (se_not (se_cb sc_isi (sa_cons se_nm (sa_cons se_o sa_nil)))) (se_op so_ge se_nm se_int)))), fun ws M R RX hl h => ?_⟩
  obtain ⟨x, rfl, h1⟩ := g1_of h
  obtain ⟨d, rfl, ht, h2⟩ := gD_of h1
  cases d <;> (simp only [start0, len_c, len_n, map_c, map_n, app_c, app_n, rep_0, rep_s, Nat.reduceAdd, Nat.reduceSub]; decreasing_trivial; exact h2)
abbrev sIsNumber : Stmt := top 23
theorem scNumber : FnScope ["thing", "most"] ["thing", "most"] (defScope sIsNumber) := ⟨rfl, rfl, rfl, by decide +kernel, rfl, by decide +kernel, by decide +kernel⟩
theorem ok_number {f : Addr} {fd : FuncData} {k j : Nat} (F : Fun K "is_number" "is_number" sIsNumber f fd) (Uis_count : Use P w K mg base "is_count" ["thing"] j (spD K 1 (tfB isCount))) (hj : j ≤ k) (T : Bl mg) : FnOk P w K mg base CX0 (k + 1) f fd ["thing", "most"] (spD K 2 (tfB2 isNum)) := by
  refine okD F scNumber rfl fun cdv A outer s H E hr => ?_
  refine ⟨_, _, (pss_one (ps_ret (pe_and (pe_call Uis_count.ok (hr.mono (by omega)) rfl Uis_count.m Uis_count.kp Uis_count.b .nil pass0 (pa_cons (pv 0) pa_nil)) (pe_one (pe_cmpR op_le (pv 0) (pv 1) (nomark _)))))),
    (ss_ret (se_and (se_call (sa_cons se_nm sa_nil)) (se_op so_le se_nm se_nm))), fun ws M R RX hl h => ?_⟩
  obtain ⟨x, y, rfl, h1⟩ := g2_of h
  obtain ⟨d, rfl, h2⟩ := gD_of h1
  obtain ⟨m, rfl, ht, h3⟩ := gI_of h2
  simp only [start0, len_c, len_n, map_c, map_n, app_c, app_n, rep_0, rep_s, Nat.reduceAdd, Nat.reduceSub]
  decreasing_trivial_pre_omega
  cases d with
  | int i =>
    rw [isCount]
    rw [isNum] at h3
    refine IfB.d (fun c => ?_) (fun c => ?_)
    · decreasing_trivial_pre_omega
      rw [decide_eq_true c, Bool.true_and] at h3
      exact h3
    · decreasing_trivial_pre_omega
      rw [decide_eq_false c, Bool.false_and] at h3
      exact h3
  | _ => refine IfB.f rfl ?_; decreasing_trivial_pre_omega; exact h3
end
end Tl

set_option Elab.async false
set_option linter.all false
set_option maxRecDepth 100000
set_option maxHeartbeats 8000000
namespace Tl
open PySem L2 RZ
/-- a number below m from the source at st -/
@[reducible] def tfNext (b : Bool) : TF := fun ws M R _ => g2 ws fun x y => gR x fun st => gI y fun m => (M st = some (.src b) ∧ 1 ≤ m ∧ m ≤ 100000) ∧ ∀ r : Int, 0 ≤ r → r < m → R (.d (.int r)) M
theorem fm_pos (x : Int) {m : Int} (h : 0 < m) : 0 ≤ x.fmod m ∧ x.fmod m < m := ⟨Int.fmod_nonneg_of_pos x h, Int.fmod_lt_of_pos x h⟩
theorem fd_pos {x m : Int} (hx : 0 ≤ x) (h : 0 < m) : 0 ≤ x.fdiv m := by
  rw [Int.fdiv_eq_ediv_of_nonneg _ (Int.le_of_lt h)]
  exact Int.ediv_nonneg hx (Int.le_of_lt h)
theorem at4 {c : Addr} {i p z : Int} : atI [V.ref c, .int i, .int p, .int z] 0 = some (.ref c) ∧ atI [V.ref c, .int i, .int p, .int z] 1 = some (.int i) ∧ atI [V.ref c, .int i, .int p, .int z] 2 = some (.int p) ∧ atI [V.ref c, .int i, .int p, .int z] 3 = some (.int z) :=
  ⟨atI_nat (j := 0) rfl, atI_nat (j := 1) rfl, atI_nat (j := 2) rfl, atI_nat (j := 3) rfl⟩
theorem nz51 : (2305843009213693951 : Int) ≠ 0 := by decide
theorem nz29 : (2147483629 : Int) ≠ 0 := by decide
section
variable {P : Program} {w : World} {K : PySem.W.Frag} {mg : Str → Option Value} {base : Heap}
/-- the source as it stands, and how it goes on -/
theorem src_at {b : Bool} {F H : Hp} {M : Mem} {st : Addr} {R : W → Mem → Prop} {Q : VK} {m : Int} (hr : Rl K F H M) (hM : M st = some (.src b)) (hk : Kt K F H M R Q) (q : ∀ r : Int, 0 ≤ r → r < m → R (.d (.int r)) M) :
    ∃ (c : Addr) (cs : List Int) (i p z : Int), H st = some (.lst [.ref c, .int i, .int p, .int z]) ∧ SqL K H c (cs.map V.int) ∧ (∀ H0 o, Same H H0 → SqL K (upd H0 st o) c (cs.map V.int)) ∧ cs.length ≤ 63 ∧ (b = true → 0 < cs.length) ∧ 0 ≤ i ∧ 0 ≤ p ∧ 0 ≤ z ∧ z < (if b = true then 2147483647 else 2305843009213693951) ∧
      ∀ (H0 : Hp), Same H H0 → ∀ r i' p' z' : Int, 0 ≤ r → r < m → 0 ≤ i' → 0 ≤ p' → 0 ≤ z' → z' < (if b = true then 2147483647 else 2305843009213693951) → Q (.int r) (upd H0 st (.lst [.ref c, .int i', .int p', .int z'])) := by
  obtain ⟨_, h1, _, rfl, c, cs, i, p, z, rfl, hc, hl, hl0, hi, hp, hz0, hz1⟩ := hr.at_ st _ hM
  refine ⟨c, cs, i, p, z, h1, same_l hr.fh hc, fun H0 o e0 => same_l (same_mut (hr.same e0).1.fh ((hr.same e0).1.mf _ _ hM)) hc, hl, hl0, hi, hp, hz0, hz1, fun H0 e0 r i' p' z' g1 g2 g3 g4 g5 g6 => ?_⟩
  obtain ⟨r1, gg⟩ := hr.same e0
  obtain ⟨r2, g⟩ := r1.put (u := .lst [.ref c, .int i', .int p', .int z']) (o := .src b) hM ⟨_, rfl, c, cs, i', p', z', rfl, hc, hl, hl0, g3, g4, g5, g6⟩
  rw [mset_id hM] at r2 g
  exact hk _ _ _ _ _ r2 (gg.trans g) (.d (.int _)) (q r g1 g2)
theorem dp_ints {H : Hp} : ∀ cs : List Int, DpAll K H (cs.map V.int) (cs.map PyData.int)
  | [] => .nil
  | c :: r => .cons (.int c) (dp_ints r)
theorem ints_shaped (cs : List Int) : SeqAt.shaped (.list (cs.map PyData.int)) = true := flat_shaped (by
  rw [List.all_map, List.all_eq_true]
  intro x _
  rfl)
theorem iteN' {c : Bool} {A B : Prop} (h1 : c = false → A) (h2 : c = true → B) : if (!c) = true then A else B := by
  cases c
  · exact h1 rfl
  · exact h2 rfl
abbrev sTake : Stmt := top 42
theorem scTake : FnScope ["_law_state", "_law_below", "_law_cell", "_law_found"] ["_law_state", "_law_below"] (defScope sTake) := ⟨rfl, rfl, rfl, by decide +kernel, rfl, by decide +kernel, by decide +kernel⟩
theorem ok_take {f : Addr} {fd : FuncData} {k : Nat} (F : Fun K "_law_take" "_law_take" sTake f fd) (T : Bl mg) : FnOk P w K mg base CX0 (k + 1) f fd ["_law_state", "_law_below"] (spD K 2 (tfNext false)) := by
  refine F.ok scTake (fun vs H Q E h => ?_) (fun cdv A outer s H vs Q E hr h => ?_)
  · obtain ⟨F0, M, ws, R, RX, r, rs, hl, _⟩ := h
    rw [rs.len, hl]
    rfl
  obtain ⟨F0, M, ws, R, RX, hr0, rs, _, hf, hk, _⟩ := h
  obtain ⟨x0, y0, rfl, hf1⟩ := g2_of hf
  obtain ⟨st, rfl, hf2⟩ := gR_of hf1
  obtain ⟨m, rfl, ⟨hM, hm0, hm1⟩, q0⟩ := gI_of hf2
  obtain ⟨v1, v2, rfl, e1, e2⟩ := rs.two
  obtain rfl := e1.ref
  obtain rfl := e2.int
  obtain ⟨c, cs, i, p, z, h1, h2, h3, hl, hl0, hi, hp, hz0, hz1, q⟩ := src_at hr0 hM hk q0
  rw [if_neg (by decide)] at hz1
  simp only [Bool.false_eq_true, if_false] at q
  refine ⟨_, (pss_cons (ps_if (pt_cmpR op_gt (pe_ix ix_list (pv 0) pe_int (fun _ _ => rfl)) pe_int (nomark _)) (pss_cons (ps_set (i := 3) scTake.nd rfl (.inl rfl) (pe_op op_modN (pe_ix ix_list (pv 0) pe_int (fun _ _ => rfl)) (pv 1)))
      (pss_cons (ps_asg (pe_op op_fdivN (pe_ix ix_list (pv 0) pe_int (fun _ _ => rfl)) (pv 1)) (pg_sub (pv 0) pe_int set_list))
      (pss_one (ps_ret (pv 3))))) pss_nil)
    (pss_cons (ps_set (i := 2) scTake.nd rfl (.inl rfl) (pe_ix ix_list (pv 0) pe_int (fun _ _ => rfl)))
    (pss_cons (ps_if (pt_cmpR (op_neD hr.units) (pe_ix ix_list (pv 0) pe_int (fun _ _ => rfl)) (pe_lst pa_nil) (nomark _)) (pss_one (ps_set (i := 2) scTake.nd rfl (.inl rfl) (pe_ix ix_list (pe_ix ix_list (pv 0) pe_int (fun _ _ => rfl)) (pe_op op_modN (pe_ix ix_list (pv 0) pe_int (fun _ _ => rfl)) (pe_callB call_len_seq (by rfl) T.len PySem.boot_len (pa_cons (pe_ix ix_list (pv 0) pe_int (fun _ _ => rfl)) pa_nil))) (fun _ _ => rfl)))) pss_nil)
    (pss_cons (ps_asg (pe_op op_add (pe_ix ix_list (pv 0) pe_int (fun _ _ => rfl)) pe_int) (pg_sub (pv 0) pe_int set_list))
    (pss_cons (ps_if (PW.pt (pw_and (pt_cmpR op_ge (pv 2) (pe_op op_pow pe_int pe_int) (nomark _)) (pw_and1 (pt_cmpR op_le (pe_ix ix_list (pv 0) pe_int (fun _ _ => rfl)) (pe_callB call_len_seq (by rfl) T.len PySem.boot_len (pa_cons (pe_ix ix_list (pv 0) pe_int (fun _ _ => rfl)) pa_nil)) (nomark _))))) (pss_cons (ps_asg (pe_op op_fdivN (pv 2) (pv 1)) (pg_sub (pv 0) pe_int set_list))
      (pss_one (ps_ret (pe_op op_modN (pv 2) (pv 1))))) pss_nil)
    (pss_cons (ps_set (i := 2) scTake.nd rfl (.inl rfl) (pe_op op_modN (pv 2) pe_int))
    (pss_cons (ps_asg (pe_op op_modN (pe_op op_add (pe_op op_add (pe_op op_mul (pe_ix ix_list (pv 0) pe_int (fun _ _ => rfl)) pe_int) (pe_op op_mul (pv 2) pe_int)) (pe_ix ix_list (pv 0) pe_int (fun _ _ => rfl))) pe_int) (pg_sub (pv 0) pe_int set_list))
    (pss_one (ps_ret (pe_op op_modN (pe_op op_fdivN (pe_op op_modN (pe_op op_mul (pe_ix ix_list (pv 0) pe_int (fun _ _ => rfl)) (pe_ix ix_list (pv 0) pe_int (fun _ _ => rfl))) pe_int) pe_int) (pv 1))))))))))), ?_⟩
  have hm30 : m ≠ 0 ∧ m.natAbs < 1073741824 := ⟨by omega, by omega⟩
  refine ⟨_, rfl, st, _, 2, _, rfl, rfl, SqL.of h1, at4.2.2.1, p, 0, rfl, rfl, _, rfl, ?_⟩
  refine iteD (fun cc => ?_) (fun cc => ?_)
  · refine ⟨_, rfl, st, _, 2, _, rfl, rfl, SqL.of h1, at4.2.2.1, _, rfl, p, m, rfl, rfl, hm30.1, ?_⟩
    refine ⟨_, rfl, st, _, 2, _, rfl, rfl, SqL.of h1, at4.2.2.1, _, rfl, p, m, rfl, rfl, hm30, ?_⟩
    refine ⟨_, rfl, st, _, 2, 2, rfl, rfl, h1, rfl, ?_⟩
    refine ⟨_, rfl, ?_⟩
    exact q H (Same.refl _) _ _ _ _ (fm_pos p (by omega)).1 (fm_pos p (by omega)).2 hi (fd_pos hp (by omega)) hz0 hz1
  · refine ⟨_, rfl, st, _, 1, _, rfl, rfl, SqL.of h1, at4.2.1, ?_⟩
    refine ⟨_, rfl, st, _, 0, _, rfl, rfl, SqL.of h1, at4.1, by show 0 ≤ sizeLine; decide, fun p0 hp0 => ?_⟩
    have e01 : Same H (upd H p0 (.lst [])) := same_new hp0
    have nst : st ≠ p0 := ne_of_none h1 hp0
    have g1 : (upd H p0 (.lst [])) st = some (.lst [V.ref c, .int i, .int p, .int z]) := by rw [upd_ne nst]; exact h1
    have g2 : SqL K (upd H p0 (.lst [])) c (cs.map V.int) := same_l e01 h2
    have g0 : Dp K (upd H p0 (.lst [])) (.ref p0) (.list []) := .lst (SqL.of upd_same) .nil
    generalize upd H p0 (.lst []) = H1 at e01 g1 g2 g0 ⊢
    have gd1 : Dp K H1 (.ref c) (.list (cs.map PyData.int)) := .lst g2 (dp_ints cs)
    refine ⟨_, _, gd1, g0, ints_shaped cs, by decide +kernel, _, rfl, ?_⟩
    rw [eqv_nil]
    refine iteN' (fun cc2 => ?_) (fun cc2 => ?_)
    · have hne : 0 < cs.length := by
        rcases Nat.eq_zero_or_pos cs.length with e | e
        · rw [List.eq_nil_of_length_eq_zero e] at cc2
          cases cc2
        · exact e
      have hlen : (cs.map V.int).length = cs.length := List.length_map _
      have hf := fm_pos i (m := ((cs.map V.int).length : Nat)) (by rw [hlen]; omega)
      obtain ⟨j, ej⟩ : ∃ j : Nat, i.fmod ((cs.map V.int).length : Nat) = (j : Int) := ⟨(i.fmod ((cs.map V.int).length : Nat)).toNat, by omega⟩
      have hj : j < cs.length := by rw [hlen] at hf; rw [hlen] at ej; omega
      have hat : atI (cs.map V.int) (i.fmod ((cs.map V.int).length : Nat)) = some (.int cs[j]) := by
        rw [ej]
        exact atI_nat (by rw [List.getElem?_map, List.getElem?_eq_getElem hj]; rfl)
      generalize cs[j] = x at hat
      refine ⟨_, rfl, st, _, 0, _, rfl, rfl, SqL.of g1, at4.1, _, rfl, st, _, 1, _, rfl, rfl, SqL.of g1, at4.2.1, _, rfl, st, _, 0, _, rfl, rfl, SqL.of g1, at4.1, c, _, rfl, .inl g2, i, _, rfl, rfl, by rw [hlen]; omega, c, _, _, _, rfl, rfl, g2, hat, ?_⟩
      refine ⟨_, rfl, st, _, 1, _, rfl, rfl, SqL.of g1, at4.2.1, i, 1, rfl, rfl, _, rfl, st, _, 1, 1, rfl, rfl, g1, rfl, ?_⟩
      have g1' : (upd H1 st (.lst [V.ref c, .int (i + 1), .int p, .int z])) st = some (.lst [V.ref c, .int (i + 1), .int p, .int z]) := upd_same
      have g2' := h3 H1 (.lst [V.ref c, .int (i + 1), .int p, .int z]) e01
      have fin2 : ∀ (r p' z' : Int), 0 ≤ r → r < m → 0 ≤ p' → 0 ≤ z' → z' < 2305843009213693951 → Q (.int r) (upd (upd H1 st (.lst [V.ref c, .int (i + 1), .int p, .int z])) st (.lst [V.ref c, .int (i + 1), .int p', .int z'])) := fun r p' z' g1 g2 g3 g4 g5 => by
        rw [upd_upd]
        exact q H1 e01 _ _ _ _ g1 g2 (by omega) g3 g4 g5
      refine ⟨_, rfl, 10, 18, rfl, rfl, ⟨by decide, by decide, by decide⟩, x, _, rfl, rfl, _, rfl, ?_⟩
      refine iteD (fun c1 => ?_) (fun c1 => ?_)
      · refine ⟨_, rfl, st, _, 1, _, rfl, rfl, SqL.of g1', at4.2.1, _, rfl, st, _, 0, _, rfl, rfl, SqL.of g1', at4.1, c, _, rfl, .inl g2', _, _, rfl, rfl, _, rfl, ?_⟩
        refine iteD (fun c2 => ?_) (fun c2 => ?_)
        · refine ⟨_, rfl, _, rfl, x, m, rfl, rfl, hm30, _, rfl, st, _, 2, 2, rfl, rfl, g1', rfl, ?_⟩
          refine ⟨_, rfl, _, rfl, x, m, rfl, rfl, hm30.1, ?_⟩
          exact fin2 _ _ _ (fm_pos x (by omega)).1 (fm_pos x (by omega)).2 (fd_pos (Int.le_trans (by decide) c1) (by omega)) hz0 hz1
        · skip
          refine ⟨_, rfl, _, 2305843009213693951, rfl, rfl, nz51, ?_⟩
          have hx1 := fm_pos x (m := 2305843009213693951) (by decide)
          refine ⟨_, rfl, st, _, 3, _, rfl, rfl, SqL.of g1', at4.2.2.2, z, 48271, rfl, rfl, .inl ⟨by omega, by omega⟩, _, rfl, x.fmod 2305843009213693951, 69621, rfl, rfl, .inl ⟨by omega, by omega⟩, _, _, rfl, rfl, _, rfl, st, _, 1, _, rfl, rfl, SqL.of g1', at4.2.1, _, _, rfl, rfl, _, 2305843009213693951, rfl, rfl, nz51, _, rfl, st, _, 3, 3, rfl, rfl, g1', rfl, ?_⟩
          have hb := fm_pos (z * 48271 + x.fmod 2305843009213693951 * 69621 + (i + 1)) (m := 2305843009213693951) (by decide)
          refine ⟨_, rfl, st, _, 3, _, rfl, rfl, SqL.of upd_same, at4.2.2.2, _, rfl, st, _, 3, _, rfl, rfl, SqL.of upd_same, at4.2.2.2, _, _, rfl, rfl, .inl ⟨by omega, by omega⟩, _, 2147483629, rfl, rfl, nz29, _, 8, rfl, rfl, ⟨by decide, by decide⟩, _, rfl, _, m, rfl, rfl, hm30.1, ?_⟩
          exact fin2 _ _ _ (fm_pos _ (by omega)).1 (fm_pos _ (by omega)).2 hp hb.1 hb.2
      · skip
        refine ⟨_, rfl, _, 2305843009213693951, rfl, rfl, nz51, ?_⟩
        have hx1 := fm_pos x (m := 2305843009213693951) (by decide)
        refine ⟨_, rfl, st, _, 3, _, rfl, rfl, SqL.of g1', at4.2.2.2, z, 48271, rfl, rfl, .inl ⟨by omega, by omega⟩, _, rfl, x.fmod 2305843009213693951, 69621, rfl, rfl, .inl ⟨by omega, by omega⟩, _, _, rfl, rfl, _, rfl, st, _, 1, _, rfl, rfl, SqL.of g1', at4.2.1, _, _, rfl, rfl, _, 2305843009213693951, rfl, rfl, nz51, _, rfl, st, _, 3, 3, rfl, rfl, g1', rfl, ?_⟩
        have hb := fm_pos (z * 48271 + x.fmod 2305843009213693951 * 69621 + (i + 1)) (m := 2305843009213693951) (by decide)
        refine ⟨_, rfl, st, _, 3, _, rfl, rfl, SqL.of upd_same, at4.2.2.2, _, rfl, st, _, 3, _, rfl, rfl, SqL.of upd_same, at4.2.2.2, _, _, rfl, rfl, .inl ⟨by omega, by omega⟩, _, 2147483629, rfl, rfl, nz29, _, 8, rfl, rfl, ⟨by decide, by decide⟩, _, rfl, _, m, rfl, rfl, hm30.1, ?_⟩
        exact fin2 _ _ _ (fm_pos _ (by omega)).1 (fm_pos _ (by omega)).2 hp hb.1 hb.2
    · obtain ⟨x, hx⟩ : ∃ x : Int, x = i := ⟨i, rfl⟩
      rw [← hx]
      clear hx
      refine ⟨_, rfl, st, _, 1, _, rfl, rfl, SqL.of g1, at4.2.1, i, 1, rfl, rfl, _, rfl, st, _, 1, 1, rfl, rfl, g1, rfl, ?_⟩
      have g1' : (upd H1 st (.lst [V.ref c, .int (i + 1), .int p, .int z])) st = some (.lst [V.ref c, .int (i + 1), .int p, .int z]) := upd_same
      have g2' := h3 H1 (.lst [V.ref c, .int (i + 1), .int p, .int z]) e01
      have fin2 : ∀ (r p' z' : Int), 0 ≤ r → r < m → 0 ≤ p' → 0 ≤ z' → z' < 2305843009213693951 → Q (.int r) (upd (upd H1 st (.lst [V.ref c, .int (i + 1), .int p, .int z])) st (.lst [V.ref c, .int (i + 1), .int p', .int z'])) := fun r p' z' g1 g2 g3 g4 g5 => by
        rw [upd_upd]
        exact q H1 e01 _ _ _ _ g1 g2 (by omega) g3 g4 g5
      refine ⟨_, rfl, 10, 18, rfl, rfl, ⟨by decide, by decide, by decide⟩, x, _, rfl, rfl, _, rfl, ?_⟩
      refine iteD (fun c1 => ?_) (fun c1 => ?_)
      · refine ⟨_, rfl, st, _, 1, _, rfl, rfl, SqL.of g1', at4.2.1, _, rfl, st, _, 0, _, rfl, rfl, SqL.of g1', at4.1, c, _, rfl, .inl g2', _, _, rfl, rfl, _, rfl, ?_⟩
        refine iteD (fun c2 => ?_) (fun c2 => ?_)
        · refine ⟨_, rfl, _, rfl, x, m, rfl, rfl, hm30, _, rfl, st, _, 2, 2, rfl, rfl, g1', rfl, ?_⟩
          refine ⟨_, rfl, _, rfl, x, m, rfl, rfl, hm30.1, ?_⟩
          exact fin2 _ _ _ (fm_pos x (by omega)).1 (fm_pos x (by omega)).2 (fd_pos (Int.le_trans (by decide) c1) (by omega)) hz0 hz1
        · skip
          refine ⟨_, rfl, _, 2305843009213693951, rfl, rfl, nz51, ?_⟩
          have hx1 := fm_pos x (m := 2305843009213693951) (by decide)
          refine ⟨_, rfl, st, _, 3, _, rfl, rfl, SqL.of g1', at4.2.2.2, z, 48271, rfl, rfl, .inl ⟨by omega, by omega⟩, _, rfl, x.fmod 2305843009213693951, 69621, rfl, rfl, .inl ⟨by omega, by omega⟩, _, _, rfl, rfl, _, rfl, st, _, 1, _, rfl, rfl, SqL.of g1', at4.2.1, _, _, rfl, rfl, _, 2305843009213693951, rfl, rfl, nz51, _, rfl, st, _, 3, 3, rfl, rfl, g1', rfl, ?_⟩
          have hb := fm_pos (z * 48271 + x.fmod 2305843009213693951 * 69621 + (i + 1)) (m := 2305843009213693951) (by decide)
          refine ⟨_, rfl, st, _, 3, _, rfl, rfl, SqL.of upd_same, at4.2.2.2, _, rfl, st, _, 3, _, rfl, rfl, SqL.of upd_same, at4.2.2.2, _, _, rfl, rfl, .inl ⟨by omega, by omega⟩, _, 2147483629, rfl, rfl, nz29, _, 8, rfl, rfl, ⟨by decide, by decide⟩, _, rfl, _, m, rfl, rfl, hm30.1, ?_⟩
          exact fin2 _ _ _ (fm_pos _ (by omega)).1 (fm_pos _ (by omega)).2 hp hb.1 hb.2
      · skip
        refine ⟨_, rfl, _, 2305843009213693951, rfl, rfl, nz51, ?_⟩
        have hx1 := fm_pos x (m := 2305843009213693951) (by decide)
        refine ⟨_, rfl, st, _, 3, _, rfl, rfl, SqL.of g1', at4.2.2.2, z, 48271, rfl, rfl, .inl ⟨by omega, by omega⟩, _, rfl, x.fmod 2305843009213693951, 69621, rfl, rfl, .inl ⟨by omega, by omega⟩, _, _, rfl, rfl, _, rfl, st, _, 1, _, rfl, rfl, SqL.of g1', at4.2.1, _, _, rfl, rfl, _, 2305843009213693951, rfl, rfl, nz51, _, rfl, st, _, 3, 3, rfl, rfl, g1', rfl, ?_⟩
        have hb := fm_pos (z * 48271 + x.fmod 2305843009213693951 * 69621 + (i + 1)) (m := 2305843009213693951) (by decide)
        refine ⟨_, rfl, st, _, 3, _, rfl, rfl, SqL.of upd_same, at4.2.2.2, _, rfl, st, _, 3, _, rfl, rfl, SqL.of upd_same, at4.2.2.2, _, _, rfl, rfl, .inl ⟨by omega, by omega⟩, _, 2147483629, rfl, rfl, nz29, _, 8, rfl, rfl, ⟨by decide, by decide⟩, _, rfl, _, m, rfl, rfl, hm30.1, ?_⟩
        exact fin2 _ _ _ (fm_pos _ (by omega)).1 (fm_pos _ (by omega)).2 hp hb.1 hb.2
end
end Tl

set_option Elab.async false
set_option linter.all false
set_option maxRecDepth 100000
set_option maxHeartbeats 4000000
/-! Ties. -/
namespace Tl
open PySem L2
def isVal : PyData → Bool
  | .str _ => true
  | .int _ => true
  | _ => false
def isItem : PyData → Bool
  | .tuple ds => decide (ds.length ≤ 8) && ds.all isVal
  | d => isVal d
def tieForm : PyData → Bool
  | .tuple [_, it, _, c] => isItem it && isCount c
  | _ => false
def balance (a b : Int) : Bool := decide (a + 1 ≤ 3 * (b + 1)) && decide (b + 1 ≤ 3 * (a + 1))
/-- the room behind a tie -/
def roomT : Nat → PyData → Nat → Option Nat
  | _, .none, r => some r
  | n + 1, .tuple [l, it, rt, c], r + 1 => if (isItem it && isCount c) = true then
      (roomT n l r).bind fun m => (roomT n rt m).bind fun b => if (PyData.eqv c (.int ((r + 1 : Nat) - (b : Nat))) && balance ((r : Nat) - (m : Nat)) ((m : Nat) - (b : Nat))) = true then some b else none
    else none
  | _, _, _ => none
theorem roomT_le : ∀ {n : Nat} {d : PyData} {r m : Nat}, roomT n d r = some m → m ≤ r
  | n, .none, r, m, h => by simp [roomT] at h; omega
  | 0, .tuple _, r, m, h => by simp [roomT] at h
  | n + 1, .tuple [l, it, rt, c], 0, m, h => by simp [roomT] at h
  | n + 1, .tuple [l, it, rt, c], r + 1, m, h => by
    rw [roomT] at h
    split at h
    · cases h1 : roomT n l r with
      | none => rw [h1] at h; cases h
      | some m1 =>
        rw [h1] at h
        have h' : ((roomT n rt m1).bind fun b => if (PyData.eqv c (.int ((r + 1 : Nat) - (b : Nat))) && balance ((r : Nat) - (m1 : Nat)) ((m1 : Nat) - (b : Nat))) = true then some b else none) = some m := h
        cases h2 : roomT n rt m1 with
        | none => rw [h2] at h'; cases h'
        | some b =>
          rw [h2] at h'
          have h'' : (if (PyData.eqv c (.int ((r + 1 : Nat) - (b : Nat))) && balance ((r : Nat) - (m1 : Nat)) ((m1 : Nat) - (b : Nat))) = true then some b else none) = some m := h'
          split at h''
          · cases h''
            have := roomT_le h1
            have := roomT_le h2
            omega
          · cases h''
    · cases h
  | n + 1, .tuple [], r, m, h => by simp [roomT] at h
  | n + 1, .tuple [_], r, m, h => by simp [roomT] at h
  | n + 1, .tuple [_, _], r, m, h => by simp [roomT] at h
  | n + 1, .tuple [_, _, _], r, m, h => by simp [roomT] at h
  | n + 1, .tuple (_ :: _ :: _ :: _ :: _ :: _), r, m, h => by simp [roomT] at h
  | n, .bool _, r, m, h => by simp [roomT] at h
  | n, .int _, r, m, h => by simp [roomT] at h
  | n, .str _, r, m, h => by simp [roomT] at h
  | n, .list _, r, m, h => by simp [roomT] at h
  | n, .dict _, r, m, h => by simp [roomT] at h
theorem roomT_no : ∀ {n : Nat} {d : PyData} {r : Nat}, d ≠ .none → (r = 0 ∨ tieForm d = false) → roomT n d r = none
  | n, .none, r, h, _ => absurd rfl h
  | 0, .tuple _, r, _, _ => by simp [roomT]
  | n + 1, .tuple [l, it, rt, c], 0, _, _ => by simp [roomT]
  | n + 1, .tuple [l, it, rt, c], r + 1, _, h => by
    rcases h with h | h
    · cases h
    · rw [tieForm] at h
      rw [roomT, h, if_neg Bool.false_ne_true]
  | n + 1, .tuple [], r, _, _ => by simp [roomT]
  | n + 1, .tuple [_], r, _, _ => by simp [roomT]
  | n + 1, .tuple [_, _], r, _, _ => by simp [roomT]
  | n + 1, .tuple [_, _, _], r, _, _ => by simp [roomT]
  | n + 1, .tuple (_ :: _ :: _ :: _ :: _ :: _), r, _, _ => by simp [roomT]
  | n, .bool _, r, _, _ => by simp [roomT]
  | n, .int _, r, _, _ => by simp [roomT]
  | n, .str _, r, _, _ => by simp [roomT]
  | n, .list _, r, _, _ => by simp [roomT]
  | n, .dict _, r, _, _ => by simp [roomT]
theorem tieForm_of {d : PyData} (h : tieForm d = true) : ∃ l it rt cc, d = .tuple [l, it, rt, .int cc] ∧ 0 ≤ cc ∧ isItem it = true := by
  unfold tieForm at h
  split at h
  · rename_i l it rt c
    rw [Bool.and_eq_true] at h
    cases c with
    | int cc => exact ⟨l, it, rt, cc, rfl, of_decide_eq_true (by have := h.2; rw [isCount] at this; exact this), h.1⟩
    | _ => simp [isCount] at h
  · cases h
/-- the items of a tie -/
def itemsT : Nat → PyData → List PyData
  | n + 1, .tuple [l, it, rt, _] => itemsT n l ++ [it] ++ itemsT n rt
  | _, _ => []
theorem roomT_items : ∀ {n : Nat} {d : PyData} {r m : Nat}, roomT n d r = some m → (itemsT n d).length + m = r
  | n, .none, r, m, h => by
    simp [roomT] at h
    cases n <;> (simp [itemsT]; omega)
  | n, .tuple ds, r, m, h => by
    by_cases hf : tieForm (.tuple ds) = true ∧ r ≠ 0
    · obtain ⟨l, it, rt, cc, e, hc, hi⟩ := tieForm_of hf.1
      cases e
      obtain ⟨r, rfl⟩ : ∃ r', r = r' + 1 := ⟨r - 1, by have := hf.2; omega⟩
      cases n with
      | zero => simp [roomT] at h
      | succ n =>
        rw [roomT] at h
        split at h
        · cases h1 : roomT n l r with
          | none => rw [h1] at h; cases h
          | some m1 =>
            rw [h1] at h
            simp only [Option.bind_some] at h
            cases h2 : roomT n rt m1 with
            | none => rw [h2] at h; cases h
            | some b =>
              rw [h2] at h
              simp only [Option.bind_some] at h
              split at h
              · cases h
                have a1 := roomT_items h1
                have a2 := roomT_items h2
                rw [itemsT, List.length_append, List.length_append, List.length_singleton]
                omega
              · cases h
        · cases h
    · rw [roomT_no (by simp) (by
        by_cases z : r = 0
        · exact .inl z
        · refine .inr ?_
          cases c : tieForm (.tuple ds)
          · rfl
          · exact absurd ⟨c, z⟩ hf)] at h
      cases h
  | n, .bool _, r, m, h => by simp [roomT] at h
  | n, .int _, r, m, h => by simp [roomT] at h
  | n, .str _, r, m, h => by simp [roomT] at h
  | n, .list _, r, m, h => by simp [roomT] at h
  | n, .dict _, r, m, h => by simp [roomT] at h
/-- an even tie's own parts are so -/
theorem roomT_kids {n : Nat} {ds : List PyData} {r m : Nat} (h : roomT n (.tuple ds) r = some m) : ∃ n' l it rt cc r' m', n = n' + 1 ∧ r = r' + 1 ∧ ds = [l, it, rt, .int cc] ∧ roomT n' l r' = some m' ∧ roomT n' rt m' = some m ∧ isItem it = true := by
  by_cases hf : tieForm (.tuple ds) = true ∧ r ≠ 0
  · obtain ⟨l, it, rt, cc, e, hc, hi⟩ := tieForm_of hf.1
    cases e
    obtain ⟨r, rfl⟩ : ∃ r', r = r' + 1 := ⟨r - 1, by have := hf.2; omega⟩
    cases n with
    | zero => simp [roomT] at h
    | succ n =>
      rw [roomT] at h
      split at h
      · cases h1 : roomT n l r with
        | none => rw [h1] at h; cases h
        | some m1 =>
          rw [h1] at h
          simp only [Option.bind_some] at h
          cases h2 : roomT n rt m1 with
          | none => rw [h2] at h; cases h
          | some b =>
            rw [h2] at h
            simp only [Option.bind_some] at h
            split at h
            · cases h
              exact ⟨n, l, it, rt, cc, r, m1, rfl, rfl, rfl, h1, h2, hi⟩
            · cases h
      · cases h
  · rw [roomT_no (by simp) (by
      by_cases z : r = 0
      · exact .inl z
      · refine .inr ?_
        cases c : tieForm (.tuple ds)
        · rfl
        · exact absurd ⟨c, z⟩ hf)] at h
    cases h
end Tl

set_option Elab.async false
set_option linter.all false
set_option maxRecDepth 100000
set_option maxHeartbeats 8000000
namespace Tl
open PySem L2 RZ
local macro_rules
  | `(tactic| decreasing_trivial) => `(tactic| ((with_reducible (conv => whnf)); (repeat ((first | (with_reducible refine gDs_c ?_) | (with_reducible refine gDs_n ?_) | (with_reducible refine gNs_c ?_) | (with_reducible refine gNs_n ?_) | (with_reducible refine gO_i tyAny_lt ?_) | (with_reducible refine gIs_c ?_) | (with_reducible refine gIs_n ?_) | (with_reducible refine gBs_c ?_) | (with_reducible refine gBs_n ?_) | (with_reducible refine gSs_c ?_) | (with_reducible refine gSs_n ?_) | (with_reducible refine gO_i tyIs_int ?_) | (with_reducible refine gO_i tyIs_bool ?_) | (with_reducible refine gO_i tyIs_str ?_) | (with_reducible refine gO_i tyIs_tuple ?_) | (with_reducible refine gO_i tyIs_list ?_) | (with_reducible refine gDs_i ?_) | (with_reducible refine gO_i (Eq.refl _) ?_) | (with_reducible refine gO_i (by assumption) ?_) | (with_reducible refine gO_i at_0 ?_) | (with_reducible refine gO_i at_m0 ?_) | (with_reducible refine gO_i at_1 ?_) | (with_reducible refine gO_i at_m1 ?_) | (with_reducible refine gO_i at_2 ?_) | (with_reducible refine gO_i at_m2 ?_) | (with_reducible refine gO_i at_3 ?_) | (with_reducible refine gO_i at_m3 ?_) | (with_reducible refine gO_i at_4 ?_) | (with_reducible refine gO_i at_m4 ?_) | (with_reducible refine gO_i at_5 ?_) | (with_reducible refine gO_i at_m5 ?_) | (with_reducible refine gO_i at_6 ?_) | (with_reducible refine gO_i at_m6 ?_) | (with_reducible refine gO_i at_7 ?_) | (with_reducible refine gO_i at_m7 ?_) | (with_reducible refine IfB.ngf ?_) | (with_reducible refine IfB.ngt ?_) | (with_reducible refine IfB.not ?_) | (with_reducible refine IfB.nil ?_) | (with_reducible refine IfB.nilT ?_) | (with_reducible refine IfB.f isE_c ?_) | (with_reducible refine IfB.t isE_n ?_) | (with_reducible refine IfB.t ?gha ?_; (case gha => rfl)) | (with_reducible refine IfB.f ?gha ?_; (case gha => rfl)) | (with_reducible refine IfB.t ?gha ?_; (case gha => assumption)) | (with_reducible refine IfB.f ?gha ?_; (case gha => assumption)) | (with_reducible refine IfB.yes (Eq.refl _) ?_) | (with_reducible refine IfB.yes ?gha ?_; (case gha => (first | omega | (simp only [len_c, len_n, List.length_map]; omega)))) | (with_reducible refine IfB.no ?gha ?_; (case gha => (first | omega | (simp only [len_c, len_n, List.length_map]; omega)))) | (with_reducible refine IfB.t ?gha ?_; (case gha => decide +kernel)) | (with_reducible refine IfB.f ?gha ?_; (case gha => decide +kernel))); (with_reducible (conv => whnf))))))
local macro_rules
  | `(tactic| decreasing_trivial_pre_omega) => `(tactic| (decreasing_trivial; (repeat ((first | ((with_reducible refine And.intro ?gha ?_); (case gha => (first | assumption | omega | exact rfl | (exact mset_same) | (exact ⟨_, mset_same⟩) | (exact Exists.intro _ (by first | exact mset_same | assumption | (rw [mset_ne (by assumption)]; first | exact mset_same | assumption))) | (exact sm_of (by omega) (by omega)) | (exact sz1000 (by first | omega | (simp; done) | (simp; omega))) | (exact Or.inl ⟨by decide, by decide⟩) | decide | (simp; done) | (refine ⟨?_, ?_⟩ <;> (first | assumption | omega | exact rfl | (exact mset_same) | (exact ⟨_, mset_same⟩) | (exact Exists.intro _ (by first | exact mset_same | assumption | (rw [mset_ne (by assumption)]; first | exact mset_same | assumption))) | (exact sm_of (by omega) (by omega)) | (exact sz1000 (by first | omega | (simp; done) | (simp; omega))) | (exact Or.inl ⟨by decide, by decide⟩) | decide | (simp; done))) | (refine ⟨?_, ?_, ?_⟩ <;> (first | assumption | omega | exact rfl | (exact mset_same) | (exact ⟨_, mset_same⟩) | (exact Exists.intro _ (by first | exact mset_same | assumption | (rw [mset_ne (by assumption)]; first | exact mset_same | assumption))) | (exact sm_of (by omega) (by omega)) | (exact sz1000 (by first | omega | (simp; done) | (simp; omega))) | (exact Or.inl ⟨by decide, by decide⟩) | decide | (simp; done))) | (refine ⟨?_, ?_, ?_, ?_⟩ <;> (first | assumption | omega | exact rfl | (exact mset_same) | (exact ⟨_, mset_same⟩) | (exact Exists.intro _ (by first | exact mset_same | assumption | (rw [mset_ne (by assumption)]; first | exact mset_same | assumption))) | (exact sm_of (by omega) (by omega)) | (exact sz1000 (by first | omega | (simp; done) | (simp; omega))) | (exact Or.inl ⟨by decide, by decide⟩) | decide | (simp; done)))))) | (with_reducible refine exW (by first | exact mset_same | assumption | (rw [mset_ne (by assumption)]; first | exact mset_same | assumption)) ?_)); decreasing_trivial))))
theorem c_int {X : Cx} {x : Str} {i : Int} (C : ∃ t, X.mg x = some (.int i t)) {p : Pos} (hg : Gl X x := by rfl) (hd : (x == ("__debug__" : Str)) = false := by decide) : PE X (.Name x p) (tC (.int i)) := by
  obtain ⟨t, e⟩ := C
  exact pe_glob hg e ⟨t, rfl⟩ hd
section
variable {P : Program} {w : World} {K : PySem.W.Frag} {mg : Str → Option Value} {base : Heap}
abbrev sIsVal : Stmt := top 27
theorem scIsVal : FnScope ["thing"] ["thing"] (defScope sIsVal) := ⟨rfl, rfl, rfl, by decide +kernel, rfl, by decide +kernel, by decide +kernel⟩
theorem ok_isVal {f : Addr} {fd : FuncData} {k : Nat} (F : Fun K "is_value" "is_value" sIsVal f fd) (T : Bl mg) : FnOk P w K mg base CX0 (k + 1) f fd ["thing"] (spD K 1 (tfB isVal)) := by
  refine okD F scIsVal rfl fun cdv A outer s H E hr => ?_
  refine ⟨_, _, (pss_one (ps_ret (pe_or (pe_callB (r := rIsi K) call_isi (by rfl) T.isi PyProof.Rows.boot_isinstance (pa_cons (pv 0) (pa_cons (b_str T) pa_nil))) (pe_one (pe_and (pe_callB (r := rIsi K) call_isi (by rfl) T.isi PyProof.Rows.boot_isinstance (pa_cons (pv 0) (pa_cons (b_int T) pa_nil))) (pe_one (pe_not (pe_callB (r := rIsi K) call_isi (by rfl) T.isi PyProof.Rows.boot_isinstance (pa_cons (pv 0) (pa_cons (b_bool T) pa_nil)))))))))),
    (ss_ret (se_or (se_cb sc_isi (sa_cons se_nm (sa_cons se_o sa_nil))) (se_and (se_cb sc_isi (sa_cons se_nm (sa_cons se_o sa_nil))) (se_not (se_cb sc_isi (sa_cons se_nm (sa_cons se_o sa_nil))))))), fun ws M R RX hl h => ?_⟩
  obtain ⟨x, rfl, h1⟩ := g1_of h
  obtain ⟨d, rfl, ht, h2⟩ := gD_of h1
  cases d <;> (simp only [start0, len_c, len_n, map_c, map_n, app_c, app_n, rep_0, rep_s, Nat.reduceAdd, Nat.reduceSub]; decreasing_trivial; exact h2)
abbrev sIsItem : Stmt := top 28
theorem scIsItem : FnScope ["thing", "field"] ["thing"] (defScope sIsItem) := ⟨rfl, rfl, rfl, by decide +kernel, rfl, by decide +kernel, by decide +kernel⟩
theorem ok_isItem {f : Addr} {fd : FuncData} {k j : Nat} (F : Fun K "is_item" "is_item" sIsItem f fd) (Uis_value : Use P w K mg base "is_value" ["thing"] j (spD K 1 (tfB isVal))) (hj : j ≤ k) (T : Bl mg) (CF : ∃ t, mg "FIELDS" = some (.int 8 t)) : FnOk P w K mg base CX0 (k + 1) f fd ["thing"] (spD K 1 (tfB isItem)) := by
  refine okD F scIsItem rfl fun cdv A outer s H E hr => ?_
  refine ⟨_, _, (pss_cons (ps_if (pt_val (pe_callB (r := rIsi K) call_isi (by rfl) T.isi PyProof.Rows.boot_isinstance (pa_cons (pv 0) (pa_cons (b_tuple T) pa_nil)))) (pss_one (ps_ret (pe_and (pe_cmpR op_le (pe_callB call_len_seq (by rfl) T.len PySem.boot_len (pa_cons (pv 0) pa_nil)) (c_int CF) (nomark _)) (pe_one (pe_callB (cr_all rfl) (by rfl) T.all PyProof.Rows.boot_all (pa_cons (pe_lc (own := [("field", 1)]) (g := gName 1) (tt := tYes) (by rfl) scIsItem.nd (pi_tup (pv 0)) (blkOk_by (N := ["thing", "field"]) (sc := defScope sIsItem) (own := [("field", 1)]) (by decide +kernel)) (fun _ _ _ _ _ => pg_name (i := 1) scIsItem.nd rfl (Or.inl rfl)) (fun _ _ _ _ _ => pts_nil) (fun _ _ _ _ _ => (pe_call Uis_value.ok (hr.mono (by omega)) rfl Uis_value.m Uis_value.kp Uis_value.b .nil pass0 (pa_cons (pv 1) pa_nil)))) pa_nil)))))) pss_nil)
    (pss_one (ps_ret (pe_call Uis_value.ok (hr.mono (by omega)) rfl Uis_value.m Uis_value.kp Uis_value.b .nil pass0 (pa_cons (pv 0) pa_nil))))),
    (ss_cons (ss_if (st_val (se_cb sc_isi (sa_cons se_nm (sa_cons se_o sa_nil)))) (ss_ret (se_and (se_op so_le (se_cb sc_len (sa_cons se_nm sa_nil)) se_int) (se_cb sc_all (sa_cons (se_lcF (si_tup se_nm) sg_name st_yes (se_call (sa_cons se_nm sa_nil))) sa_nil)))) ss_nil)
    (ss_ret (se_call (sa_cons se_nm sa_nil)))), fun ws M R RX hl h => ?_⟩
  obtain ⟨x, rfl, h1⟩ := g1_of h
  obtain ⟨d, rfl, ht, h2⟩ := gD_of h1
  cases d with
  | tuple ds =>
    rw [txt] at ht
    rw [isItem] at h2
    simp only [start0, len_c, len_n, map_c, map_n, app_c, app_n, rep_0, rep_s, Nat.reduceAdd, Nat.reduceSub]
    decreasing_trivial
    refine IfB.d (fun c => ?_) (fun c => ?_)
    · rw [decide_eq_true (p := ds.length ≤ 8) (by omega), Bool.true_and] at h2
      decreasing_trivial
      refine lc1F (k := fun _ => True) (b := bName 1) (fun d => .bool (isVal d)) trivial (fun d hm Rk q => ?_) (sz1000 (by omega)) ?_
      · obtain ⟨jj, hjj⟩ := List.getElem?_of_mem hm
        decreasing_trivial
        exact ⟨txtAll_get ht hjj, q⟩
      · dsimp only
        show gBs ((ds.map fun d => PyData.bool (isVal d)).map W.d) _
        rw [mapW, gBs_map, List.all_map]
        exact h2
    · rw [decide_eq_false (p := ds.length ≤ 8) (by omega), Bool.false_and] at h2
      decreasing_trivial
      exact h2
  | _ => simp only [start0, len_c, len_n, map_c, map_n, app_c, app_n, rep_0, rep_s, Nat.reduceAdd, Nat.reduceSub]; decreasing_trivial; exact ⟨ht, h2⟩
abbrev sTieForm : Stmt := top 31
theorem scTieForm : FnScope ["thing"] ["thing"] (defScope sTieForm) := ⟨rfl, rfl, rfl, by decide +kernel, rfl, by decide +kernel, by decide +kernel⟩
theorem ok_tieForm {f : Addr} {fd : FuncData} {k j j2 : Nat} (F : Fun K "has_tie_form" "has_tie_form" sTieForm f fd) (Uis_item : Use P w K mg base "is_item" ["thing"] j (spD K 1 (tfB isItem))) (Uis_count : Use P w K mg base "is_count" ["thing"] j2 (spD K 1 (tfB isCount))) (hj : j ≤ k) (hj2 : j2 ≤ k) (T : Bl mg) : FnOk P w K mg base CX0 (k + 1) f fd ["thing"] (spD K 1 (tfB tieForm)) := by
  refine okD F scTieForm rfl fun cdv A outer s H E hr => ?_
  refine ⟨_, _, (pss_one (ps_ret (pe_and (pe_callB (r := rIsi K) call_isi (by rfl) T.isi PyProof.Rows.boot_isinstance (pa_cons (pv 0) (pa_cons (b_tuple T) pa_nil))) (pe_and (pe_cmpR op_eq (pe_callB call_len_seq (by rfl) T.len PySem.boot_len (pa_cons (pv 0) pa_nil)) pe_int (nomark _)) (pe_and (pe_call Uis_item.ok (hr.mono (by omega)) rfl Uis_item.m Uis_item.kp Uis_item.b .nil pass0 (pa_cons (pe_ix ix_tup (pv 0) pe_int (fun _ _ => rfl)) pa_nil)) (pe_one (pe_call Uis_count.ok (hr.mono (by omega)) rfl Uis_count.m Uis_count.kp Uis_count.b .nil pass0 (pa_cons (pe_ix ix_tup (pv 0) pe_int (fun _ _ => rfl)) pa_nil)))))))),
    (ss_ret (se_and (se_cb sc_isi (sa_cons se_nm (sa_cons se_o sa_nil))) (se_and (se_op so_eqS (se_cb sc_len (sa_cons se_nm sa_nil)) se_int) (se_and (se_call (sa_cons (se_op so_ixT se_nm se_int) sa_nil)) (se_call (sa_cons (se_op so_ixT se_nm se_int) sa_nil)))))), fun ws M R RX hl h => ?_⟩
  obtain ⟨x, rfl, h1⟩ := g1_of h
  obtain ⟨d, rfl, ht, h2⟩ := gD_of h1
  cases d with
  | tuple ds =>
    rw [txt] at ht
    simp only [start0, len_c, len_n, map_c, map_n, app_c, app_n, rep_0, rep_s, Nat.reduceAdd, Nat.reduceSub]
    decreasing_trivial
    match ds, ht, h2 with
    | [], _, h2 => decreasing_trivial; exact h2
    | [_], _, h2 => decreasing_trivial; exact h2
    | [_, _], _, h2 => decreasing_trivial; exact h2
    | [_, _, _], _, h2 => decreasing_trivial; exact h2
    | a1 :: a2 :: a3 :: a4 :: a5 :: r, _, h2 =>
      decreasing_trivial
      exact h2
    | [l, it, rt, c], ht, h2 =>
      rw [tieForm] at h2
      decreasing_trivial
      refine ⟨txtAll_get (i := 1) ht rfl, ?_⟩
      cases c1 : isItem it with
      | false =>
        rw [c1] at h2
        decreasing_trivial
        exact h2
      | true =>
        rw [c1, Bool.true_and] at h2
        decreasing_trivial
        exact ⟨txtAll_get (i := 3) ht rfl, h2⟩
  | _ => simp only [start0, len_c, len_n, map_c, map_n, app_c, app_n, rep_0, rep_s, Nat.reduceAdd, Nat.reduceSub]; decreasing_trivial; exact h2
abbrev sBal : Stmt := top 10
theorem scBal : FnScope ["one", "other"] ["one", "other"] (defScope sBal) := ⟨rfl, rfl, rfl, by decide +kernel, rfl, by decide +kernel, by decide +kernel⟩
@[reducible] def tfBal : TF := fun ws M R _ => g2 ws fun x y => gI x fun a => gI y fun b => (-2000 ≤ a ∧ a ≤ 2000 ∧ -2000 ≤ b ∧ b ≤ 2000) ∧ R (.d (.bool (balance a b))) M
theorem ok_bal {f : Addr} {fd : FuncData} {k : Nat} (F : Fun K "is_balance" "is_balance" sBal f fd) (T : Bl mg) : FnOk P w K mg base CX0 (k + 1) f fd ["one", "other"] (spD K 2 tfBal) := by
  refine okD F scBal rfl fun cdv A outer s H E hr => ?_
  refine ⟨_, _, (pss_one (ps_ret (pe_and (pe_cmpR op_le (pe_op op_add (pv 0) pe_int) (pe_op op_mul pe_int (pe_op op_add (pv 1) pe_int)) (nomark _)) (pe_one (pe_cmpR op_le (pe_op op_add (pv 1) pe_int) (pe_op op_mul pe_int (pe_op op_add (pv 0) pe_int)) (nomark _)))))),
    (ss_ret (se_and (se_op so_le (se_op so_add se_nm se_int) (se_op so_mul se_int (se_op so_add se_nm se_int))) (se_op so_le (se_op so_add se_nm se_int) (se_op so_mul se_int (se_op so_add se_nm se_int))))), fun ws M R RX hl h => ?_⟩
  obtain ⟨x, y, rfl, h1⟩ := g2_of h
  obtain ⟨a, rfl, h2⟩ := gI_of h1
  obtain ⟨b, rfl, ⟨a1, a2, b1, b2⟩, h3⟩ := gI_of h2
  simp only [start0, len_c, len_n, map_c, map_n, app_c, app_n, rep_0, rep_s, Nat.reduceAdd, Nat.reduceSub]
  decreasing_trivial
  refine ⟨.inl ⟨by decide, by decide⟩, ?_⟩
  decreasing_trivial
  unfold balance at h3
  refine IfB.d (fun c => ?_) (fun c => ?_)
  · decreasing_trivial
    refine ⟨.inl ⟨by decide, by decide⟩, ?_⟩
    decreasing_trivial
    rw [decide_eq_true c, Bool.true_and] at h3
    exact h3
  · decreasing_trivial
    rw [decide_eq_false c, Bool.false_and] at h3
    exact h3
/-- the room behind a tie, whose depth is below n -/
@[reducible] def tfRoomT (n : Nat) : TF := fun ws M R _ => ∃ (d : PyData) (r : Nat), ws = [.d d, .d (.int (r : Int))] ∧ (txt d = true ∧ d.depth < n ∧ r ≤ 1000) ∧ R (.d (optD (roomT n d r))) M
abbrev sRoomT : Stmt := top 30
theorem scRoomT : FnScope ["thing", "room", "middle", "behind"] ["thing", "room"] (defScope sRoomT) := ⟨rfl, rfl, rfl, by decide +kernel, rfl, by decide +kernel, by decide +kernel⟩
theorem ok_roomT1 {f : Addr} {fd : FuncData} {n j : Nat} (F : Fun K "room_behind_tie" "room_behind_tie" sRoomT f fd) (Uroom_behind_tie : Use P w K mg base "room_behind_tie" ["thing", "room"] (j + n) (spD K 2 (tfRoomT n))) (Uhas_tie_form : Use P w K mg base "has_tie_form" ["thing"] j (spD K 1 (tfB tieForm))) (Uis_balance : Use P w K mg base "is_balance" ["one", "other"] j (spD K 2 tfBal)) (T : Bl mg) :
    FnOk P w K mg base CX0 (j + n + 1) f fd ["thing", "room"] (spD K 2 (tfRoomT (n + 1))) := by
  refine okD F scRoomT rfl fun cdv A outer s H E hr => ?_
  refine ⟨_, _, (pss_cons (ps_if (pt_cmpR op_isN (pv 0) pe_non (nomark _)) (pss_one (ps_ret (pv 1))) pss_nil)
    (pss_cons (ps_if (PW.pt (pw_or (pt_cmpR op_eq (pv 1) pe_int (nomark _)) (pw_or1 (pt_not (pt_val (pe_call Uhas_tie_form.ok (hr.mono (by omega)) rfl Uhas_tie_form.m Uhas_tie_form.kp Uhas_tie_form.b .nil pass0 (pa_cons (pv 0) pa_nil))))))) (pss_one (ps_ret pe_non)) pss_nil)
    (pss_cons (ps_set (i := 2) scRoomT.nd rfl (.inl rfl) (pe_call Uroom_behind_tie.ok (hr.mono (by omega)) rfl Uroom_behind_tie.m Uroom_behind_tie.kp Uroom_behind_tie.b .nil pass0 (pa_cons (pe_ix ix_tup (pv 0) pe_int (fun _ _ => rfl)) (pa_cons (pe_op op_sub (pv 1) pe_int) pa_nil))))
    (pss_cons (ps_if (pt_cmpR op_isN (pv 2) pe_non (nomark _)) (pss_one (ps_ret pe_non)) pss_nil)
    (pss_cons (ps_set (i := 3) scRoomT.nd rfl (.inl rfl) (pe_call Uroom_behind_tie.ok (hr.mono (by omega)) rfl Uroom_behind_tie.m Uroom_behind_tie.kp Uroom_behind_tie.b .nil pass0 (pa_cons (pe_ix ix_tup (pv 0) pe_int (fun _ _ => rfl)) (pa_cons (pv 2) pa_nil))))
    (pss_cons (ps_if (PW.pt (pw_or (pt_cmpR op_isN (pv 3) pe_non (nomark _)) (pw_or (pt_cmpR op_ne (pe_ix ix_tup (pv 0) pe_int (fun _ _ => rfl)) (pe_op op_sub (pv 1) (pv 3)) (nomark _)) (pw_or1 (pt_not (pt_val (pe_call Uis_balance.ok (hr.mono (by omega)) rfl Uis_balance.m Uis_balance.kp Uis_balance.b .nil pass0 (pa_cons (pe_op op_sub (pe_op op_sub (pv 1) pe_int) (pv 2)) (pa_cons (pe_op op_sub (pv 2) (pv 3)) pa_nil))))))))) (pss_one (ps_ret pe_non)) pss_nil)
    (pss_one (ps_ret (pv 3))))))))),
    (ss_cons (ss_if (st_test (se_op so_isN se_nm se_non)) (ss_ret se_nm) ss_nil)
    (ss_cons (ss_if (st_or (st_test (se_op so_eqS se_nm se_int)) (st_not (st_val (se_call (sa_cons se_nm sa_nil))))) (ss_ret se_non) ss_nil)
    (ss_cons (ss_set (se_call (sa_cons (se_op so_ixT se_nm se_int) (sa_cons (se_op so_sub se_nm se_int) sa_nil))))
    (ss_cons (ss_if (st_test (se_op so_isN se_nm se_non)) (ss_ret se_non) ss_nil)
    (ss_cons (ss_set (se_call (sa_cons (se_op so_ixT se_nm se_int) (sa_cons se_nm sa_nil))))
    (ss_cons (ss_if (st_or (st_test (se_op so_isN se_nm se_non)) (st_or (st_test (se_op so_neS (se_op so_ixT se_nm se_int) (se_op so_sub se_nm se_nm))) (st_not (st_val (se_call (sa_cons (se_op so_sub (se_op so_sub se_nm se_int) se_nm) (sa_cons (se_op so_sub se_nm se_nm) sa_nil))))))) (ss_ret se_non) ss_nil)
    (ss_ret se_nm))))))), fun ws M R RX hl h => ?_⟩
  obtain ⟨d, r, rfl, ⟨ht, hd, hr1⟩, h3⟩ := h
  by_cases hne : d = .none
  · subst hne
    simp only [start0, len_c, len_n, map_c, map_n, app_c, app_n, rep_0, rep_s, Nat.reduceAdd, Nat.reduceSub]
    decreasing_trivial
    refine ⟨rfl, ?_⟩
    decreasing_trivial
    simp only [roomT, optD] at h3
    exact h3
  · have hin : isN (W.d d) = some false := by cases d <;> first | rfl | exact absurd rfl hne
    simp only [start0, len_c, len_n, map_c, map_n, app_c, app_n, rep_0, rep_s, Nat.reduceAdd, Nat.reduceSub]
    decreasing_trivial
    refine ⟨rfl, ?_⟩
    rw [hin]
    decreasing_trivial
    refine IfB.d (fun c => ?_) (fun c => ?_)
    · decreasing_trivial
      rw [roomT_no hne (.inl (by omega)), optD] at h3
      exact h3
    · decreasing_trivial
      refine ⟨ht, ?_⟩
      cases hf : tieForm d with
      | false =>
        decreasing_trivial
        rw [roomT_no hne (.inr hf), optD] at h3
        exact h3
      | true =>
        obtain ⟨l, it, rt, cc, rfl, hc0, hit⟩ := tieForm_of hf
        obtain ⟨r, rfl⟩ : ∃ r', r = r' + 1 := ⟨r - 1, by omega⟩
        rw [txt] at ht
        have tl := txtAll_get (i := 0) ht rfl
        have tr := txtAll_get (i := 2) ht rfl
        simp only [PyData.depth, PyData.depthAll] at hd
        rw [roomT, hit, show isCount (.int cc) = true by rw [isCount]; exact decide_eq_true hc0] at h3
        simp only [Bool.and_self, if_true] at h3
        decreasing_trivial
        refine ⟨l, r, by show [W.d l, W.d (.int (((r + 1 : Nat) : Int) - 1))] = _; rw [show (((r + 1 : Nat) : Int) - 1) = (r : Int) by omega], ⟨tl, by omega, by omega⟩, ?_⟩
        cases h1 : roomT n l r with
        | none =>
          rw [h1] at h3
          decreasing_trivial
          refine ⟨rfl, ?_⟩
          decreasing_trivial
          exact h3
        | some m =>
          rw [h1] at h3
          simp only [Option.bind_some] at h3
          have m1 := roomT_le h1
          decreasing_trivial
          refine ⟨rfl, ?_⟩
          decreasing_trivial
          refine ⟨rt, m, rfl, ⟨tr, by omega, by omega⟩, ?_⟩
          cases h2 : roomT n rt m with
          | none =>
            rw [h2] at h3
            decreasing_trivial
            refine ⟨rfl, ?_⟩
            decreasing_trivial
            exact h3
          | some b =>
            rw [h2] at h3
            simp only [Option.bind_some] at h3
            have b1 := roomT_le h2
            rw [show PyData.eqv (.int cc) (.int (((r + 1 : Nat) : Int) - (b : Nat))) = decide (cc = ((r + 1 : Nat) : Int) - (b : Nat)) by rw [PyData.eqv]; rfl] at h3
            decreasing_trivial
            refine ⟨rfl, ?_⟩
            decreasing_trivial
            refine IfB.n (fun c2 => ?_) (fun c2 => ?_)
            · decreasing_trivial
              rw [decide_eq_false c2, Bool.false_and, if_neg Bool.false_ne_true] at h3
              exact h3
            · rw [decide_eq_true c2, Bool.true_and] at h3
              decreasing_trivial
              refine ⟨⟨by show -2000 ≤ ((r + 1 : Nat) : Int) - 1 - m; omega, by show ((r + 1 : Nat) : Int) - 1 - m ≤ 2000; omega, by show -2000 ≤ (m : Int) - b; omega, by show (m : Int) - b ≤ 2000; omega⟩, ?_⟩
              rw [show (((r + 1 : Nat) : Int) - 1 - (m : Nat)) = ((r : Nat) : Int) - (m : Nat) by omega]
              cases hb : balance ((r : Nat) - (m : Nat)) ((m : Nat) - (b : Nat)) with
              | false =>
                rw [hb] at h3
                decreasing_trivial
                exact h3
              | true =>
                rw [hb] at h3
                decreasing_trivial
                exact h3
theorem ok_roomT {f : Addr} {fd : FuncData} {j : Nat} (F : Fun K "room_behind_tie" "room_behind_tie" sRoomT f fd) (mF : mg "room_behind_tie" = some (.ref f)) (Uhas_tie_form : Use P w K mg base "has_tie_form" ["thing"] j (spD K 1 (tfB tieForm))) (Uis_balance : Use P w K mg base "is_balance" ["one", "other"] j (spD K 2 tfBal)) (T : Bl mg) : ∀ n, FnOk P w K mg base CX0 (j + n) f fd ["thing", "room"] (spD K 2 (tfRoomT n))
  | 0 => no0 fun ws M R RX ⟨_, _, _, ⟨_, h, _⟩, _⟩ => by omega
  | n + 1 => ok_roomT1 F ⟨f, fd, ok_roomT F mF Uhas_tie_form Uis_balance T n, mF, F.kp, F.binds (ps := ["thing", "room"]) fun _ _ _ _ _ _ us hl => match us, hl with | [_, _], _ => rfl⟩ Uhas_tie_form Uis_balance T
abbrev sIsEven : Stmt := top 29
theorem scIsEven : FnScope ["thing"] ["thing"] (defScope sIsEven) := ⟨rfl, rfl, rfl, by decide +kernel, rfl, by decide +kernel, by decide +kernel⟩
theorem ok_isEven {f : Addr} {fd : FuncData} {k j : Nat} (F : Fun K "is_even" "is_even" sIsEven f fd) (Uroom_behind_tie : Use P w K mg base "room_behind_tie" ["thing", "room"] j (spD K 2 (tfRoomT 70))) (hj : j ≤ k) (T : Bl mg) (CT : ∃ t, mg "TIED" = some (.int 1000 t)) : FnOk P w K mg base CX0 (k + 1) f fd ["thing"] (spD K 1 (fun ws M R _ => g1 ws fun x => gD x fun d => (txt d = true ∧ d.depth < 70) ∧ R (.d (.bool (roomT 70 d 1000).isSome)) M)) := by
  refine okD F scIsEven rfl fun cdv A outer s H E hr => ?_
  refine ⟨_, _, (pss_one (ps_ret (pe_cmpR op_notN (pe_call Uroom_behind_tie.ok (hr.mono (by omega)) rfl Uroom_behind_tie.m Uroom_behind_tie.kp Uroom_behind_tie.b .nil pass0 (pa_cons (pv 0) (pa_cons (c_int CT) pa_nil))) pe_non (nomark _)))),
    (ss_ret (se_op so_notN (se_call (sa_cons se_nm (sa_cons se_int sa_nil))) se_non)), fun ws M R RX hl h => ?_⟩
  obtain ⟨x, rfl, h1⟩ := g1_of h
  obtain ⟨d, rfl, ⟨ht, hd⟩, h2⟩ := gD_of h1
  simp only [start0, len_c, len_n, map_c, map_n, app_c, app_n, rep_0, rep_s, Nat.reduceAdd, Nat.reduceSub]
  decreasing_trivial
  refine ⟨d, 1000, rfl, ⟨ht, hd, by decide⟩, ?_⟩
  cases c : roomT 70 d 1000 <;> rw [c] at h2 <;> (decreasing_trivial_pre_omega; exact h2)
/-- the items of an even tie -/
@[reducible] def tfItems (n : Nat) : TF := fun ws M R _ => g1 ws fun x => gD x fun d => (d.depth < n ∧ ∃ r m, roomT n d r = some m ∧ r ≤ 1000) ∧ R (.d (.list (itemsT n d))) M
abbrev sAllIn : Stmt := top 15
theorem scAllIn : FnScope ["tie"] ["tie"] (defScope sAllIn) := ⟨rfl, rfl, rfl, by decide +kernel, rfl, by decide +kernel, by decide +kernel⟩
theorem ok_allIn1 {f : Addr} {fd : FuncData} {n : Nat} (F : Fun K "all_in" "all_in" sAllIn f fd) (Uall_in : Use P w K mg base "all_in" ["tie"] n (spD K 1 (tfItems n))) (T : Bl mg) :
    FnOk P w K mg base CX0 (n + 1) f fd ["tie"] (spD K 1 (tfItems (n + 1))) := by
  refine okD F scAllIn rfl fun cdv A outer s H E hr => ?_
  refine ⟨_, _, (pss_cons (ps_if (pt_cmpR op_isN (pv 0) pe_non (nomark _)) (pss_one (ps_ret (pe_lst pa_nil))) pss_nil)
    (pss_one (ps_ret (pe_op op_cat (pe_op op_cat (pe_call Uall_in.ok (hr.mono (by omega)) rfl Uall_in.m Uall_in.kp Uall_in.b .nil pass0 (pa_cons (pe_ix ix_tup (pv 0) pe_int (fun _ _ => rfl)) pa_nil)) (pe_lst (pa_cons (pe_ix ix_tup (pv 0) pe_int (fun _ _ => rfl)) pa_nil))) (pe_call Uall_in.ok (hr.mono (by omega)) rfl Uall_in.m Uall_in.kp Uall_in.b .nil pass0 (pa_cons (pe_ix ix_tup (pv 0) pe_int (fun _ _ => rfl)) pa_nil)))))),
    (ss_cons (ss_if (st_test (se_op so_isN se_nm se_non)) (ss_ret (se_lsf sa_nil)) ss_nil)
    (ss_ret (se_op so_catF (se_op so_catF (se_call (sa_cons (se_op so_ixT se_nm se_int) sa_nil)) (se_lsf (sa_cons (se_op so_ixT se_nm se_int) sa_nil))) (se_call (sa_cons (se_op so_ixT se_nm se_int) sa_nil))))), fun ws M R RX hl h => ?_⟩
  obtain ⟨x, rfl, h1⟩ := g1_of h
  obtain ⟨d, rfl, ⟨hdp, r, m, hr2, hr3⟩, h2⟩ := gD_of h1
  cases d with
  | none =>
    simp only [start0, len_c, len_n, map_c, map_n, app_c, app_n, rep_0, rep_s, Nat.reduceAdd, Nat.reduceSub]
    decreasing_trivial
    refine ⟨rfl, ?_⟩
    decreasing_trivial
    rw [itemsT] at h2
    · exact h2
    · simp
  | tuple ds =>
    obtain ⟨n', l, it, rt, cc, r', m', e1, e2, e3, k1, k2, _⟩ := roomT_kids hr2
    cases e1
    cases e2
    cases e3
    have i1 := roomT_items k1
    have i2 := roomT_items k2
    rw [itemsT] at h2
    simp only [start0, len_c, len_n, map_c, map_n, app_c, app_n, rep_0, rep_s, Nat.reduceAdd, Nat.reduceSub]
    decreasing_trivial
    refine ⟨rfl, ?_⟩
    decreasing_trivial
    simp only [PyData.depth, PyData.depthAll] at hdp
    refine ⟨⟨by omega, r', m', k1, by omega⟩, ?_⟩
    decreasing_trivial
    refine ⟨sz1000 (by simp; omega), ?_⟩
    decreasing_trivial
    refine ⟨⟨by omega, m', m, k2, by omega⟩, ?_⟩
    decreasing_trivial
    exact ⟨sz1000 (by simp; omega), h2⟩
  | _ => simp [roomT] at hr2
theorem ok_allIn {f : Addr} {fd : FuncData} (F : Fun K "all_in" "all_in" sAllIn f fd) (mF : mg "all_in" = some (.ref f)) (T : Bl mg) : ∀ n, FnOk P w K mg base CX0 n f fd ["tie"] (spD K 1 (tfItems n))
  | 0 => no0 fun ws M R RX h => by
    obtain ⟨x, rfl, h1⟩ := g1_of h
    obtain ⟨d, rfl, ⟨h, _⟩, h2⟩ := gD_of h1
    omega
  | n + 1 => ok_allIn1 F ⟨f, fd, ok_allIn F mF T n, mF, F.kp, F.binds (ps := ["tie"]) fun _ _ _ _ _ _ us hl => match us, hl with | [_], _ => rfl⟩ T
end
end Tl

set_option Elab.async false
set_option linter.all false
set_option maxRecDepth 100000
set_option maxHeartbeats 4000000
/-! Ties that are doubled. -/
namespace Tl
open PySem L2
def dbl : Nat → PyData
  | 0 => .none
  | k + 1 => .tuple [dbl k, .int (k : Int), dbl k, .int ((2 ^ (k + 1) - 1 : Nat) : Int)]
theorem room_dbl : ∀ {k n r : Nat}, k ≤ n → roomT n (dbl k) r = if 2 ^ k ≤ r + 1 then some (r + 1 - 2 ^ k) else none
  | 0, n, r, _ => by
    rw [dbl, if_pos (by simp), show r + 1 - 2 ^ 0 = r by simp]
    cases n <;> rw [roomT]
  | k + 1, 0, r, h => by omega
  | k + 1, n + 1, 0, h => by
    have : 2 ≤ 2 ^ (k + 1) := by
      rw [Nat.pow_succ]
      have := Nat.one_le_two_pow (n := k)
      omega
    rw [if_neg (by omega), dbl]
    simp [roomT]
  | k + 1, n + 1, r + 1, h => by
    have p1 : 2 ^ (k + 1) = 2 ^ k + 2 ^ k := by rw [Nat.pow_succ]; omega
    have p0 := Nat.one_le_two_pow (n := k)
    have hf : (isItem (.int (k : Int)) && isCount (.int ((2 ^ (k + 1) - 1 : Nat) : Int))) = true := by
      rw [isItem, isVal, isCount, Bool.true_and]
      · exact decide_eq_true (by omega)
      · simp
    rw [dbl, roomT, if_pos hf, room_dbl (by omega)]
    by_cases c1 : 2 ^ k ≤ r + 1
    · rw [if_pos c1, Option.bind_some, room_dbl (by omega)]
      by_cases c2 : 2 ^ (k + 1) ≤ r + 1 + 1
      · rw [if_pos (show 2 ^ k ≤ r + 1 - 2 ^ k + 1 by omega), if_pos c2, Option.bind_some, if_pos]
        · congr 1
          omega
        · rw [Bool.and_eq_true]
          constructor
          · rw [PyData.eqv]
            exact beq_iff_eq.mpr (by omega)
          · unfold balance
            rw [decide_eq_true (by omega), decide_eq_true (by omega)]
            rfl
      · rw [if_neg (show ¬ 2 ^ k ≤ r + 1 - 2 ^ k + 1 by omega), if_neg c2, Option.bind_none]
    · rw [if_neg c1, if_neg (by omega), Option.bind_none]
theorem even_dbl {k : Nat} (h : k < 60) : (roomT 70 (dbl k) 1000).isSome = decide (k < 10) := by
  rw [room_dbl (by omega)]
  by_cases c : k < 10
  · have : 2 ^ k ≤ 2 ^ 9 := Nat.pow_le_pow_right (by decide) (by omega)
    rw [if_pos (by omega), decide_eq_true c]
    rfl
  · have : 2 ^ 10 ≤ 2 ^ k := Nat.pow_le_pow_right (by decide) (by omega)
    rw [if_neg (by omega), decide_eq_false c]
    rfl
theorem dbl_depth : ∀ k, (dbl k).depth ≤ k
  | 0 => Nat.le_refl _
  | k + 1 => by
    have := dbl_depth k
    rw [dbl]
    simp only [PyData.depth, PyData.depthAll]
    omega
theorem dbl_txt : ∀ k, txt (dbl k) = true
  | 0 => rfl
  | k + 1 => by
    rw [dbl, txt, txtAll, txtAll, txtAll, txtAll, txtAll, dbl_txt k]
    rfl
end Tl

set_option Elab.async false
set_option linter.all false
set_option maxRecDepth 100000
set_option maxHeartbeats 4000000
/-! Ties that are made of items. -/
namespace Tl
open PySem L2
/-- an item that is drawn -/
def ItOk1 (d : PyData) : Prop := isItem d = true ∧ Gk 4000 1 d
/-- the count that a tie tells -/
def cntW : PyData → PyData
  | .tuple [_, _, _, c] => c
  | _ => .int 0
def ivI : PyData → Int
  | .int i => i
  | _ => 0
def itg : Nat → PyData → Prop
  | n + 1, .tuple [l, it, rt, c] => (isItem it = true → Gk 20000 1 it) ∧ ivI c ≤ 20 ∧ itg n l ∧ itg n rt
  | _, _ => True
def ITG (d : PyData) : Prop := ∀ n, itg n d
theorem ITG.four {l it rt c : PyData} (h : isItem it = true → Gk 20000 1 it) (hc : ivI c ≤ 20) (hl : ITG l) (hr : ITG rt) : ITG (.tuple [l, it, rt, c]) := fun n => by
  cases n with
  | zero => trivial
  | succ n => exact ⟨h, hc, hl n, hr n⟩
theorem ITG.of {l it rt c : PyData} (h : ITG (.tuple [l, it, rt, c])) : (isItem it = true → Gk 20000 1 it) ∧ ivI c ≤ 20 ∧ ITG l ∧ ITG rt := ⟨(h 1).1, (h 1).2.1, fun n => (h (n + 1)).2.2.1, fun n => (h (n + 1)).2.2.2⟩
theorem ITG.no {d : PyData} (h : ∀ l it rt c, d ≠ .tuple [l, it, rt, c]) : ITG d := fun n => by
  unfold itg
  split
  · rename_i l it rt c
    exact absurd rfl (h l it rt c)
  · trivial
theorem ITG.none : ITG .none := .no fun _ _ _ _ h => by cases h
def TieF (d : PyData) : Prop := d = .none ∨ ∃ x y z c, d = .tuple [x, y, z, c]
structure Made (its : List PyData) (d : PyData) : Prop where
  fm : TieF d
  cnt : cntW d = .int (its.length : Nat)
  room : ∀ n r, its.length ≤ n → its.length ≤ r → roomT n d r = some (r - its.length)
  items : ∀ n, its.length ≤ n → itemsT n d = its
  g : Gk (6000 * its.length + 4) (its.length + 1) d
  itg : ITG d
theorem made_nil : Made [] .none := ⟨.inl rfl, rfl, fun n r _ _ => by cases n <;> simp [roomT], fun n _ => by cases n <;> simp [itemsT], gk_none (by decide), .none⟩
theorem made_node {A B : List PyData} {it l rt : PyData} (hA : Made A l) (hB : Made B rt) (hi : ItOk1 it) (h1 : A.length + 1 ≤ 3 * (B.length + 1)) (h2 : B.length + 1 ≤ 3 * (A.length + 1)) (hs : A.length + B.length < 20) :
    Made (A ++ it :: B) (.tuple [l, it, rt, .int ((A.length : Int) + 1 + (B.length : Nat))]) := by
  have hl : (A ++ it :: B).length = A.length + 1 + B.length := by rw [List.length_append, List.length_cons]; omega
  refine ⟨.inr ⟨_, _, _, _, rfl⟩, ?_, fun n r hn hr => ?_, fun n hn => ?_, ?_, .four (fun _ => hi.2.mono (by decide) (by decide)) (by show (A.length : Int) + 1 + (B.length : Nat) ≤ 20; omega) hA.itg hB.itg⟩
  · rw [hl]
    show PyData.int _ = _
    congr 1
  · rw [hl] at hn hr ⊢
    obtain ⟨n, rfl⟩ : ∃ n', n = n' + 1 := ⟨n - 1, by omega⟩
    obtain ⟨r, rfl⟩ : ∃ r', r = r' + 1 := ⟨r - 1, by omega⟩
    have hc : isCount (.int ((A.length : Int) + 1 + (B.length : Nat))) = true := by
      rw [isCount]
      exact decide_eq_true (by omega)
    rw [roomT, hi.1, hc, if_pos (by rfl), hA.room n r (by omega) (by omega), Option.bind_some, hB.room n _ (by omega) (by omega), Option.bind_some, if_pos]
    · congr 1
      omega
    · rw [Bool.and_eq_true]
      constructor
      · rw [PyData.eqv]
        exact beq_iff_eq.mpr (by omega)
      · unfold balance
        rw [decide_eq_true (by omega), decide_eq_true (by omega)]
        rfl
  · rw [hl] at hn
    obtain ⟨n, rfl⟩ : ∃ n', n = n' + 1 := ⟨n - 1, by omega⟩
    rw [itemsT, hA.items n (by omega), hB.items n (by omega), List.append_assoc]
    rfl
  · rw [hl]
    have g1 := hA.g.mono (k' := A.length + B.length + 1) (Nat.le_refl _) (by omega)
    have g2 := hB.g.mono (k' := A.length + B.length + 1) (Nat.le_refl _) (by omega)
    have g3 := hi.2.mono (k' := A.length + B.length + 1) (Nat.le_refl _) (by omega)
    have g4 : Gk 1930 (A.length + B.length + 1) (.int ((A.length : Int) + 1 + (B.length : Nat))) := gk_i (by omega) (by omega)
    exact ((Gks.cons (m'' := 6000 * A.length + 6000 * B.length + 5950) g1 (.cons (m'' := 6000 * B.length + 5940) g3 (.cons (m'' := 6000 * B.length + 1938) g2 (.cons (m' := 0) (m'' := 1932) g4 .nil (by decide)) (by omega)) (by omega)) (by omega)).tup (m' := 6000 * A.length + 6000 * B.length + 5953) (by omega)).mono (by omega) (by omega)
end Tl

set_option Elab.async false
set_option linter.all false
set_option maxRecDepth 100000
set_option maxHeartbeats 8000000
namespace Tl
open PySem L2 RZ
local macro_rules
  | `(tactic| decreasing_trivial) => `(tactic| ((with_reducible (conv => whnf)); (repeat ((first | (with_reducible refine gDs_c ?_) | (with_reducible refine gDs_n ?_) | (with_reducible refine gNs_c ?_) | (with_reducible refine gNs_n ?_) | (with_reducible refine gO_i tyAny_lt ?_) | (with_reducible refine gIs_c ?_) | (with_reducible refine gIs_n ?_) | (with_reducible refine gBs_c ?_) | (with_reducible refine gBs_n ?_) | (with_reducible refine gSs_c ?_) | (with_reducible refine gSs_n ?_) | (with_reducible refine gO_i tyIs_int ?_) | (with_reducible refine gO_i tyIs_bool ?_) | (with_reducible refine gO_i tyIs_str ?_) | (with_reducible refine gO_i tyIs_tuple ?_) | (with_reducible refine gO_i tyIs_list ?_) | (with_reducible refine gDs_i ?_) | (with_reducible refine gO_i (Eq.refl _) ?_) | (with_reducible refine gO_i (by assumption) ?_) | (with_reducible refine gO_i at_0 ?_) | (with_reducible refine gO_i at_m0 ?_) | (with_reducible refine gO_i at_1 ?_) | (with_reducible refine gO_i at_m1 ?_) | (with_reducible refine gO_i at_2 ?_) | (with_reducible refine gO_i at_m2 ?_) | (with_reducible refine gO_i at_3 ?_) | (with_reducible refine gO_i at_m3 ?_) | (with_reducible refine gO_i at_4 ?_) | (with_reducible refine gO_i at_m4 ?_) | (with_reducible refine gO_i at_5 ?_) | (with_reducible refine gO_i at_m5 ?_) | (with_reducible refine gO_i at_6 ?_) | (with_reducible refine gO_i at_m6 ?_) | (with_reducible refine gO_i at_7 ?_) | (with_reducible refine gO_i at_m7 ?_) | (with_reducible refine IfB.ngf ?_) | (with_reducible refine IfB.ngt ?_) | (with_reducible refine IfB.not ?_) | (with_reducible refine IfB.nil ?_) | (with_reducible refine IfB.nilT ?_) | (with_reducible refine IfB.f isE_c ?_) | (with_reducible refine IfB.t isE_n ?_) | (with_reducible refine IfB.t ?gha ?_; (case gha => rfl)) | (with_reducible refine IfB.f ?gha ?_; (case gha => rfl)) | (with_reducible refine IfB.t ?gha ?_; (case gha => assumption)) | (with_reducible refine IfB.f ?gha ?_; (case gha => assumption)) | (with_reducible refine IfB.yes (Eq.refl _) ?_) | (with_reducible refine IfB.yes ?gha ?_; (case gha => (first | omega | (simp only [len_c, len_n, List.length_map]; omega)))) | (with_reducible refine IfB.no ?gha ?_; (case gha => (first | omega | (simp only [len_c, len_n, List.length_map]; omega)))) | (with_reducible refine IfB.t ?gha ?_; (case gha => decide +kernel)) | (with_reducible refine IfB.f ?gha ?_; (case gha => decide +kernel))); (with_reducible (conv => whnf))))))
local macro_rules
  | `(tactic| decreasing_trivial_pre_omega) => `(tactic| (decreasing_trivial; (repeat ((first | ((with_reducible refine And.intro ?gha ?_); (case gha => (first | assumption | omega | exact rfl | (exact mset_same) | (exact ⟨_, mset_same⟩) | (exact Exists.intro _ (by first | exact mset_same | assumption | (rw [mset_ne (by assumption)]; first | exact mset_same | assumption))) | (exact sm_of (by omega) (by omega)) | (exact sz1000 (by first | omega | (simp; done) | (simp; omega))) | (exact Or.inl ⟨by decide, by decide⟩) | decide | (simp; done) | (refine ⟨?_, ?_⟩ <;> (first | assumption | omega | exact rfl | (exact mset_same) | (exact ⟨_, mset_same⟩) | (exact Exists.intro _ (by first | exact mset_same | assumption | (rw [mset_ne (by assumption)]; first | exact mset_same | assumption))) | (exact sm_of (by omega) (by omega)) | (exact sz1000 (by first | omega | (simp; done) | (simp; omega))) | (exact Or.inl ⟨by decide, by decide⟩) | decide | (simp; done))) | (refine ⟨?_, ?_, ?_⟩ <;> (first | assumption | omega | exact rfl | (exact mset_same) | (exact ⟨_, mset_same⟩) | (exact Exists.intro _ (by first | exact mset_same | assumption | (rw [mset_ne (by assumption)]; first | exact mset_same | assumption))) | (exact sm_of (by omega) (by omega)) | (exact sz1000 (by first | omega | (simp; done) | (simp; omega))) | (exact Or.inl ⟨by decide, by decide⟩) | decide | (simp; done))) | (refine ⟨?_, ?_, ?_, ?_⟩ <;> (first | assumption | omega | exact rfl | (exact mset_same) | (exact ⟨_, mset_same⟩) | (exact Exists.intro _ (by first | exact mset_same | assumption | (rw [mset_ne (by assumption)]; first | exact mset_same | assumption))) | (exact sm_of (by omega) (by omega)) | (exact sz1000 (by first | omega | (simp; done) | (simp; omega))) | (exact Or.inl ⟨by decide, by decide⟩) | decide | (simp; done)))))) | (with_reducible refine exW (by first | exact mset_same | assumption | (rw [mset_ne (by assumption)]; first | exact mset_same | assumption)) ?_)); decreasing_trivial))))
def evenT (d : PyData) : Bool := (roomT 70 d 1000).isSome
@[reducible] def tfEven : TF := fun ws M R _ => g1 ws fun x => gD x fun d => (txt d = true ∧ d.depth < 70) ∧ R (.d (.bool (evenT d))) M
@[reducible] def tfChkE (C : Addr) : TF := fun ws M R RX => g1 ws fun x => gD x fun d => (txt d = true ∧ d.depth < 70) ∧ (evenT d = true → R (.d .none) M) ∧ (evenT d = false → RX ⟨.ref C, []⟩ M)
@[reducible] def tfItemsOf (C : Addr) : TF := fun ws M R RX => g1 ws fun x => gD x fun d => (txt d = true ∧ d.depth < 70) ∧ (evenT d = true → R (.d (.list (itemsT 70 d))) M) ∧ (evenT d = false → RX ⟨.ref C, []⟩ M)
section
variable {P : Program} {w : World} {K : PySem.W.Frag} {mg : Str → Option Value} {base : Heap}
abbrev sChkTie : Stmt := top 32
theorem scChkTie : FnScope ["thing"] ["thing"] (defScope sChkTie) := ⟨rfl, rfl, rfl, by decide +kernel, rfl, by decide +kernel, by decide +kernel⟩
theorem ok_chkTie {f C : Addr} {fd : FuncData} {k j : Nat} (F : Fun K "check_tie" "check_tie" sChkTie f fd) (XNoTie : Er K mg "NoTie" C) (Uis_even : Use P w K mg base "is_even" ["thing"] j (spD K 1 tfEven)) (hj : j ≤ k) :
    FnOk P w K mg base (L2.CX P w) (k + 1) f fd ["thing"] (spD K 1 (tfChkE C)) := by
  refine okDX F scChkTie rfl fun cdv A outer s H E hr => ?_
  refine ⟨_, fun RE => _, (pss_one (ps_if (pt_not (pt_val (PE.nox (pe_call Uis_even.ok (hr.mono (by omega)) rfl Uis_even.m Uis_even.kp Uis_even.b .nil pass0 (pa_cons (pv 0) pa_nil))))) (pss_one (ps_raise rfl (takes_of (E := E) rfl rfl rfl rfl) (pmk_own0 PySem.F.excBase_ValueError XNoTie.x XNoTie.g XNoTie.k (raises_own XNoTie.b XNoTie.t) (by exact rfl)))) pss_nil)), fun RE => (ss_if (st_not (st_val (se_call (sa_cons se_nm sa_nil)))) ss_raise0 ss_nil), fun ws M R RX hl h => ?_⟩
  obtain ⟨x, rfl, h1⟩ := g1_of h
  obtain ⟨d, rfl, ht, h2, h3⟩ := gD_of h1
  simp only [start0, len_c, len_n, map_c, map_n, app_c, app_n, rep_0, rep_s, Nat.reduceAdd, Nat.reduceSub]
  decreasing_trivial
  refine ⟨ht, ?_⟩
  cases c : evenT d
  · decreasing_trivial
    exact h3 c
  · decreasing_trivial
    exact h2 c
abbrev sItemsOf : Stmt := top 35
theorem scItemsOf : FnScope ["tie"] ["tie"] (defScope sItemsOf) := ⟨rfl, rfl, rfl, by decide +kernel, rfl, by decide +kernel, by decide +kernel⟩
theorem ok_itemsOf {f C : Addr} {fd : FuncData} {k j j2 : Nat} (F : Fun K "items_of" "items_of" sItemsOf f fd) (Ucheck_tie : UseX P w K mg base "check_tie" ["thing"] j (spD K 1 (tfChkE C))) (Uall_in : Use P w K mg base "all_in" ["tie"] j2 (spD K 1 (tfItems 70))) (hj : j ≤ k) (hj2 : j2 ≤ k) :
    FnOk P w K mg base (L2.CX P w) (k + 1) f fd ["tie"] (spD K 1 (tfItemsOf C)) := by
  refine okDX F scItemsOf rfl fun cdv A outer s H E hr => ?_
  refine ⟨_, fun RE => _, (pss_cons (ps_expr (pe_callS Ucheck_tie.ok (hr.mono (by omega)) rfl Ucheck_tie.m Ucheck_tie.kp Ucheck_tie.b (fun σ => passAt (takes_of (E := E) rfl rfl rfl rfl) σ) (pa_cons (pv 0) pa_nil)))
    (pss_one (ps_ret (PE.nox (pe_call Uall_in.ok (hr.mono (by omega)) rfl Uall_in.m Uall_in.kp Uall_in.b .nil pass0 (pa_cons (pv 0) pa_nil)))))), fun RE => (ss_cons (ss_drop (se_callX (sa_cons se_nm sa_nil)))
    (ss_ret (se_call (sa_cons se_nm sa_nil)))), fun ws M R RX hl h => ?_⟩
  obtain ⟨x, rfl, h1⟩ := g1_of h
  obtain ⟨d, rfl, ht, h2, h3⟩ := gD_of h1
  simp only [start0, len_c, len_n, map_c, map_n, app_c, app_n, rep_0, rep_s, Nat.reduceAdd, Nat.reduceSub]
  decreasing_trivial
  refine ⟨ht, fun c => ?_, h3⟩
  obtain ⟨m, hm⟩ := Option.isSome_iff_exists.mp c
  decreasing_trivial
  exact ⟨⟨ht.2, 1000, m, hm, by decide⟩, h2 c⟩
abbrev sItemsL : Stmt := top 50
theorem scItemsL : FnScope ["_law_tie"] ["_law_tie"] (defScope sItemsL) := ⟨rfl, rfl, rfl, by decide +kernel, rfl, by decide +kernel, by decide +kernel⟩
theorem ok_itemsL1 {f : Addr} {fd : FuncData} {n : Nat} (F : Fun K "_law_items" "_law_items" sItemsL f fd) (U_law_items : Use P w K mg base "_law_items" ["_law_tie"] n (spD K 1 (tfItems n))) (T : Bl mg) :
    FnOk P w K mg base CX0 (n + 1) f fd ["_law_tie"] (spD K 1 (tfItems (n + 1))) := by
  refine okD F scItemsL rfl fun cdv A outer s H E hr => ?_
  refine ⟨_, _, (pss_cons (ps_if (pt_cmpR op_isN (pv 0) pe_non (nomark _)) (pss_one (ps_ret (pe_lst pa_nil))) pss_nil)
    (pss_one (ps_ret (pe_op op_cat (pe_op op_cat (pe_call U_law_items.ok (hr.mono (by omega)) rfl U_law_items.m U_law_items.kp U_law_items.b .nil pass0 (pa_cons (pe_ix ix_tup (pv 0) pe_int (fun _ _ => rfl)) pa_nil)) (pe_lst (pa_cons (pe_ix ix_tup (pv 0) pe_int (fun _ _ => rfl)) pa_nil))) (pe_call U_law_items.ok (hr.mono (by omega)) rfl U_law_items.m U_law_items.kp U_law_items.b .nil pass0 (pa_cons (pe_ix ix_tup (pv 0) pe_int (fun _ _ => rfl)) pa_nil)))))),
    (ss_cons (ss_if (st_test (se_op so_isN se_nm se_non)) (ss_ret (se_lsf sa_nil)) ss_nil)
    (ss_ret (se_op so_catF (se_op so_catF (se_call (sa_cons (se_op so_ixT se_nm se_int) sa_nil)) (se_lsf (sa_cons (se_op so_ixT se_nm se_int) sa_nil))) (se_call (sa_cons (se_op so_ixT se_nm se_int) sa_nil))))), fun ws M R RX hl h => ?_⟩
  obtain ⟨x, rfl, h1⟩ := g1_of h
  obtain ⟨d, rfl, ⟨hdp, r, m, hr2, hr3⟩, h2⟩ := gD_of h1
  cases d with
  | none =>
    simp only [start0, len_c, len_n, map_c, map_n, app_c, app_n, rep_0, rep_s, Nat.reduceAdd, Nat.reduceSub]
    decreasing_trivial
    refine ⟨rfl, ?_⟩
    decreasing_trivial
    rw [itemsT] at h2
    · exact h2
    · simp
  | tuple ds =>
    obtain ⟨n', l, it, rt, cc, r', m', e1, e2, e3, k1, k2, _⟩ := roomT_kids hr2
    cases e1
    cases e2
    cases e3
    have i1 := roomT_items k1
    have i2 := roomT_items k2
    rw [itemsT] at h2
    simp only [start0, len_c, len_n, map_c, map_n, app_c, app_n, rep_0, rep_s, Nat.reduceAdd, Nat.reduceSub]
    decreasing_trivial
    refine ⟨rfl, ?_⟩
    decreasing_trivial
    simp only [PyData.depth, PyData.depthAll] at hdp
    refine ⟨⟨by omega, r', m', k1, by omega⟩, ?_⟩
    decreasing_trivial
    refine ⟨sz1000 (by simp; omega), ?_⟩
    decreasing_trivial
    refine ⟨⟨by omega, m', m, k2, by omega⟩, ?_⟩
    decreasing_trivial
    exact ⟨sz1000 (by simp; omega), h2⟩
  | _ => simp [roomT] at hr2
theorem ok_itemsL {f : Addr} {fd : FuncData} (F : Fun K "_law_items" "_law_items" sItemsL f fd) (mF : mg "_law_items" = some (.ref f)) (T : Bl mg) : ∀ n, FnOk P w K mg base CX0 n f fd ["_law_tie"] (spD K 1 (tfItems n))
  | 0 => no0 fun ws M R RX h => by
    obtain ⟨x, rfl, h1⟩ := g1_of h
    obtain ⟨d, rfl, ⟨h, _⟩, h2⟩ := gD_of h1
    omega
  | n + 1 => ok_itemsL1 F ⟨f, fd, ok_itemsL F mF T n, mF, F.kp, F.binds (ps := ["_law_tie"]) fun _ _ _ _ _ _ us hl => match us, hl with | [_], _ => rfl⟩ T
@[reducible] def tfCnt : TF := fun ws M R _ => g1 ws fun x => gD x fun d => (d = .none ∨ ∃ l it rt c, d = .tuple [l, it, rt, c]) ∧ R (.d (cntW d)) M
abbrev sCntL : Stmt := top 44
theorem scCntL : FnScope ["_law_tie"] ["_law_tie"] (defScope sCntL) := ⟨rfl, rfl, rfl, by decide +kernel, rfl, by decide +kernel, by decide +kernel⟩
theorem ok_cntL {f : Addr} {fd : FuncData} {k : Nat} (F : Fun K "_law_count" "_law_count" sCntL f fd) (T : Bl mg) : FnOk P w K mg base CX0 (k + 1) f fd ["_law_tie"] (spD K 1 tfCnt) := by
  refine okD F scCntL rfl fun cdv A outer s H E hr => ?_
  refine ⟨_, _, (pss_cons (ps_if (pt_cmpR op_isN (pv 0) pe_non (nomark _)) (pss_one (ps_ret pe_int)) pss_nil)
    (pss_one (ps_ret (pe_ix ix_tup (pv 0) pe_int (fun _ _ => rfl))))),
    (ss_cons (ss_if (st_test (se_op so_isN se_nm se_non)) (ss_ret se_int) ss_nil)
    (ss_ret (se_op so_ixT se_nm se_int))), fun ws M R RX hl h => ?_⟩
  obtain ⟨x, rfl, h1⟩ := g1_of h
  obtain ⟨d, rfl, hd, h2⟩ := gD_of h1
  rcases hd with rfl | ⟨l, it, rt, c, rfl⟩
  · simp only [start0, len_c, len_n, map_c, map_n, app_c, app_n, rep_0, rep_s, Nat.reduceAdd, Nat.reduceSub]
    decreasing_trivial_pre_omega
    exact h2
  · simp only [start0, len_c, len_n, map_c, map_n, app_c, app_n, rep_0, rep_s, Nat.reduceAdd, Nat.reduceSub]
    decreasing_trivial
    refine ⟨rfl, ?_⟩
    decreasing_trivial
    exact h2
abbrev sPlain : Stmt := top 47
theorem scPlain : FnScope ["_law_thing"] ["_law_thing"] (defScope sPlain) := ⟨rfl, rfl, rfl, by decide +kernel, rfl, by decide +kernel, by decide +kernel⟩
theorem ok_plain {f : Addr} {fd : FuncData} {k : Nat} (F : Fun K "_law_is_plain" "_law_is_plain" sPlain f fd) (T : Bl mg) : FnOk P w K mg base CX0 (k + 1) f fd ["_law_thing"] (spD K 1 (tfB isVal)) := by
  refine okD F scPlain rfl fun cdv A outer s H E hr => ?_
  refine ⟨_, _, (pss_one (ps_ret (pe_or (pe_callB (r := rIsi K) call_isi (by rfl) T.isi PyProof.Rows.boot_isinstance (pa_cons (pv 0) (pa_cons (b_str T) pa_nil))) (pe_one (pe_and (pe_callB (r := rIsi K) call_isi (by rfl) T.isi PyProof.Rows.boot_isinstance (pa_cons (pv 0) (pa_cons (b_int T) pa_nil))) (pe_one (pe_not (pe_callB (r := rIsi K) call_isi (by rfl) T.isi PyProof.Rows.boot_isinstance (pa_cons (pv 0) (pa_cons (b_bool T) pa_nil)))))))))),
    (ss_ret (se_or (se_cb sc_isi (sa_cons se_nm (sa_cons se_o sa_nil))) (se_and (se_cb sc_isi (sa_cons se_nm (sa_cons se_o sa_nil))) (se_not (se_cb sc_isi (sa_cons se_nm (sa_cons se_o sa_nil))))))), fun ws M R RX hl h => ?_⟩
  obtain ⟨x, rfl, h1⟩ := g1_of h
  obtain ⟨d, rfl, ht, h2⟩ := gD_of h1
  cases d <;> (simp only [start0, len_c, len_n, map_c, map_n, app_c, app_n, rep_0, rep_s, Nat.reduceAdd, Nat.reduceSub]; decreasing_trivial; exact h2)
end
end Tl

set_option Elab.async false
set_option linter.all false
set_option maxRecDepth 100000
set_option maxHeartbeats 4000000
/-! Even ties, place by place. -/
namespace Tl
open PySem L2
def nbI (d : PyData) : Bool := isInt d && !isBl d
def tieOk : PyData → Bool
  | .none => true
  | .tuple [_, _, _, _] => true
  | _ => false
def locT (l it rt c : PyData) : Bool :=
  isItem it && (tieOk l && tieOk rt) && (nbI (cntW l) && nbI (cntW rt) && nbI c) && decide (0 ≤ min (ivI (cntW l)) (ivI (cntW rt))) && decide (ivI c = ivI (cntW l) + ivI (cntW rt) + 1) && decide (max (ivI (cntW l)) (ivI (cntW rt)) + 1 ≤ 3 * (min (ivI (cntW l)) (ivI (cntW rt)) + 1))
def evn : Nat → PyData → Bool
  | _, .none => true
  | n + 1, .tuple [l, it, rt, c] => locT l it rt c && (evn n l && evn n rt)
  | _, _ => false
theorem nb_int {d : PyData} (h : nbI d = true) : ∃ i, d = .int i := by
  cases d <;> simp [nbI, isInt, isBl] at h
  exact ⟨_, rfl⟩
theorem tie4 {d : PyData} (h1 : ∀ l it rt c, d ≠ .tuple [l, it, rt, c]) (h2 : d ≠ .none) : (∀ n r, roomT n d r = none) ∧ (∀ n, evn n d = false) ∧ tieOk d = false := by
  cases d with
  | none => exact absurd rfl h2
  | tuple ds =>
    match ds, h1 with
    | [], _ => exact ⟨fun n r => by simp [roomT], fun n => by simp [evn], rfl⟩
    | [_], _ => exact ⟨fun n r => by simp [roomT], fun n => by simp [evn], rfl⟩
    | [_, _], _ => exact ⟨fun n r => by simp [roomT], fun n => by simp [evn], rfl⟩
    | [_, _, _], _ => exact ⟨fun n r => by simp [roomT], fun n => by simp [evn], rfl⟩
    | [l, it, rt, c], h1 => exact absurd rfl (h1 l it rt c)
    | _ :: _ :: _ :: _ :: _ :: _, _ => exact ⟨fun n r => by simp [roomT], fun n => by simp [evn], rfl⟩
  | _ => exact ⟨fun n r => by simp [roomT], fun n => by simp [evn], rfl⟩
theorem tie_cases (d : PyData) : d = .none ∨ (∃ l it rt c, d = .tuple [l, it, rt, c]) ∨ ((∀ l it rt c, d ≠ .tuple [l, it, rt, c]) ∧ d ≠ .none) := by
  by_cases h1 : d = .none
  · exact .inl h1
  · by_cases h2 : ∃ l it rt c, d = .tuple [l, it, rt, c]
    · exact .inr (.inl h2)
    · exact .inr (.inr ⟨fun l it rt c e => h2 ⟨l, it, rt, c, e⟩, h1⟩)
theorem loc_of {l it rt c : PyData} (h : locT l it rt c = true) : ∃ (a b : Nat), isItem it = true ∧ cntW l = .int a ∧ cntW rt = .int b ∧ c = .int ((a : Int) + b + 1) ∧ a + 1 ≤ 3 * (b + 1) ∧ b + 1 ≤ 3 * (a + 1) := by
  unfold locT at h
  simp only [Bool.and_eq_true, decide_eq_true_eq] at h
  obtain ⟨⟨⟨⟨⟨h1, _⟩, ⟨h2, h3⟩, h4⟩, h5⟩, h6⟩, h7⟩ := h
  obtain ⟨a, ea⟩ := nb_int h2
  obtain ⟨b, eb⟩ := nb_int h3
  obtain ⟨i, rfl⟩ := nb_int h4
  rw [ea, eb] at h5 h6 h7
  simp only [ivI] at h5 h6 h7
  refine ⟨a.toNat, b.toNat, h1, ?_, ?_, ?_, by omega, by omega⟩
  · rw [ea]; congr 1; omega
  · rw [eb]; congr 1; omega
  · congr 1; omega
theorem loc_to {l it rt : PyData} {a b : Nat} (h1 : isItem it = true) (ha : cntW l = .int a) (hb : cntW rt = .int b) (tl : tieOk l = true) (tr : tieOk rt = true) (h2 : a + 1 ≤ 3 * (b + 1)) (h3 : b + 1 ≤ 3 * (a + 1)) : locT l it rt (.int ((a : Int) + b + 1)) = true := by
  unfold locT
  rw [h1, ha, hb, tl, tr]
  have e1 : 0 ≤ min (a : Int) (b : Int) := by omega
  have e3 : max (a : Int) (b : Int) + 1 ≤ 3 * (min (a : Int) (b : Int) + 1) := by omega
  show (true && (true && true) && (true && true && true) && decide (0 ≤ min (a : Int) (b : Int)) && decide ((a : Int) + b + 1 = a + b + 1) && decide (max (a : Int) (b : Int) + 1 ≤ 3 * (min (a : Int) (b : Int) + 1))) = true
  rw [decide_eq_true e1, decide_eq_true rfl, decide_eq_true e3]
  rfl
theorem evn_ok {n : Nat} {d : PyData} (h : evn n d = true) : tieOk d = true ∧ ∃ a : Nat, cntW d = .int a := by
  rcases tie_cases d with rfl | ⟨l, it, rt, c, rfl⟩ | ⟨h1, h2⟩
  · exact ⟨rfl, 0, rfl⟩
  · cases n with
    | zero => simp [evn] at h
    | succ n =>
      rw [evn, Bool.and_eq_true] at h
      obtain ⟨a, b, _, _, _, rfl, _⟩ := loc_of h.1
      exact ⟨rfl, a + b + 1, by show PyData.int _ = _; congr 1⟩
  · rw [(tie4 h1 h2).2.1] at h
    cases h
theorem room_evn : ∀ (n : Nat) (d : PyData) (r : Nat), roomT n d r = if evn n d = true ∧ ivI (cntW d) ≤ r then some (r - (ivI (cntW d)).toNat) else none
  | n, d, r => by
    rcases tie_cases d with rfl | ⟨l, it, rt, c, rfl⟩ | ⟨h1, h2⟩
    · rw [if_pos ⟨by cases n <;> rfl, by show (0 : Int) ≤ r; omega⟩]
      cases n <;> rfl
    · cases n with
      | zero => simp [roomT, evn]
      | succ n =>
        by_cases he : evn (n + 1) (.tuple [l, it, rt, c]) = true
        · have he' := he
          rw [evn, Bool.and_eq_true, Bool.and_eq_true] at he'
          obtain ⟨a, b, hi, ha, hb, rfl, k1, k2⟩ := loc_of he'.1
          have il := room_evn n l
          have ir := room_evn n rt
          rw [ha] at il
          rw [hb] at ir
          simp only [he'.2.1, he'.2.2, true_and, ivI] at il ir
          have e0 : ivI (cntW (.tuple [l, it, rt, .int ((a : Int) + b + 1)])) = (a : Int) + b + 1 := rfl
          rw [e0]
          cases r with
          | zero => rw [if_neg (fun z => by have := z.2; omega)]; simp [roomT]
          | succ r =>
            have hc : isCount (.int ((a : Int) + b + 1)) = true := by rw [isCount]; exact decide_eq_true (by omega)
            rw [roomT, hi, hc, if_pos (by rfl), il]
            by_cases c1 : (a : Int) ≤ (r : Nat)
            · rw [if_pos c1, Option.bind_some, ir]
              by_cases c2 : (b : Int) ≤ ((r - (a : Int).toNat : Nat) : Int)
              · rw [if_pos c2, Option.bind_some, if_pos, if_pos ⟨he, by omega⟩]
                · congr 1; omega
                · rw [Bool.and_eq_true]
                  constructor
                  · rw [PyData.eqv]
                    exact beq_iff_eq.mpr (by omega)
                  · unfold balance
                    rw [decide_eq_true (by omega), decide_eq_true (by omega)]
                    rfl
              · rw [if_neg c2, Option.bind_none, if_neg (fun z => c2 (by have := z.2; omega))]
            · rw [if_neg c1, Option.bind_none, if_neg (fun z => c1 (by have := z.2; omega))]
        · rw [if_neg (fun z => he z.1)]
          cases hr : roomT (n + 1) (.tuple [l, it, rt, c]) r with
          | none => rfl
          | some m =>
            exfalso
            cases r with
            | zero => simp [roomT] at hr
            | succ r =>
              rw [roomT] at hr
              split at hr
              · rename_i hic
                rw [Bool.and_eq_true] at hic
                rw [room_evn n l r] at hr
                split at hr
                · rename_i hl
                  rw [Option.bind_some, room_evn n rt _] at hr
                  split at hr
                  · rename_i hrr
                    rw [Option.bind_some] at hr
                    split at hr
                    · rename_i hb
                      rw [Bool.and_eq_true] at hb
                      obtain ⟨t1, a, ea⟩ := evn_ok hl.1
                      obtain ⟨t2, b, eb⟩ := evn_ok hrr.1
                      have q1 := hl.2
                      have q2 := hrr.2
                      rw [ea] at q1 hb q2
                      rw [eb] at q2 hb
                      simp only [ivI] at q1 q2 hb
                      unfold balance at hb
                      simp only [Bool.and_eq_true, decide_eq_true_eq] at hb
                      cases c with
                      | int i =>
                        have h0 := hb.1
                        rw [PyData.eqv] at h0
                        have h0' := beq_iff_eq.mp h0
                        have e : i = (a : Int) + b + 1 := by omega
                        subst e
                        apply he
                        rw [evn, loc_to hic.1 ea eb t1 t2 (by omega) (by omega), hl.1, hrr.1]
                        rfl
                      | _ => simp [isCount] at hic
                    · cases hr
                  · cases hr
                · cases hr
              · cases hr
    · rw [(tie4 h1 h2).1, (tie4 h1 h2).2.1, if_neg (fun z => Bool.false_ne_true z.1)]
  termination_by n => n
theorem evn_succ : ∀ {n : Nat} {d : PyData}, d.depth < n → evn (n + 1) d = evn n d
  | 0, d, h => by omega
  | n + 1, d, h => by
    rcases tie_cases d with rfl | ⟨l, it, rt, c, rfl⟩ | ⟨h1, h2⟩
    · rfl
    · simp only [PyData.depth, PyData.depthAll] at h
      rw [evn, evn, evn_succ (d := l) (by omega), evn_succ (d := rt) (by omega)]
    · rw [(tie4 h1 h2).2.1, (tie4 h1 h2).2.1]
theorem even_evn {d : PyData} : (roomT 70 d 1000).isSome = (evn 70 d && decide (ivI (cntW d) ≤ 1000)) := by
  rw [room_evn]
  by_cases h : evn 70 d = true
  · by_cases h2 : ivI (cntW d) ≤ 1000
    · rw [if_pos ⟨h, h2⟩, h, decide_eq_true h2]; rfl
    · rw [if_neg (fun z => h2 z.2), h, decide_eq_false h2]; rfl
  · rw [if_neg (fun z => h z.1), Bool.eq_false_iff.mpr h]; rfl
end Tl

set_option Elab.async false
set_option linter.all false
set_option maxRecDepth 100000
set_option maxHeartbeats 4000000
/-! Bent ties. -/
namespace Tl
open PySem L2
theorem items_gk : ∀ {n : Nat} {d : PyData}, evn n d = true → itg n d → ∀ x ∈ itemsT n d, Gk 20000 1 x
  | 0, d, h, hg, x, hx => by
    rcases tie_cases d with rfl | ⟨l, it, rt, c, rfl⟩ | ⟨h1, h2⟩
    · simp [itemsT] at hx
    · simp [evn] at h
    · rw [(tie4 h1 h2).2.1] at h; cases h
  | n + 1, d, h, hg, x, hx => by
    rcases tie_cases d with rfl | ⟨l, it, rt, c, rfl⟩ | ⟨h1, h2⟩
    · simp [itemsT] at hx
    · rw [evn, Bool.and_eq_true, Bool.and_eq_true] at h
      obtain ⟨a, b, hi, _⟩ := loc_of h.1
      obtain ⟨g1, g4, g2, g3⟩ := hg
      rw [itemsT] at hx
      rcases List.mem_append.mp hx with hx | hx
      · rcases List.mem_append.mp hx with hx | hx
        · exact items_gk h.2.1 g2 x hx
        · rw [List.mem_singleton.mp hx]; exact g1 hi
      · exact items_gk h.2.2 g3 x hx
    · rw [(tie4 h1 h2).2.1] at h; cases h
theorem even_items {d : PyData} (h : (roomT 70 d 1000).isSome = true) (hg : ITG d) : (∀ x ∈ itemsT 70 d, Gk 20000 1 x) ∧ (itemsT 70 d).length ≤ 20 := by
  obtain ⟨m, hm⟩ := Option.isSome_iff_exists.mp h
  have h1 := roomT_items hm
  have h2 := even_evn (d := d)
  rw [h] at h2
  have h3 := h2.symm
  rw [Bool.and_eq_true] at h3
  refine ⟨items_gk h3.1 (hg 70), ?_⟩
  rw [room_evn, if_pos ⟨h3.1, of_decide_eq_true h3.2⟩] at hm
  cases hm
  have h4 : ivI (cntW d) ≤ 20 := by
    rcases tie_cases d with rfl | ⟨l, it, rt, c, rfl⟩ | ⟨n1, n2⟩
    · decide
    · exact hg.of.2.1
    · rw [(tie4 n1 n2).2.1] at h3; cases h3.1
  have h5 := of_decide_eq_true h3.2
  omega
end Tl

set_option Elab.async false
set_option linter.all false
set_option maxRecDepth 100000
set_option maxHeartbeats 4000000
/-! Ties as trees of their own: linked, cut, without an item. -/
namespace Tl
open PySem L2
inductive Tie where
  | nil
  | node (l : Tie) (it : PyData) (r : Tie)
namespace Tie
def sz : Tie → Nat
  | nil => 0
  | node l _ r => sz l + 1 + sz r
def toD : Tie → PyData
  | nil => .none
  | node l it r => .tuple [toD l, it, toD r, .int ((sz l : Int) + 1 + (sz r : Nat))]
def its : Tie → List PyData
  | nil => []
  | node l it r => its l ++ it :: its r
def hg : Tie → Nat
  | nil => 0
  | node l _ r => max (hg l) (hg r) + 1
def Bal (a b : Nat) : Prop := a + 1 ≤ 3 * (b + 1) ∧ b + 1 ≤ 3 * (a + 1)
def balb (a b : Nat) : Bool := decide (a + 1 ≤ 3 * (b + 1)) && decide (b + 1 ≤ 3 * (a + 1))
theorem balb_iff {a b : Nat} : balb a b = true ↔ Bal a b := by
  unfold balb Bal
  rw [Bool.and_eq_true, decide_eq_true_eq, decide_eq_true_eq]
theorem balb_bal {a b : Nat} : balance (a : Int) (b : Int) = balb a b := by
  unfold balance balb
  congr 1
  · by_cases h : a + 1 ≤ 3 * (b + 1)
    · rw [decide_eq_true h, decide_eq_true (by omega)]
    · rw [decide_eq_false h, decide_eq_false (by omega)]
  · by_cases h : b + 1 ≤ 3 * (a + 1)
    · rw [decide_eq_true h, decide_eq_true (by omega)]
    · rw [decide_eq_false h, decide_eq_false (by omega)]
def Ev : Tie → Prop
  | nil => True
  | node l _ r => Bal (sz l) (sz r) ∧ Ev l ∧ Ev r
theorem its_len : ∀ t : Tie, (its t).length = sz t
  | nil => rfl
  | node l it r => by rw [its, List.length_append, List.length_cons, its_len l, its_len r, sz]; omega
theorem hg_sz : ∀ {t : Tie}, Ev t → 4 ^ hg t ≤ 3 ^ hg t * (sz t + 1)
  | nil, _ => by simp [hg, sz]
  | node l it r, h => by
    obtain ⟨⟨b1, b2⟩, h1, h2⟩ := h
    have i1 := hg_sz h1
    have i2 := hg_sz h2
    rw [hg, sz, Nat.pow_succ, Nat.pow_succ]
    rcases Nat.le_total (hg l) (hg r) with c | c
    · rw [Nat.max_eq_right c]
      have : 4 * (sz r + 1) ≤ 3 * (sz l + 1 + sz r + 1) := by omega
      calc 4 ^ hg r * 4 ≤ 3 ^ hg r * (sz r + 1) * 4 := Nat.mul_le_mul_right 4 i2
        _ = 3 ^ hg r * (4 * (sz r + 1)) := by rw [Nat.mul_assoc, Nat.mul_comm (sz r + 1) 4]
        _ ≤ 3 ^ hg r * (3 * (sz l + 1 + sz r + 1)) := Nat.mul_le_mul_left _ this
        _ = 3 ^ hg r * 3 * (sz l + 1 + sz r + 1) := by rw [Nat.mul_assoc]
    · rw [Nat.max_eq_left c]
      have : 4 * (sz l + 1) ≤ 3 * (sz l + 1 + sz r + 1) := by omega
      calc 4 ^ hg l * 4 ≤ 3 ^ hg l * (sz l + 1) * 4 := Nat.mul_le_mul_right 4 i1
        _ = 3 ^ hg l * (4 * (sz l + 1)) := by rw [Nat.mul_assoc, Nat.mul_comm (sz l + 1) 4]
        _ ≤ 3 ^ hg l * (3 * (sz l + 1 + sz r + 1)) := Nat.mul_le_mul_left _ this
        _ = 3 ^ hg l * 3 * (sz l + 1 + sz r + 1) := by rw [Nat.mul_assoc]
theorem pow43 : ∀ n : Nat, 1001 * 3 ^ (n + 25) < 4 ^ (n + 25)
  | 0 => by decide
  | n + 1 => by
    have h := pow43 n
    have e3 : 3 ^ (n + 1 + 25) = 3 ^ (n + 25) * 3 := by rw [show n + 1 + 25 = (n + 25) + 1 by omega, Nat.pow_succ]
    have e4 : 4 ^ (n + 1 + 25) = 4 ^ (n + 25) * 4 := by rw [show n + 1 + 25 = (n + 25) + 1 by omega, Nat.pow_succ]
    rw [e3, e4]
    generalize 3 ^ (n + 25) = a at *
    generalize 4 ^ (n + 25) = b at *
    omega
theorem hg_le {t : Tie} (h : Ev t) (hs : sz t ≤ 1000) : hg t ≤ 24 := by
  have h1 := hg_sz h
  refine Nat.le_of_not_lt fun c => ?_
  obtain ⟨n, e⟩ : ∃ n, hg t = n + 25 := ⟨hg t - 25, by omega⟩
  have h2 := pow43 n
  rw [e] at h1
  have h3 : 3 ^ (n + 25) * (sz t + 1) ≤ 3 ^ (n + 25) * 1001 := Nat.mul_le_mul_left _ (by omega)
  rw [Nat.mul_comm _ 1001] at h3
  omega
/-- one too heavy at the right of a top's left -/
def turnR (L : Tie) (y : PyData) (H : Tie) : Tie := if balb (sz L) (sz H) = true then node L y H else match H with
  | node i m o => if (balb (sz L) (sz i) && balb (sz L + 1 + sz i) (sz o)) = true then node (node L y i) m o else match i with
    | node i1 m1 i2 => node (node L y i1) m1 (node i2 m o)
    | nil => nil
  | nil => nil
def turnL (H : Tie) (y : PyData) (R : Tie) : Tie := if balb (sz H) (sz R) = true then node H y R else match H with
  | node o m i => if (balb (sz i) (sz R) && balb (sz o) (sz i + 1 + sz R)) = true then node o m (node i y R) else match i with
    | node i1 m1 i2 => node (node o m i1) m1 (node i2 y R)
    | nil => nil
  | nil => nil
theorem turnR_ok {L H : Tie} {y : PyData} {R S : Nat} (hL : Ev L) (hH : Ev H) (hb : Bal (sz L) R) (hs : 3 * (S + 1) < sz L + 1 + R + 1) (hz : sz H = R + 1 + S) :
    sz (turnR L y H) = sz L + 1 + sz H ∧ its (turnR L y H) = its L ++ y :: its H ∧ Ev (turnR L y H) ∧ ∃ a b c, turnR L y H = node a b c := by
  obtain ⟨b1, b2⟩ := hb
  unfold turnR
  by_cases c1 : balb (sz L) (sz H) = true
  · rw [if_pos c1]
    exact ⟨rfl, rfl, ⟨balb_iff.mp c1, hL, hH⟩, _, _, _, rfl⟩
  · rw [if_neg c1]
    have n1 : ¬ (sz L + 1 ≤ 3 * (sz H + 1) ∧ sz H + 1 ≤ 3 * (sz L + 1)) := fun z => c1 (balb_iff.mpr z)
    have n2 : 3 * (sz L + 1) < sz H + 1 := by omega
    cases H with
    | nil => rw [sz] at hz; omega
    | node i m o =>
      obtain ⟨⟨e1, e2⟩, hi, ho⟩ := hH
      rw [sz] at hz n2
      by_cases c2 : (balb (sz L) (sz i) && balb (sz L + 1 + sz i) (sz o)) = true
      · simp only [c2, if_true]
        rw [Bool.and_eq_true] at c2
        refine ⟨by simp only [sz]; omega, by simp [its], ⟨by rw [sz]; exact balb_iff.mp c2.2, ⟨balb_iff.mp c2.1, hL, hi⟩, ho⟩, _, _, _, rfl⟩
      · simp only [c2, if_false, Bool.false_eq_true]
        have n3 : ¬ (Bal (sz L) (sz i) ∧ Bal (sz L + 1 + sz i) (sz o)) := fun z => c2 (by rw [Bool.and_eq_true]; exact ⟨balb_iff.mpr z.1, balb_iff.mpr z.2⟩)
        unfold Bal at n3
        have n4 : 3 * (sz L + 1) < sz i + 1 ∨ 3 * (sz o + 1) < sz L + 1 + sz i + 1 := by omega
        cases i with
        | nil => simp only [sz] at n4 e1 e2 hz n2; omega
        | node i1 m1 i2 =>
          obtain ⟨⟨f1, f2⟩, h1, h2⟩ := hi
          simp only [sz] at n4 e1 e2 hz n2
          refine ⟨by simp only [sz]; omega, by simp [its], ⟨?_, ⟨?_, hL, h1⟩, ⟨?_, h2, ho⟩⟩, _, _, _, rfl⟩
          · simp only [sz]
            exact ⟨by omega, by omega⟩
          · exact ⟨by omega, by omega⟩
          · exact ⟨by omega, by omega⟩
theorem turnL_ok {H R : Tie} {y : PyData} {L S : Nat} (hR : Ev R) (hH : Ev H) (hb : Bal L (sz R)) (hs : 3 * (S + 1) < L + 1 + sz R + 1) (hz : sz H = S + 1 + L) :
    sz (turnL H y R) = sz H + 1 + sz R ∧ its (turnL H y R) = its H ++ y :: its R ∧ Ev (turnL H y R) ∧ ∃ a b c, turnL H y R = node a b c := by
  obtain ⟨b1, b2⟩ := hb
  unfold turnL
  by_cases c1 : balb (sz H) (sz R) = true
  · rw [if_pos c1]
    exact ⟨rfl, rfl, ⟨balb_iff.mp c1, hH, hR⟩, _, _, _, rfl⟩
  · rw [if_neg c1]
    have n1 : ¬ (sz H + 1 ≤ 3 * (sz R + 1) ∧ sz R + 1 ≤ 3 * (sz H + 1)) := fun z => c1 (balb_iff.mpr z)
    have n2 : 3 * (sz R + 1) < sz H + 1 := by omega
    cases H with
    | nil => rw [sz] at hz; omega
    | node o m i =>
      obtain ⟨⟨e1, e2⟩, ho, hi⟩ := hH
      rw [sz] at hz n2
      by_cases c2 : (balb (sz i) (sz R) && balb (sz o) (sz i + 1 + sz R)) = true
      · simp only [c2, if_true]
        rw [Bool.and_eq_true] at c2
        refine ⟨by simp only [sz]; omega, by simp [its], ⟨by rw [sz]; exact balb_iff.mp c2.2, ho, ⟨balb_iff.mp c2.1, hi, hR⟩⟩, _, _, _, rfl⟩
      · simp only [c2, if_false, Bool.false_eq_true]
        have n3 : ¬ (Bal (sz i) (sz R) ∧ Bal (sz o) (sz i + 1 + sz R)) := fun z => c2 (by rw [Bool.and_eq_true]; exact ⟨balb_iff.mpr z.1, balb_iff.mpr z.2⟩)
        unfold Bal at n3
        have n4 : 3 * (sz R + 1) < sz i + 1 ∨ 3 * (sz o + 1) < sz i + 1 + sz R + 1 := by omega
        cases i with
        | nil => simp only [sz] at n4 e1 e2 hz n2; omega
        | node i1 m1 i2 =>
          obtain ⟨⟨f1, f2⟩, h1, h2⟩ := hi
          simp only [sz] at n4 e1 e2 hz n2
          refine ⟨by simp only [sz]; omega, by simp [its], ⟨?_, ⟨?_, ho, h1⟩, ⟨?_, h2, hR⟩⟩, _, _, _, rfl⟩
          · simp only [sz]
            exact ⟨by omega, by omega⟩
          · exact ⟨by omega, by omega⟩
          · exact ⟨by omega, by omega⟩
/-- n: how deep it may go -/
def link : Nat → Tie → PyData → Tie → Tie
  | 0, _, _, _ => nil
  | n + 1, l, x, r => if sz l + 1 > 3 * (sz r + 1) then (match l with
      | node a y b => turnR a y (link n b x r)
      | nil => nil) else if sz r + 1 > 3 * (sz l + 1) then (match r with
      | node a y b => turnL (link n l x a) y b
      | nil => nil) else node l x r
theorem link_ok : ∀ {n : Nat} {l r : Tie} {x : PyData}, hg l + hg r < n → Ev l → Ev r → sz (link n l x r) = sz l + 1 + sz r ∧ its (link n l x r) = its l ++ x :: its r ∧ Ev (link n l x r) ∧ ∃ a b c, link n l x r = node a b c
  | 0, _, _, _, h, _, _ => by omega
  | n + 1, l, r, x, h, hl, hr => by
    unfold link
    by_cases c1 : sz l + 1 > 3 * (sz r + 1)
    · rw [if_pos c1]
      cases l with
      | nil => rw [sz] at c1; omega
      | node a y b =>
        obtain ⟨hb, ha, hb2⟩ := hl
        obtain ⟨i1, i2, i3, _⟩ := link_ok (n := n) (l := b) (r := r) (x := x) (by rw [hg] at h; omega) hb2 hr
        obtain ⟨j1, j2, j3, j4⟩ := turnR_ok (y := y) ha i3 hb (S := sz r) (by rw [sz] at c1; omega) i1
        refine ⟨by rw [j1, i1, sz]; omega, by rw [j2, i2, its]; simp, j3, j4⟩
    · rw [if_neg c1]
      by_cases c2 : sz r + 1 > 3 * (sz l + 1)
      · rw [if_pos c2]
        cases r with
        | nil => rw [sz] at c2; omega
        | node a y b =>
          obtain ⟨hb, ha, hb2⟩ := hr
          obtain ⟨i1, i2, i3, _⟩ := link_ok (n := n) (l := l) (r := a) (x := x) (by rw [hg] at h; omega) hl ha
          obtain ⟨j1, j2, j3, j4⟩ := turnL_ok (y := y) hb2 i3 hb (S := sz l) (by rw [sz] at c2; omega) i1
          refine ⟨by rw [j1, i1, sz]; omega, by rw [j2, i2, its]; simp, j3, j4⟩
      · rw [if_neg c2]
        exact ⟨rfl, rfl, ⟨⟨by omega, by omega⟩, hl, hr⟩, _, _, _, rfl⟩
end Tie
end Tl

set_option Elab.async false
set_option linter.all false
set_option maxRecDepth 100000
set_option maxHeartbeats 4000000
/-! What is done with ties. -/
namespace Tl
open PySem L2
namespace Tie
/-- what is known of a tie that is told -/
structure Is (t : Tie) (xs : List PyData) : Prop where
  ev : Ev t
  its : its t = xs
theorem Is.sz {t : Tie} {xs : List PyData} (h : Is t xs) : sz t = xs.length := by rw [← its_len, h.its]
theorem Is.nil : Is nil [] := ⟨trivial, rfl⟩
theorem Is.kids {l r : Tie} {x : PyData} {xs : List PyData} (h : Is (node l x r) xs) : ∃ a b, xs = a ++ x :: b ∧ Is l a ∧ Is r b ∧ Bal a.length b.length := by
  obtain ⟨⟨hb, hl, hr⟩, h2⟩ := h
  refine ⟨Tie.its l, Tie.its r, h2.symm, ⟨hl, rfl⟩, ⟨hr, rfl⟩, ?_⟩
  rw [its_len, its_len]
  exact hb
theorem Is.node {l r : Tie} {x : PyData} {a b : List PyData} (hl : Is l a) (hr : Is r b) (hb : Bal a.length b.length) : Is (node l x r) (a ++ x :: b) := ⟨⟨by rw [hl.sz, hr.sz]; exact hb, hl.ev, hr.ev⟩, by rw [Tie.its, hl.its, hr.its]⟩
theorem Is.link {l r : Tie} {x : PyData} {a b : List PyData} {n : Nat} (hl : Is l a) (hr : Is r b) (h : hg l + hg r < n) : Is (link n l x r) (a ++ x :: b) := by
  obtain ⟨h1, h2, h3, _⟩ := link_ok (x := x) h hl.ev hr.ev
  exact ⟨h3, by rw [h2, hl.its, hr.its]⟩
def built : Nat → List PyData → Tie
  | 0, _ => nil
  | n + 1, xs => match xs.drop (xs.length / 2) with
    | [] => nil
    | x :: r => Tie.node (built n (xs.take (xs.length / 2))) x (built n r)
theorem drop_half {xs : List PyData} {x : PyData} {r : List PyData} {k : Nat} (h : xs.drop k = x :: r) : xs = xs.take k ++ x :: r ∧ xs[k]? = some x ∧ r = xs.drop (k + 1) ∧ r.length + k + 1 = xs.length := by
  refine ⟨by rw [← h, List.take_append_drop], ?_, ?_, ?_⟩
  · have := congrArg (·[0]?) h
    simpa using this
  · rw [← List.drop_drop, h]
    rfl
  · have := congrArg List.length h
    rw [List.length_drop, List.length_cons] at this
    omega
theorem built_ok : ∀ {n : Nat} {xs : List PyData}, xs.length < 2 ^ n → Is (built n xs) xs
  | 0, xs, h => by
    have : xs = [] := List.eq_nil_of_length_eq_zero (by simpa using h)
    subst this
    exact .nil
  | n + 1, xs, h => by
    rw [built]
    rw [Nat.pow_succ] at h
    split
    · rename_i e
      have h1 := congrArg List.length e
      rw [List.length_drop] at h1
      have : xs = [] := List.eq_nil_of_length_eq_zero (by simp at h1; omega)
      subst this
      exact .nil
    · rename_i x r e
      obtain ⟨h1, h2, h3, h4⟩ := drop_half e
      have i1 := built_ok (n := n) (xs := xs.take (xs.length / 2)) (by rw [List.length_take]; omega)
      have i2 := built_ok (n := n) (xs := r) (by omega)
      have := Is.node (x := x) i1 i2 ⟨by rw [List.length_take]; omega, by rw [List.length_take]; omega⟩
      rw [← h1] at this
      exact this
/-- with an item more; n bounds how deep linked may go -/
def withI (n : Nat) : Tie → Nat → PyData → Tie
  | nil, _, x => Tie.node nil x nil
  | Tie.node l y r, at_, x => if at_ ≤ Tie.sz l then Tie.link n (withI n l at_ x) y r else Tie.link n l y (withI n r (at_ - Tie.sz l - 1) x)
theorem take_left {a b : List PyData} {k : Nat} (h : k ≤ a.length) : (a ++ b).take k = a.take k := by rw [List.take_append_of_le_length h]
theorem drop_left {a b : List PyData} {k : Nat} (h : k ≤ a.length) : (a ++ b).drop k = a.drop k ++ b := by rw [List.drop_append_of_le_length h]
theorem take_right {a b : List PyData} {x : PyData} {k : Nat} (h : a.length < k) : (a ++ x :: b).take k = a ++ x :: b.take (k - a.length - 1) := by
  rw [List.take_append, List.take_of_length_le (by omega), show k - a.length = (k - a.length - 1) + 1 by omega, List.take_succ_cons]
  rfl
theorem drop_right {a b : List PyData} {x : PyData} {k : Nat} (h : a.length < k) : (a ++ x :: b).drop k = b.drop (k - a.length - 1) := by
  rw [List.drop_append, List.drop_of_length_le (by omega), List.nil_append, show k - a.length = (k - a.length - 1) + 1 by omega, List.drop_succ_cons]
  rfl
/-- ties of at most 1000 items, and a few more, are flat -/
theorem Is.flat {t : Tie} {xs : List PyData} (h : Is t xs) (hl : xs.length ≤ 1000) : hg t ≤ 24 := hg_le h.ev (by rw [h.sz]; exact hl)
theorem withI_ok {x : PyData} : ∀ {t : Tie} {xs : List PyData} {k : Nat}, Is t xs → k ≤ xs.length → xs.length < 1000 → Is (withI 60 t k x) (xs.take k ++ x :: xs.drop k)
  | nil, xs, k, h, hk, hl => by
    have : xs = [] := h.its.symm
    subst this
    rw [withI, List.take_nil, List.drop_nil]
    exact Is.node .nil .nil ⟨by simp, by simp⟩
  | Tie.node l y r, xs, k, h, hk, hl => by
    obtain ⟨a, b, rfl, ha, hb, hbl⟩ := h.kids
    rw [List.length_append, List.length_cons] at hl hk
    rw [withI, ha.sz]
    by_cases c : k ≤ a.length
    · rw [if_pos c, take_left c, drop_left c]
      have i := withI_ok (x := x) ha c (by omega)
      have := Is.link (x := y) (n := 60) i hb (by
        have := i.flat (by rw [List.length_append, List.length_cons, List.length_take, List.length_drop]; omega)
        have := hb.flat (by omega)
        omega)
      rw [List.append_assoc] at this
      exact this
    · rw [if_neg c, take_right (by omega), drop_right (by omega)]
      have i := withI_ok (x := x) (k := k - a.length - 1) hb (by omega) (by omega)
      have := Is.link (x := y) (n := 60) ha i (by
        have := i.flat (by rw [List.length_append, List.length_cons, List.length_take, List.length_drop]; omega)
        have := ha.flat (by omega)
        omega)
      rw [List.append_assoc]
      exact this
/-- the item at a seat -/
theorem nth_ok {l r : Tie} {y : PyData} {a b : List PyData} (ha : Is l a) (k : Nat) : (a ++ y :: b)[k]? = if k < Tie.sz l then a[k]? else if k = Tie.sz l then some y else b[k - Tie.sz l - 1]? := by
  rw [ha.sz]
  by_cases c : k < a.length
  · rw [if_pos c, List.getElem?_append_left c]
  · rw [if_neg c, List.getElem?_append_right (by omega)]
    by_cases c2 : k = a.length
    · rw [if_pos c2, c2, Nat.sub_self]; rfl
    · rw [if_neg c2, show k - a.length = (k - a.length - 1) + 1 by omega, List.getElem?_cons_succ]
      rfl
end Tie
end Tl

set_option Elab.async false
set_option linter.all false
set_option maxRecDepth 100000
set_option maxHeartbeats 4000000
/-! Ties that are told as data. -/
namespace Tl
open PySem L2
namespace Tie
def gTie (x : W) (k : Tie → Prop) : Prop := ∃ t, x = .d (toD t) ∧ k t
theorem gTie_i {t : Tie} {k : Tie → Prop} (q : k t) : gTie (.d (toD t)) k := ⟨t, rfl, q⟩
theorem gTie_n {k : Tie → Prop} (q : k nil) : gTie (.d .none) k := ⟨nil, rfl, q⟩
theorem gTie_4 {l r : Tie} {it : PyData} {k : Tie → Prop} (q : k (node l it r)) : gTie (.d (.tuple [toD l, it, toD r, .int ((sz l : Int) + 1 + (sz r : Nat))])) k := ⟨node l it r, rfl, q⟩
theorem toD_none {t : Tie} (h : toD t = .none) : t = nil := by
  cases t with
  | nil => rfl
  | node l it r => cases h
theorem isN_node {l r : Tie} {it : PyData} : isN (.d (toD (node l it r))) = some false := rfl
theorem form_toD (t : Tie) : TieF (toD t) := by
  cases t with
  | nil => exact .inl rfl
  | node l it r => exact .inr ⟨_, _, _, _, rfl⟩
theorem cnt_toD (t : Tie) : cntW (toD t) = .int (sz t : Nat) := by
  cases t with
  | nil => rfl
  | node l it r => show PyData.int _ = _; congr 1
theorem toD_evn : ∀ {n : Nat} {t : Tie}, hg t ≤ n → Ev t → (∀ x ∈ its t, isItem x = true) → evn n (toD t) = true
  | n, nil, _, _, _ => by cases n <;> rfl
  | 0, node l it r, h, _, _ => by rw [hg] at h; omega
  | n + 1, node l it r, h, he, hi => by
    obtain ⟨⟨b1, b2⟩, hl, hr⟩ := he
    rw [hg] at h
    rw [its] at hi
    have i1 := toD_evn (n := n) (t := l) (by omega) hl fun x hx => hi x (List.mem_append_left _ hx)
    have i2 := toD_evn (n := n) (t := r) (by omega) hr fun x hx => hi x (List.mem_append_right _ (.tail _ hx))
    rw [toD, evn, i1, i2, show ((sz l : Nat) : Int) + 1 + ((sz r : Nat) : Int) = ((sz l : Nat) : Int) + ((sz r : Nat) : Int) + 1 by omega, loc_to (hi it (List.mem_append_right _ (.head _))) (cnt_toD l) (cnt_toD r) (evn_ok i1).1 (evn_ok i2).1 b1 b2]
    rfl
theorem toD_items : ∀ {n : Nat} {t : Tie}, hg t ≤ n → itemsT n (toD t) = its t
  | n, nil, _ => by cases n <;> rfl
  | 0, node l it r, h => by rw [hg] at h; omega
  | n + 1, node l it r, h => by
    rw [hg] at h
    rw [toD, itemsT, toD_items (by omega), toD_items (by omega), its]
    simp
theorem toD_gk : ∀ {t : Tie}, sz t ≤ 90000 → (∀ x ∈ its t, Gk 4000 1 x) → Gk (6000 * sz t + 4) (hg t + 1) (toD t)
  | nil, _, _ => gk_none (by omega)
  | node l it r, hz, hi => by
    rw [sz] at hz
    rw [its] at hi
    have g1 := (toD_gk (t := l) (by omega) fun x hx => hi x (List.mem_append_left _ hx)).mono (k' := max (hg l) (hg r) + 1) (Nat.le_refl _) (by omega)
    have g2 := (toD_gk (t := r) (by omega) fun x hx => hi x (List.mem_append_right _ (.tail _ hx))).mono (k' := max (hg l) (hg r) + 1) (Nat.le_refl _) (by omega)
    have g3 := (hi it (List.mem_append_right _ (.head _))).mono (k' := max (hg l) (hg r) + 1) (Nat.le_refl _) (by omega)
    have g4 : Gk 1930 (max (hg l) (hg r) + 1) (.int ((sz l : Int) + 1 + (sz r : Nat))) := gk_i (by omega) (by omega)
    rw [toD, sz, hg]
    exact ((Gks.cons (m'' := 6000 * sz l + 6000 * sz r + 5950) g1 (.cons (m'' := 6000 * sz r + 5940) g3 (.cons (m'' := 6000 * sz r + 1938) g2 (.cons (m' := 0) (m'' := 1932) g4 .nil (by decide)) (by omega)) (by omega)) (by omega)).tup (m' := 6000 * sz l + 6000 * sz r + 5953) (by omega)).mono (by omega) (by omega)
/-- a tie of drawn items, not too many -/
structure IsO (t : Tie) (xs : List PyData) : Prop extends Is t xs where
  ok : ∀ x ∈ xs, ItOk1 x
  le : xs.length ≤ 1000
theorem IsO.hg {t : Tie} {xs : List PyData} (h : IsO t xs) : Tie.hg t ≤ 24 := h.toIs.flat h.le
theorem IsO.gk {t : Tie} {xs : List PyData} (h : IsO t xs) : Gk 6000004 25 (toD t) := by
  have h1 := h.toIs.sz
  have h2 := h.le
  have h3 := h.hg
  exact (toD_gk (by omega) fun x hx => (h.ok x (by rw [← h.its]; exact hx)).2).mono (by omega) (by omega)
theorem IsO.even {t : Tie} {xs : List PyData} (h : IsO t xs) : (roomT 70 (toD t) 1000).isSome = true := by
  have h3 := h.hg
  rw [even_evn, toD_evn (by omega) h.ev fun x hx => (h.ok x (by rw [← h.its]; exact hx)).1, cnt_toD, decide_eq_true]
  · rfl
  · show ((sz t : Nat) : Int) ≤ 1000
    have := h.toIs.sz
    have := h.le
    omega
theorem IsO.items {t : Tie} {xs : List PyData} (h : IsO t xs) : itemsT 70 (toD t) = xs := by
  have h3 := h.hg
  rw [toD_items (by omega), h.its]
theorem IsO.txt {t : Tie} {xs : List PyData} (h : IsO t xs) : Tl.txt (toD t) = true := gd_txt _ h.gk.1
theorem IsO.dep {t : Tie} {xs : List PyData} (h : IsO t xs) : (toD t).depth < 70 := by
  have := h.gk.2.2
  omega
end Tie
end Tl

set_option Elab.async false
set_option linter.all false
set_option maxRecDepth 100000
set_option maxHeartbeats 8000000
namespace Tl
open PySem L2 RZ Tie
local macro_rules
  | `(tactic| decreasing_trivial) => `(tactic| ((with_reducible (conv => whnf)); (repeat ((first | (with_reducible refine gTie_i ?_) | (with_reducible refine gTie_n ?_) | (with_reducible refine gTie_4 ?_) | (with_reducible refine gDs_c ?_) | (with_reducible refine gDs_n ?_) | (with_reducible refine gNs_c ?_) | (with_reducible refine gNs_n ?_) | (with_reducible refine gO_i tyAny_lt ?_) | (with_reducible refine gIs_c ?_) | (with_reducible refine gIs_n ?_) | (with_reducible refine gBs_c ?_) | (with_reducible refine gBs_n ?_) | (with_reducible refine gSs_c ?_) | (with_reducible refine gSs_n ?_) | (with_reducible refine gO_i tyIs_int ?_) | (with_reducible refine gO_i tyIs_bool ?_) | (with_reducible refine gO_i tyIs_str ?_) | (with_reducible refine gO_i tyIs_tuple ?_) | (with_reducible refine gO_i tyIs_list ?_) | (with_reducible refine gDs_i ?_) | (with_reducible refine gO_i (Eq.refl _) ?_) | (with_reducible refine gO_i (by assumption) ?_) | (with_reducible refine gO_i at_0 ?_) | (with_reducible refine gO_i at_m0 ?_) | (with_reducible refine gO_i at_1 ?_) | (with_reducible refine gO_i at_m1 ?_) | (with_reducible refine gO_i at_2 ?_) | (with_reducible refine gO_i at_m2 ?_) | (with_reducible refine gO_i at_3 ?_) | (with_reducible refine gO_i at_m3 ?_) | (with_reducible refine gO_i at_4 ?_) | (with_reducible refine gO_i at_m4 ?_) | (with_reducible refine gO_i at_5 ?_) | (with_reducible refine gO_i at_m5 ?_) | (with_reducible refine gO_i at_6 ?_) | (with_reducible refine gO_i at_m6 ?_) | (with_reducible refine gO_i at_7 ?_) | (with_reducible refine gO_i at_m7 ?_) | (with_reducible refine IfB.ngf ?_) | (with_reducible refine IfB.ngt ?_) | (with_reducible refine IfB.not ?_) | (with_reducible refine IfB.nil ?_) | (with_reducible refine IfB.nilT ?_) | (with_reducible refine IfB.f isE_c ?_) | (with_reducible refine IfB.t isE_n ?_) | (with_reducible refine IfB.t ?gha ?_; (case gha => rfl)) | (with_reducible refine IfB.f ?gha ?_; (case gha => rfl)) | (with_reducible refine IfB.t ?gha ?_; (case gha => assumption)) | (with_reducible refine IfB.f ?gha ?_; (case gha => assumption)) | (with_reducible refine IfB.yes (Eq.refl _) ?_) | (with_reducible refine IfB.yes ?gha ?_; (case gha => (first | omega | (simp only [len_c, len_n, List.length_map]; omega)))) | (with_reducible refine IfB.no ?gha ?_; (case gha => (first | omega | (simp only [len_c, len_n, List.length_map]; omega)))) | (with_reducible refine IfB.t ?gha ?_; (case gha => decide +kernel)) | (with_reducible refine IfB.f ?gha ?_; (case gha => decide +kernel))); (with_reducible (conv => whnf))))))
local macro_rules
  | `(tactic| decreasing_trivial_pre_omega) => `(tactic| (decreasing_trivial; (repeat ((first | ((with_reducible refine And.intro ?gha ?_); (case gha => (first | assumption | omega | exact rfl | (exact mset_same) | (exact ⟨_, mset_same⟩) | (exact Exists.intro _ (by first | exact mset_same | assumption | (rw [mset_ne (by assumption)]; first | exact mset_same | assumption))) | (exact sm_of (by omega) (by omega)) | (exact sz1000 (by first | omega | (simp; done) | (simp; omega))) | (exact Or.inl ⟨by decide, by decide⟩) | decide | (simp; done) | (refine ⟨?_, ?_⟩ <;> (first | assumption | omega | exact rfl | (exact mset_same) | (exact ⟨_, mset_same⟩) | (exact Exists.intro _ (by first | exact mset_same | assumption | (rw [mset_ne (by assumption)]; first | exact mset_same | assumption))) | (exact sm_of (by omega) (by omega)) | (exact sz1000 (by first | omega | (simp; done) | (simp; omega))) | (exact Or.inl ⟨by decide, by decide⟩) | decide | (simp; done))) | (refine ⟨?_, ?_, ?_⟩ <;> (first | assumption | omega | exact rfl | (exact mset_same) | (exact ⟨_, mset_same⟩) | (exact Exists.intro _ (by first | exact mset_same | assumption | (rw [mset_ne (by assumption)]; first | exact mset_same | assumption))) | (exact sm_of (by omega) (by omega)) | (exact sz1000 (by first | omega | (simp; done) | (simp; omega))) | (exact Or.inl ⟨by decide, by decide⟩) | decide | (simp; done))) | (refine ⟨?_, ?_, ?_, ?_⟩ <;> (first | assumption | omega | exact rfl | (exact mset_same) | (exact ⟨_, mset_same⟩) | (exact Exists.intro _ (by first | exact mset_same | assumption | (rw [mset_ne (by assumption)]; first | exact mset_same | assumption))) | (exact sm_of (by omega) (by omega)) | (exact sz1000 (by first | omega | (simp; done) | (simp; omega))) | (exact Or.inl ⟨by decide, by decide⟩) | decide | (simp; done)))))) | (with_reducible refine exW (by first | exact mset_same | assumption | (rw [mset_ne (by assumption)]; first | exact mset_same | assumption)) ?_)); decreasing_trivial))))
@[reducible] def tfMany : TF := fun ws M R _ => g1 ws fun x => gTie x fun t => R (.d (.int (sz t : Nat))) M
@[reducible] def tfKnit : TF := fun ws M R _ => match ws with | [a, .d it, c] => gTie a fun l => gTie c fun r => R (.d (toD (node l it r))) M | _ => False
@[reducible] def tfSingle : TF := fun ws M R _ => g1 ws fun x => gD x fun it => R (.d (toD (node nil it nil))) M
theorem balb_no {a b : Nat} (h : balb a b = false) : ¬ (a + 1 ≤ 3 * (b + 1) ∧ b + 1 ≤ 3 * (a + 1)) := fun z => by rw [balb_iff.mpr z] at h; cases h
section
variable {P : Program} {w : World} {K : PySem.W.Frag} {mg : Str → Option Value} {base : Heap}
abbrev sMany : Stmt := top 7
theorem scMany : FnScope ["tie"] ["tie"] (defScope sMany) := ⟨rfl, rfl, rfl, by decide +kernel, rfl, by decide +kernel, by decide +kernel⟩
theorem ok_many {f : Addr} {fd : FuncData} {k : Nat} (F : Fun K "many_in" "many_in" sMany f fd) (T : Bl mg) : FnOk P w K mg base CX0 (k + 1) f fd ["tie"] (spD K 1 tfMany) := by
  refine okD F scMany rfl fun cdv A outer s H E hr => ?_
  refine ⟨_, _, (pss_cons (ps_if (pt_cmpR op_isN (pv 0) pe_non (nomark _)) (pss_one (ps_ret pe_int)) pss_nil)
    (pss_one (ps_ret (pe_ix ix_tup (pv 0) pe_int (fun _ _ => rfl))))),
    (ss_cons (ss_if (st_test (se_op so_isN se_nm se_non)) (ss_ret se_int) ss_nil)
    (ss_ret (se_op so_ixT se_nm se_int))), fun ws M R RX hl h => ?_⟩
  obtain ⟨x, rfl, h1⟩ := g1_of h
  obtain ⟨t, rfl, h2⟩ := h1
  cases t with
  | nil => simp only [start0, len_c, len_n, map_c, map_n, app_c, app_n, rep_0, rep_s, Nat.reduceAdd, Nat.reduceSub]; decreasing_trivial_pre_omega; exact h2
  | node l it r =>
    have e : ((sz (node l it r) : Nat) : Int) = (sz l : Int) + 1 + (sz r : Nat) := by rw [sz]; omega
    rw [e] at h2
    rw [toD]
    simp only [start0, len_c, len_n, map_c, map_n, app_c, app_n, rep_0, rep_s, Nat.reduceAdd, Nat.reduceSub]
    decreasing_trivial_pre_omega
    exact h2
abbrev sKnit : Stmt := top 8
theorem scKnit : FnScope ["left", "item", "right"] ["left", "item", "right"] (defScope sKnit) := ⟨rfl, rfl, rfl, by decide +kernel, rfl, by decide +kernel, by decide +kernel⟩
theorem ok_knit {f : Addr} {fd : FuncData} {k j : Nat} (F : Fun K "knit" "knit" sKnit f fd) (Umany_in : Use P w K mg base "many_in" ["tie"] j (spD K 1 tfMany)) (hj : j ≤ k) (T : Bl mg) : FnOk P w K mg base CX0 (k + 1) f fd ["left", "item", "right"] (spD K 3 tfKnit) := by
  refine okD F scKnit rfl fun cdv A outer s H E hr => ?_
  refine ⟨_, _, (pss_one (ps_ret (pe_tup (pa_cons (pv 0) (pa_cons (pv 1) (pa_cons (pv 2) (pa_cons (pe_op op_add (pe_op op_add (pe_call Umany_in.ok (hr.mono (by omega)) rfl Umany_in.m Umany_in.kp Umany_in.b .nil pass0 (pa_cons (pv 0) pa_nil)) pe_int) (pe_call Umany_in.ok (hr.mono (by omega)) rfl Umany_in.m Umany_in.kp Umany_in.b .nil pass0 (pa_cons (pv 2) pa_nil))) pa_nil))))))),
    (ss_ret (se_tup (sa_cons se_nm (sa_cons se_nm (sa_cons se_nm (sa_cons (se_op so_add (se_op so_add (se_call (sa_cons se_nm sa_nil)) se_int) (se_call (sa_cons se_nm sa_nil))) sa_nil)))))), fun ws M R RX hl h => ?_⟩
  match ws, h with
  | [a, .d it, c], h =>
    obtain ⟨l, rfl, r, rfl, h2⟩ := h
    simp only [start0, len_c, len_n, map_c, map_n, app_c, app_n, rep_0, rep_s, Nat.reduceAdd, Nat.reduceSub]
    decreasing_trivial_pre_omega
    exact h2
abbrev sSingle : Stmt := top 9
theorem scSingle : FnScope ["item"] ["item"] (defScope sSingle) := ⟨rfl, rfl, rfl, by decide +kernel, rfl, by decide +kernel, by decide +kernel⟩
theorem ok_single {f : Addr} {fd : FuncData} {k j : Nat} (F : Fun K "single" "single" sSingle f fd) (Uknit : Use P w K mg base "knit" ["left", "item", "right"] j (spD K 3 tfKnit)) (hj : j ≤ k) (T : Bl mg) : FnOk P w K mg base CX0 (k + 1) f fd ["item"] (spD K 1 tfSingle) := by
  refine okD F scSingle rfl fun cdv A outer s H E hr => ?_
  refine ⟨_, _, (pss_one (ps_ret (pe_call Uknit.ok (hr.mono (by omega)) rfl Uknit.m Uknit.kp Uknit.b .nil pass0 (pa_cons pe_non (pa_cons (pv 0) (pa_cons pe_non pa_nil)))))),
    (ss_ret (se_call (sa_cons se_non (sa_cons se_nm (sa_cons se_non sa_nil))))), fun ws M R RX hl h => ?_⟩
  obtain ⟨x, rfl, h1⟩ := g1_of h
  obtain ⟨it, rfl, h2⟩ := gD_of h1
  simp only [start0, len_c, len_n, map_c, map_n, app_c, app_n, rep_0, rep_s, Nat.reduceAdd, Nat.reduceSub]
  decreasing_trivial_pre_omega
  exact h2
/-- a tie turned, as turnR tells -/
@[reducible] def tfTurnR : TF := fun ws M R _ => g2 ws fun x y => gTie x fun H => gTie y fun t => (Ev H ∧ Ev t ∧ sz H ≤ 2000 ∧ sz t ≤ 2000 ∧ ∃ L y0 b S, t = node L y0 b ∧ 3 * (S + 1) < sz t + 1 ∧ sz H = sz b + 1 + S ∧ sz L + sz H < 2000) ∧ ∀ t', Is t' ((match t with | node L y0 _ => its L ++ [y0] | nil => []) ++ its H) → R (.d (toD t')) M
abbrev sTurnR : Stmt := top 12
theorem scTurnR : FnScope ["heavy", "top", "together", "left", "item", "inner", "middle", "outer"] ["heavy", "top"] (defScope sTurnR) := ⟨rfl, rfl, rfl, by decide +kernel, rfl, by decide +kernel, by decide +kernel⟩
theorem ok_turnR {f : Addr} {fd : FuncData} {k j : Nat} (F : Fun K "turned_right" "turned_right" sTurnR f fd) (Umany_in : Use P w K mg base "many_in" ["tie"] j (spD K 1 tfMany)) (Uknit : Use P w K mg base "knit" ["left", "item", "right"] j (spD K 3 tfKnit)) (Uis_balance : Use P w K mg base "is_balance" ["one", "other"] j (spD K 2 tfBal)) (hj : j ≤ k) (T : Bl mg) : FnOk P w K mg base CX0 (k + 1) f fd ["heavy", "top"] (spD K 2 tfTurnR) := by
  refine okD F scTurnR rfl fun cdv A outer s H E hr => ?_
  refine ⟨_, _, (pss_cons (ps_par (i := 3) (j := 4) (by rfl) scTurnR.nd rfl rfl (by decide) rfl rfl (pa_cons (pe_ix ix_tup (pv 1) pe_int (fun _ _ => rfl)) (pa_cons (pe_ix ix_tup (pv 1) pe_int (fun _ _ => rfl)) pa_nil)) (by rfl))
    (pss_cons (ps_if (pt_val (pe_call Uis_balance.ok (hr.mono (by omega)) rfl Uis_balance.m Uis_balance.kp Uis_balance.b .nil pass0 (pa_cons (pe_call Umany_in.ok (hr.mono (by omega)) rfl Umany_in.m Umany_in.kp Umany_in.b .nil pass0 (pa_cons (pv 3) pa_nil)) (pa_cons (pe_call Umany_in.ok (hr.mono (by omega)) rfl Umany_in.m Umany_in.kp Umany_in.b .nil pass0 (pa_cons (pv 0) pa_nil)) pa_nil)))) (pss_one (ps_ret (pe_call Uknit.ok (hr.mono (by omega)) rfl Uknit.m Uknit.kp Uknit.b .nil pass0 (pa_cons (pv 3) (pa_cons (pv 4) (pa_cons (pv 0) pa_nil)))))) pss_nil)
    (pss_cons (ps_asg (pe_slice sl_tupA (pv 0) po_none (po_some pe_int)) (pg_tup rfl (pgs_cons (pg_name (i := 5) scTurnR.nd rfl (.inl rfl)) (pgs_cons (pg_name (i := 6) scTurnR.nd rfl (.inl rfl)) (pgs_cons (pg_name (i := 7) scTurnR.nd rfl (.inl rfl)) pgs_nil)))))
    (pss_cons (ps_set (i := 2) scTurnR.nd rfl (.inl rfl) (pe_op op_add (pe_op op_add (pe_call Umany_in.ok (hr.mono (by omega)) rfl Umany_in.m Umany_in.kp Umany_in.b .nil pass0 (pa_cons (pv 3) pa_nil)) pe_int) (pe_call Umany_in.ok (hr.mono (by omega)) rfl Umany_in.m Umany_in.kp Umany_in.b .nil pass0 (pa_cons (pv 5) pa_nil))))
    (pss_cons (ps_if (PW.pt (pw_and (pt_val (pe_call Uis_balance.ok (hr.mono (by omega)) rfl Uis_balance.m Uis_balance.kp Uis_balance.b .nil pass0 (pa_cons (pe_call Umany_in.ok (hr.mono (by omega)) rfl Umany_in.m Umany_in.kp Umany_in.b .nil pass0 (pa_cons (pv 3) pa_nil)) (pa_cons (pe_call Umany_in.ok (hr.mono (by omega)) rfl Umany_in.m Umany_in.kp Umany_in.b .nil pass0 (pa_cons (pv 5) pa_nil)) pa_nil)))) (pw_and1 (pt_val (pe_call Uis_balance.ok (hr.mono (by omega)) rfl Uis_balance.m Uis_balance.kp Uis_balance.b .nil pass0 (pa_cons (pv 2) (pa_cons (pe_call Umany_in.ok (hr.mono (by omega)) rfl Umany_in.m Umany_in.kp Umany_in.b .nil pass0 (pa_cons (pv 7) pa_nil)) pa_nil))))))) (pss_one (ps_ret (pe_call Uknit.ok (hr.mono (by omega)) rfl Uknit.m Uknit.kp Uknit.b .nil pass0 (pa_cons (pe_call Uknit.ok (hr.mono (by omega)) rfl Uknit.m Uknit.kp Uknit.b .nil pass0 (pa_cons (pv 3) (pa_cons (pv 4) (pa_cons (pv 5) pa_nil)))) (pa_cons (pv 6) (pa_cons (pv 7) pa_nil)))))) pss_nil)
    (pss_one (ps_ret (pe_call Uknit.ok (hr.mono (by omega)) rfl Uknit.m Uknit.kp Uknit.b .nil pass0 (pa_cons (pe_call Uknit.ok (hr.mono (by omega)) rfl Uknit.m Uknit.kp Uknit.b .nil pass0 (pa_cons (pv 3) (pa_cons (pv 4) (pa_cons (pe_ix ix_tup (pv 5) pe_int (fun _ _ => rfl)) pa_nil)))) (pa_cons (pe_ix ix_tup (pv 5) pe_int (fun _ _ => rfl)) (pa_cons (pe_call Uknit.ok (hr.mono (by omega)) rfl Uknit.m Uknit.kp Uknit.b .nil pass0 (pa_cons (pe_ix ix_tup (pv 5) pe_int (fun _ _ => rfl)) (pa_cons (pv 6) (pa_cons (pv 7) pa_nil)))) pa_nil))))))))))),
    (ss_cons (ss_par (sa_cons (se_op so_ixT se_nm se_int) (sa_cons (se_op so_ixT se_nm se_int) sa_nil)))
    (ss_cons (ss_if (st_val (se_call (sa_cons (se_call (sa_cons se_nm sa_nil)) (sa_cons (se_call (sa_cons se_nm sa_nil)) sa_nil)))) (ss_ret (se_call (sa_cons se_nm (sa_cons se_nm (sa_cons se_nm sa_nil))))) ss_nil)
    (ss_cons (ss_unp sg_tup3 (se_sl sl_T se_nm sp_no (sp_some se_int)))
    (ss_cons (ss_set (se_op so_add (se_op so_add (se_call (sa_cons se_nm sa_nil)) se_int) (se_call (sa_cons se_nm sa_nil))))
    (ss_cons (ss_if (st_and (st_val (se_call (sa_cons (se_call (sa_cons se_nm sa_nil)) (sa_cons (se_call (sa_cons se_nm sa_nil)) sa_nil)))) (st_val (se_call (sa_cons se_nm (sa_cons (se_call (sa_cons se_nm sa_nil)) sa_nil))))) (ss_ret (se_call (sa_cons (se_call (sa_cons se_nm (sa_cons se_nm (sa_cons se_nm sa_nil)))) (sa_cons se_nm (sa_cons se_nm sa_nil))))) ss_nil)
    (ss_ret (se_call (sa_cons (se_call (sa_cons se_nm (sa_cons se_nm (sa_cons (se_op so_ixT se_nm se_int) sa_nil)))) (sa_cons (se_op so_ixT se_nm se_int) (sa_cons (se_call (sa_cons (se_op so_ixT se_nm se_int) (sa_cons se_nm (sa_cons se_nm sa_nil)))) sa_nil)))))))))), fun ws M R RX hl h => ?_⟩
  obtain ⟨x, y, rfl, h1⟩ := g2_of h
  obtain ⟨Hv, rfl, t, rfl, ⟨hH, ht, z1, z2, L, y0, b, S, rfl, hs, hz, z3⟩, h3⟩ := h1
  obtain ⟨hb, hL, hB⟩ := ht
  rw [sz] at hs z2
  obtain ⟨j1, j2, j3, _⟩ := turnR_ok (y := y0) hL hH hb (S := S) (by omega) hz
  have fin : R (.d (toD (turnR L y0 Hv))) M := h3 _ ⟨j3, by rw [j2]; simp⟩
  rw [toD]
  unfold turnR at fin
  simp only [start0, len_c, len_n, map_c, map_n, app_c, app_n, rep_0, rep_s, Nat.reduceAdd, Nat.reduceSub]
  decreasing_trivial_pre_omega
  rw [balb_bal]
  cases c1 : balb (sz L) (sz Hv)
  · rw [c1, if_neg Bool.false_ne_true] at fin
    cases Hv with
    | nil => exfalso; rw [sz] at hz; omega
    | node i m o =>
      rw [sz] at z1 z3 hz
      dsimp only at fin
      rw [show toD (node i m o) = .tuple [toD i, m, toD o, .int ((sz i : Int) + 1 + (sz o : Nat))] from rfl]
      decreasing_trivial_pre_omega
      rw [show cut [toD i, m, toD o, PyData.int ((sz i : Int) + 1 + (sz o : Nat))] none (some 3) = [toD i, m, toD o] from cut_to (k := 3)]
      decreasing_trivial_pre_omega
      rw [balb_bal]
      cases c2 : balb (sz L) (sz i)
      · rw [c2, Bool.false_and, if_neg Bool.false_ne_true] at fin
        decreasing_trivial_pre_omega
        cases i with
        | nil => exfalso; have := balb_no c1; have := balb_no c2; simp only [sz] at *; obtain ⟨⟨e1, e2⟩, _⟩ := hH; simp only [sz] at e1 e2; obtain ⟨b1, b2⟩ := hb; omega
        | node i1 m1 i2 =>
          dsimp only at fin
          rw [show toD (node i1 m1 i2) = .tuple [toD i1, m1, toD i2, .int ((sz i1 : Int) + 1 + (sz i2 : Nat))] from rfl]
          decreasing_trivial_pre_omega
          exact fin
      · decreasing_trivial_pre_omega
        rw [show ((sz L : Nat) : Int) + 1 + ((sz i : Nat) : Int) = ((sz L + 1 + sz i : Nat) : Int) by omega, balb_bal]
        cases c3 : balb (sz L + 1 + sz i) (sz o)
        · rw [c2, c3, Bool.and_false, if_neg Bool.false_ne_true] at fin
          decreasing_trivial_pre_omega
          cases i with
          | nil => exfalso; have := balb_no c1; have := balb_no c3; simp only [sz] at *; obtain ⟨⟨e1, e2⟩, _⟩ := hH; simp only [sz] at e1 e2; obtain ⟨b1, b2⟩ := hb; omega
          | node i1 m1 i2 =>
            dsimp only at fin
            rw [show toD (node i1 m1 i2) = .tuple [toD i1, m1, toD i2, .int ((sz i1 : Int) + 1 + (sz i2 : Nat))] from rfl]
            decreasing_trivial_pre_omega
            exact fin
        · rw [c2, c3, Bool.and_self, if_pos rfl] at fin
          decreasing_trivial_pre_omega
          exact fin
  · rw [c1, if_pos rfl] at fin
    decreasing_trivial_pre_omega
    exact fin
@[reducible] def tfTurnL : TF := fun ws M R _ => g2 ws fun x y => gTie x fun H => gTie y fun t => (Ev H ∧ Ev t ∧ sz H ≤ 2000 ∧ sz t ≤ 2000 ∧ ∃ b y0 Rt S, t = node b y0 Rt ∧ 3 * (S + 1) < sz t + 1 ∧ sz H = S + 1 + sz b ∧ sz Rt + sz H < 2000) ∧ ∀ t', Is t' (its H ++ (match t with | node _ y0 Rt => y0 :: its Rt | nil => [])) → R (.d (toD t')) M
abbrev sTurnL : Stmt := top 13
theorem scTurnL : FnScope ["heavy", "top", "together", "item", "right", "outer", "middle", "inner"] ["heavy", "top"] (defScope sTurnL) := ⟨rfl, rfl, rfl, by decide +kernel, rfl, by decide +kernel, by decide +kernel⟩
theorem ok_turnL {f : Addr} {fd : FuncData} {k j : Nat} (F : Fun K "turned_left" "turned_left" sTurnL f fd) (Umany_in : Use P w K mg base "many_in" ["tie"] j (spD K 1 tfMany)) (Uknit : Use P w K mg base "knit" ["left", "item", "right"] j (spD K 3 tfKnit)) (Uis_balance : Use P w K mg base "is_balance" ["one", "other"] j (spD K 2 tfBal)) (hj : j ≤ k) (T : Bl mg) : FnOk P w K mg base CX0 (k + 1) f fd ["heavy", "top"] (spD K 2 tfTurnL) := by
  refine okD F scTurnL rfl fun cdv A outer s H E hr => ?_
  refine ⟨_, _, (pss_cons (ps_par (i := 3) (j := 4) (by rfl) scTurnL.nd rfl rfl (by decide) rfl rfl (pa_cons (pe_ix ix_tup (pv 1) pe_int (fun _ _ => rfl)) (pa_cons (pe_ix ix_tup (pv 1) pe_int (fun _ _ => rfl)) pa_nil)) (by rfl))
    (pss_cons (ps_if (pt_val (pe_call Uis_balance.ok (hr.mono (by omega)) rfl Uis_balance.m Uis_balance.kp Uis_balance.b .nil pass0 (pa_cons (pe_call Umany_in.ok (hr.mono (by omega)) rfl Umany_in.m Umany_in.kp Umany_in.b .nil pass0 (pa_cons (pv 0) pa_nil)) (pa_cons (pe_call Umany_in.ok (hr.mono (by omega)) rfl Umany_in.m Umany_in.kp Umany_in.b .nil pass0 (pa_cons (pv 4) pa_nil)) pa_nil)))) (pss_one (ps_ret (pe_call Uknit.ok (hr.mono (by omega)) rfl Uknit.m Uknit.kp Uknit.b .nil pass0 (pa_cons (pv 0) (pa_cons (pv 3) (pa_cons (pv 4) pa_nil)))))) pss_nil)
    (pss_cons (ps_asg (pe_slice sl_tupA (pv 0) po_none (po_some pe_int)) (pg_tup rfl (pgs_cons (pg_name (i := 5) scTurnL.nd rfl (.inl rfl)) (pgs_cons (pg_name (i := 6) scTurnL.nd rfl (.inl rfl)) (pgs_cons (pg_name (i := 7) scTurnL.nd rfl (.inl rfl)) pgs_nil)))))
    (pss_cons (ps_set (i := 2) scTurnL.nd rfl (.inl rfl) (pe_op op_add (pe_op op_add (pe_call Umany_in.ok (hr.mono (by omega)) rfl Umany_in.m Umany_in.kp Umany_in.b .nil pass0 (pa_cons (pv 7) pa_nil)) pe_int) (pe_call Umany_in.ok (hr.mono (by omega)) rfl Umany_in.m Umany_in.kp Umany_in.b .nil pass0 (pa_cons (pv 4) pa_nil))))
    (pss_cons (ps_if (PW.pt (pw_and (pt_val (pe_call Uis_balance.ok (hr.mono (by omega)) rfl Uis_balance.m Uis_balance.kp Uis_balance.b .nil pass0 (pa_cons (pe_call Umany_in.ok (hr.mono (by omega)) rfl Umany_in.m Umany_in.kp Umany_in.b .nil pass0 (pa_cons (pv 7) pa_nil)) (pa_cons (pe_call Umany_in.ok (hr.mono (by omega)) rfl Umany_in.m Umany_in.kp Umany_in.b .nil pass0 (pa_cons (pv 4) pa_nil)) pa_nil)))) (pw_and1 (pt_val (pe_call Uis_balance.ok (hr.mono (by omega)) rfl Uis_balance.m Uis_balance.kp Uis_balance.b .nil pass0 (pa_cons (pe_call Umany_in.ok (hr.mono (by omega)) rfl Umany_in.m Umany_in.kp Umany_in.b .nil pass0 (pa_cons (pv 5) pa_nil)) (pa_cons (pv 2) pa_nil))))))) (pss_one (ps_ret (pe_call Uknit.ok (hr.mono (by omega)) rfl Uknit.m Uknit.kp Uknit.b .nil pass0 (pa_cons (pv 5) (pa_cons (pv 6) (pa_cons (pe_call Uknit.ok (hr.mono (by omega)) rfl Uknit.m Uknit.kp Uknit.b .nil pass0 (pa_cons (pv 7) (pa_cons (pv 3) (pa_cons (pv 4) pa_nil)))) pa_nil)))))) pss_nil)
    (pss_one (ps_ret (pe_call Uknit.ok (hr.mono (by omega)) rfl Uknit.m Uknit.kp Uknit.b .nil pass0 (pa_cons (pe_call Uknit.ok (hr.mono (by omega)) rfl Uknit.m Uknit.kp Uknit.b .nil pass0 (pa_cons (pv 5) (pa_cons (pv 6) (pa_cons (pe_ix ix_tup (pv 7) pe_int (fun _ _ => rfl)) pa_nil)))) (pa_cons (pe_ix ix_tup (pv 7) pe_int (fun _ _ => rfl)) (pa_cons (pe_call Uknit.ok (hr.mono (by omega)) rfl Uknit.m Uknit.kp Uknit.b .nil pass0 (pa_cons (pe_ix ix_tup (pv 7) pe_int (fun _ _ => rfl)) (pa_cons (pv 3) (pa_cons (pv 4) pa_nil)))) pa_nil))))))))))),
    (ss_cons (ss_par (sa_cons (se_op so_ixT se_nm se_int) (sa_cons (se_op so_ixT se_nm se_int) sa_nil)))
    (ss_cons (ss_if (st_val (se_call (sa_cons (se_call (sa_cons se_nm sa_nil)) (sa_cons (se_call (sa_cons se_nm sa_nil)) sa_nil)))) (ss_ret (se_call (sa_cons se_nm (sa_cons se_nm (sa_cons se_nm sa_nil))))) ss_nil)
    (ss_cons (ss_unp sg_tup3 (se_sl sl_T se_nm sp_no (sp_some se_int)))
    (ss_cons (ss_set (se_op so_add (se_op so_add (se_call (sa_cons se_nm sa_nil)) se_int) (se_call (sa_cons se_nm sa_nil))))
    (ss_cons (ss_if (st_and (st_val (se_call (sa_cons (se_call (sa_cons se_nm sa_nil)) (sa_cons (se_call (sa_cons se_nm sa_nil)) sa_nil)))) (st_val (se_call (sa_cons (se_call (sa_cons se_nm sa_nil)) (sa_cons se_nm sa_nil))))) (ss_ret (se_call (sa_cons se_nm (sa_cons se_nm (sa_cons (se_call (sa_cons se_nm (sa_cons se_nm (sa_cons se_nm sa_nil)))) sa_nil))))) ss_nil)
    (ss_ret (se_call (sa_cons (se_call (sa_cons se_nm (sa_cons se_nm (sa_cons (se_op so_ixT se_nm se_int) sa_nil)))) (sa_cons (se_op so_ixT se_nm se_int) (sa_cons (se_call (sa_cons (se_op so_ixT se_nm se_int) (sa_cons se_nm (sa_cons se_nm sa_nil)))) sa_nil)))))))))), fun ws M R RX hl h => ?_⟩
  obtain ⟨x, y, rfl, h1⟩ := g2_of h
  obtain ⟨Hv, rfl, t, rfl, ⟨hH, ht, z1, z2, b, y0, Rt, S, rfl, hs, hz, z3⟩, h3⟩ := h1
  obtain ⟨hb, hB, hR⟩ := ht
  rw [sz] at hs z2
  obtain ⟨j1, j2, j3, _⟩ := turnL_ok (y := y0) hR hH hb (S := S) (by omega) hz
  have fin : R (.d (toD (turnL Hv y0 Rt))) M := h3 _ ⟨j3, j2⟩
  rw [toD]
  unfold turnL at fin
  simp only [start0, len_c, len_n, map_c, map_n, app_c, app_n, rep_0, rep_s, Nat.reduceAdd, Nat.reduceSub]
  decreasing_trivial_pre_omega
  rw [balb_bal]
  cases c1 : balb (sz Hv) (sz Rt)
  · rw [c1, if_neg Bool.false_ne_true] at fin
    cases Hv with
    | nil => exfalso; rw [sz] at hz; omega
    | node o m i =>
      rw [sz] at z1 z3 hz
      dsimp only at fin
      rw [show toD (node o m i) = .tuple [toD o, m, toD i, .int ((sz o : Int) + 1 + (sz i : Nat))] from rfl]
      decreasing_trivial_pre_omega
      rw [show cut [toD o, m, toD i, PyData.int ((sz o : Int) + 1 + (sz i : Nat))] none (some 3) = [toD o, m, toD i] from cut_to (k := 3)]
      decreasing_trivial_pre_omega
      rw [balb_bal]
      cases c2 : balb (sz i) (sz Rt)
      · rw [c2, Bool.false_and, if_neg Bool.false_ne_true] at fin
        decreasing_trivial_pre_omega
        cases i with
        | nil => exfalso; have := balb_no c1; have := balb_no c2; simp only [sz] at *; obtain ⟨⟨e1, e2⟩, _⟩ := hH; simp only [sz] at e1 e2; obtain ⟨b1, b2⟩ := hb; omega
        | node i1 m1 i2 =>
          dsimp only at fin
          rw [show toD (node i1 m1 i2) = .tuple [toD i1, m1, toD i2, .int ((sz i1 : Int) + 1 + (sz i2 : Nat))] from rfl]
          decreasing_trivial_pre_omega
          exact fin
      · decreasing_trivial_pre_omega
        rw [show ((sz i : Nat) : Int) + 1 + ((sz Rt : Nat) : Int) = ((sz i + 1 + sz Rt : Nat) : Int) by omega, balb_bal]
        cases c3 : balb (sz o) (sz i + 1 + sz Rt)
        · rw [c2, c3, Bool.and_false, if_neg Bool.false_ne_true] at fin
          decreasing_trivial_pre_omega
          cases i with
          | nil => exfalso; have := balb_no c1; have := balb_no c3; simp only [sz] at *; obtain ⟨⟨e1, e2⟩, _⟩ := hH; simp only [sz] at e1 e2; obtain ⟨b1, b2⟩ := hb; omega
          | node i1 m1 i2 =>
            dsimp only at fin
            rw [show toD (node i1 m1 i2) = .tuple [toD i1, m1, toD i2, .int ((sz i1 : Int) + 1 + (sz i2 : Nat))] from rfl]
            decreasing_trivial_pre_omega
            exact fin
        · rw [c2, c3, Bool.and_self, if_pos rfl] at fin
          decreasing_trivial_pre_omega
          exact fin
  · rw [c1, if_pos rfl] at fin
    decreasing_trivial_pre_omega
    exact fin
@[reducible] def tfLinked (n : Nat) : TF := fun ws M R _ => match ws with | [a, .d it, c] => gTie a fun l => gTie c fun r => (hg l + hg r < n ∧ Ev l ∧ Ev r ∧ sz l + sz r < 2000) ∧ ∀ t, Is t (its l ++ it :: its r) → R (.d (toD t)) M | _ => False
abbrev sLinked : Stmt := top 11
theorem scLinked : FnScope ["left", "item", "right"] ["left", "item", "right"] (defScope sLinked) := ⟨rfl, rfl, rfl, by decide +kernel, rfl, by decide +kernel, by decide +kernel⟩
theorem ok_linked1 {f : Addr} {fd : FuncData} {n j : Nat} (F : Fun K "linked" "linked" sLinked f fd) (Ulinked : Use P w K mg base "linked" ["left", "item", "right"] (j + n) (spD K 3 (tfLinked n))) (Umany_in : Use P w K mg base "many_in" ["tie"] j (spD K 1 tfMany)) (Uknit : Use P w K mg base "knit" ["left", "item", "right"] j (spD K 3 tfKnit)) (Uturned_right : Use P w K mg base "turned_right" ["heavy", "top"] j (spD K 2 tfTurnR)) (Uturned_left : Use P w K mg base "turned_left" ["heavy", "top"] j (spD K 2 tfTurnL)) (T : Bl mg) :
    FnOk P w K mg base CX0 (j + n + 1) f fd ["left", "item", "right"] (spD K 3 (tfLinked (n + 1))) := by
  refine okD F scLinked rfl fun cdv A outer s H E hr => ?_
  refine ⟨_, _, (pss_cons (ps_if (pt_cmpR op_gt (pe_op op_add (pe_call Umany_in.ok (hr.mono (by omega)) rfl Umany_in.m Umany_in.kp Umany_in.b .nil pass0 (pa_cons (pv 0) pa_nil)) pe_int) (pe_op op_mul pe_int (pe_op op_add (pe_call Umany_in.ok (hr.mono (by omega)) rfl Umany_in.m Umany_in.kp Umany_in.b .nil pass0 (pa_cons (pv 2) pa_nil)) pe_int)) (nomark _)) (pss_one (ps_ret (pe_call Uturned_right.ok (hr.mono (by omega)) rfl Uturned_right.m Uturned_right.kp Uturned_right.b .nil pass0 (pa_cons (pe_call Ulinked.ok (hr.mono (by omega)) rfl Ulinked.m Ulinked.kp Ulinked.b .nil pass0 (pa_cons (pe_ix ix_tup (pv 0) pe_int (fun _ _ => rfl)) (pa_cons (pv 1) (pa_cons (pv 2) pa_nil)))) (pa_cons (pv 0) pa_nil))))) pss_nil)
    (pss_cons (ps_if (pt_cmpR op_gt (pe_op op_add (pe_call Umany_in.ok (hr.mono (by omega)) rfl Umany_in.m Umany_in.kp Umany_in.b .nil pass0 (pa_cons (pv 2) pa_nil)) pe_int) (pe_op op_mul pe_int (pe_op op_add (pe_call Umany_in.ok (hr.mono (by omega)) rfl Umany_in.m Umany_in.kp Umany_in.b .nil pass0 (pa_cons (pv 0) pa_nil)) pe_int)) (nomark _)) (pss_one (ps_ret (pe_call Uturned_left.ok (hr.mono (by omega)) rfl Uturned_left.m Uturned_left.kp Uturned_left.b .nil pass0 (pa_cons (pe_call Ulinked.ok (hr.mono (by omega)) rfl Ulinked.m Ulinked.kp Ulinked.b .nil pass0 (pa_cons (pv 0) (pa_cons (pv 1) (pa_cons (pe_ix ix_tup (pv 2) pe_int (fun _ _ => rfl)) pa_nil)))) (pa_cons (pv 2) pa_nil))))) pss_nil)
    (pss_one (ps_ret (pe_call Uknit.ok (hr.mono (by omega)) rfl Uknit.m Uknit.kp Uknit.b .nil pass0 (pa_cons (pv 0) (pa_cons (pv 1) (pa_cons (pv 2) pa_nil)))))))),
    (ss_cons (ss_if (st_test (se_op so_gt (se_op so_add (se_call (sa_cons se_nm sa_nil)) se_int) (se_op so_mul se_int (se_op so_add (se_call (sa_cons se_nm sa_nil)) se_int)))) (ss_ret (se_call (sa_cons (se_call (sa_cons (se_op so_ixT se_nm se_int) (sa_cons se_nm (sa_cons se_nm sa_nil)))) (sa_cons se_nm sa_nil)))) ss_nil)
    (ss_cons (ss_if (st_test (se_op so_gt (se_op so_add (se_call (sa_cons se_nm sa_nil)) se_int) (se_op so_mul se_int (se_op so_add (se_call (sa_cons se_nm sa_nil)) se_int)))) (ss_ret (se_call (sa_cons (se_call (sa_cons se_nm (sa_cons se_nm (sa_cons (se_op so_ixT se_nm se_int) sa_nil)))) (sa_cons se_nm sa_nil)))) ss_nil)
    (ss_ret (se_call (sa_cons se_nm (sa_cons se_nm (sa_cons se_nm sa_nil))))))), fun ws M R RX hl h => ?_⟩
  match ws, h with
  | [a, .d it, c], h =>
    obtain ⟨l, rfl, r, rfl, ⟨hd, hl, hr, hz⟩, h2⟩ := h
    simp only [start0, len_c, len_n, map_c, map_n, app_c, app_n, rep_0, rep_s, Nat.reduceAdd, Nat.reduceSub]
    decreasing_trivial_pre_omega
    refine IfB.d (fun c1 => ?_) (fun c1 => ?_)
    · cases l with
      | nil => exfalso; rw [sz] at c1; omega
      | node a y b =>
        obtain ⟨hb, ha, hb2⟩ := hl
        rw [hg] at hd
        rw [sz] at hz c1
        rw [show toD (node a y b) = .tuple [toD a, y, toD b, .int ((sz a : Int) + 1 + (sz b : Nat))] from rfl]
        decreasing_trivial_pre_omega
        intro t ht
        have e := ht.sz
        rw [List.length_append, List.length_cons, its_len, its_len] at e
        decreasing_trivial_pre_omega
        refine ⟨⟨ht.ev, ⟨hb, ha, hb2⟩, by omega, by rw [sz]; omega, a, y, b, sz r, rfl, by rw [sz]; omega, by omega, by omega⟩, fun t' ht' => h2 t' ?_⟩
        rw [ht.its] at ht'
        rw [its]
        simpa using ht'
    · decreasing_trivial_pre_omega
      refine IfB.d (fun c2 => ?_) (fun c2 => ?_)
      · cases r with
        | nil => exfalso; rw [sz] at c2; omega
        | node a y b =>
          obtain ⟨hb, ha, hb2⟩ := hr
          rw [hg] at hd
          rw [sz] at hz c2
          rw [show toD (node a y b) = .tuple [toD a, y, toD b, .int ((sz a : Int) + 1 + (sz b : Nat))] from rfl]
          decreasing_trivial_pre_omega
          intro t ht
          have e := ht.sz
          rw [List.length_append, List.length_cons, its_len, its_len] at e
          decreasing_trivial_pre_omega
          refine ⟨⟨ht.ev, ⟨hb, ha, hb2⟩, by omega, by rw [sz]; omega, a, y, b, sz l, rfl, by rw [sz]; omega, by omega, by omega⟩, fun t' ht' => h2 t' ?_⟩
          rw [ht.its] at ht'
          rw [its]
          simpa using ht'
      · decreasing_trivial_pre_omega
        exact h2 _ ⟨⟨⟨by omega, by omega⟩, hl, hr⟩, rfl⟩
theorem ok_linked {f : Addr} {fd : FuncData} {j : Nat} (F : Fun K "linked" "linked" sLinked f fd) (mF : mg "linked" = some (.ref f)) (Umany_in : Use P w K mg base "many_in" ["tie"] j (spD K 1 tfMany)) (Uknit : Use P w K mg base "knit" ["left", "item", "right"] j (spD K 3 tfKnit)) (Uturned_right : Use P w K mg base "turned_right" ["heavy", "top"] j (spD K 2 tfTurnR)) (Uturned_left : Use P w K mg base "turned_left" ["heavy", "top"] j (spD K 2 tfTurnL)) (T : Bl mg) : ∀ n, FnOk P w K mg base CX0 (j + n) f fd ["left", "item", "right"] (spD K 3 (tfLinked n))
  | 0 => no0 fun ws M R RX h => by
    match ws, h with
    | [a, .d it, c], h =>
      obtain ⟨l, rfl, r, rfl, ⟨h, _⟩, _⟩ := h
      omega
  | n + 1 => ok_linked1 F ⟨f, fd, ok_linked F mF Umany_in Uknit Uturned_right Uturned_left T n, mF, F.kp, F.binds (ps := ["left", "item", "right"]) fun _ _ _ _ _ _ us hl => match us, hl with | [_, _, _], _ => rfl⟩ Umany_in Uknit Uturned_right Uturned_left T
end
end Tl

set_option Elab.async false
set_option linter.all false
set_option maxRecDepth 100000
set_option maxHeartbeats 4000000
/-! An item put in, taken out. -/
namespace Tl
open PySem L2
namespace Tie
def insAt (xs : List PyData) (k : Nat) (x : PyData) : List PyData := xs.take k ++ x :: xs.drop k
def outAt (xs : List PyData) (k : Nat) : List PyData := xs.take k ++ xs.drop (k + 1)
theorem insAt_len {xs : List PyData} {k : Nat} {x : PyData} (h : k ≤ xs.length) : (insAt xs k x).length = xs.length + 1 := by
  unfold insAt
  rw [List.length_append, List.length_cons, List.length_take, List.length_drop]
  omega
theorem outAt_len {xs : List PyData} {k : Nat} (h : k < xs.length) : (outAt xs k).length + 1 = xs.length := by
  unfold outAt
  rw [List.length_append, List.length_take, List.length_drop]
  omega
theorem insAt_left {a b : List PyData} {y x : PyData} {k : Nat} (h : k ≤ a.length) : insAt (a ++ y :: b) k x = insAt a k x ++ y :: b := by
  unfold insAt
  rw [take_left h, drop_left h]
  simp
theorem insAt_right {a b : List PyData} {y x : PyData} {k : Nat} (h : a.length < k) : insAt (a ++ y :: b) k x = a ++ y :: insAt b (k - a.length - 1) x := by
  unfold insAt
  rw [take_right h, drop_right h]
  simp
theorem outAt_left {a b : List PyData} {y : PyData} {k : Nat} (h : k < a.length) : outAt (a ++ y :: b) k = outAt a k ++ y :: b := by
  unfold outAt
  rw [take_left (by omega), drop_left (by omega)]
  simp
theorem outAt_mid {a b : List PyData} {y : PyData} : outAt (a ++ y :: b) a.length = a ++ b := by
  unfold outAt
  rw [List.take_left', ← List.drop_drop, List.drop_left']
  · rfl
  · rfl
  · rfl
theorem outAt_right {a b : List PyData} {y : PyData} {k : Nat} (h : a.length < k) : outAt (a ++ y :: b) k = a ++ y :: outAt b (k - a.length - 1) := by
  unfold outAt
  rw [take_right h, drop_right (by omega), show k + 1 - a.length - 1 = (k - a.length - 1) + 1 by omega]
  simp
theorem out_0 {x : PyData} {xs : List PyData} : outAt (x :: xs) 0 = xs := rfl
end Tie
end Tl

set_option Elab.async false
set_option linter.all false
set_option maxRecDepth 100000
set_option maxHeartbeats 8000000
namespace Tl
open PySem L2 RZ Tie
local macro_rules
  | `(tactic| decreasing_trivial) => `(tactic| ((with_reducible (conv => whnf)); (repeat ((first | (with_reducible refine gTie_i ?_) | (with_reducible refine gTie_n ?_) | (with_reducible refine gTie_4 ?_) | (with_reducible refine gDs_c ?_) | (with_reducible refine gDs_n ?_) | (with_reducible refine gNs_c ?_) | (with_reducible refine gNs_n ?_) | (with_reducible refine gO_i tyAny_lt ?_) | (with_reducible refine gIs_c ?_) | (with_reducible refine gIs_n ?_) | (with_reducible refine gBs_c ?_) | (with_reducible refine gBs_n ?_) | (with_reducible refine gSs_c ?_) | (with_reducible refine gSs_n ?_) | (with_reducible refine gO_i tyIs_int ?_) | (with_reducible refine gO_i tyIs_bool ?_) | (with_reducible refine gO_i tyIs_str ?_) | (with_reducible refine gO_i tyIs_tuple ?_) | (with_reducible refine gO_i tyIs_list ?_) | (with_reducible refine gDs_i ?_) | (with_reducible refine gO_i (Eq.refl _) ?_) | (with_reducible refine gO_i (by assumption) ?_) | (with_reducible refine gO_i at_0 ?_) | (with_reducible refine gO_i at_m0 ?_) | (with_reducible refine gO_i at_1 ?_) | (with_reducible refine gO_i at_m1 ?_) | (with_reducible refine gO_i at_2 ?_) | (with_reducible refine gO_i at_m2 ?_) | (with_reducible refine gO_i at_3 ?_) | (with_reducible refine gO_i at_m3 ?_) | (with_reducible refine gO_i at_4 ?_) | (with_reducible refine gO_i at_m4 ?_) | (with_reducible refine gO_i at_5 ?_) | (with_reducible refine gO_i at_m5 ?_) | (with_reducible refine gO_i at_6 ?_) | (with_reducible refine gO_i at_m6 ?_) | (with_reducible refine gO_i at_7 ?_) | (with_reducible refine gO_i at_m7 ?_) | (with_reducible refine IfB.ngf ?_) | (with_reducible refine IfB.ngt ?_) | (with_reducible refine IfB.not ?_) | (with_reducible refine IfB.nil ?_) | (with_reducible refine IfB.nilT ?_) | (with_reducible refine IfB.f isE_c ?_) | (with_reducible refine IfB.t isE_n ?_) | (with_reducible refine IfB.t ?gha ?_; (case gha => rfl)) | (with_reducible refine IfB.f ?gha ?_; (case gha => rfl)) | (with_reducible refine IfB.t ?gha ?_; (case gha => assumption)) | (with_reducible refine IfB.f ?gha ?_; (case gha => assumption)) | (with_reducible refine IfB.yes (Eq.refl _) ?_) | (with_reducible refine IfB.yes ?gha ?_; (case gha => (first | omega | (simp only [len_c, len_n, List.length_map]; omega)))) | (with_reducible refine IfB.no ?gha ?_; (case gha => (first | omega | (simp only [len_c, len_n, List.length_map]; omega)))) | (with_reducible refine IfB.t ?gha ?_; (case gha => decide +kernel)) | (with_reducible refine IfB.f ?gha ?_; (case gha => decide +kernel))); (with_reducible (conv => whnf))))))
local macro_rules
  | `(tactic| decreasing_trivial_pre_omega) => `(tactic| (decreasing_trivial; (repeat ((first | ((with_reducible refine And.intro ?gha ?_); (case gha => (first | assumption | omega | exact rfl | (exact mset_same) | (exact ⟨_, mset_same⟩) | (exact Exists.intro _ (by first | exact mset_same | assumption | (rw [mset_ne (by assumption)]; first | exact mset_same | assumption))) | (exact sm_of (by omega) (by omega)) | (exact sz1000 (by first | omega | (simp; done) | (simp; omega))) | (exact Or.inl ⟨by decide, by decide⟩) | decide | (simp; done) | (refine ⟨?_, ?_⟩ <;> (first | assumption | omega | exact rfl | (exact mset_same) | (exact ⟨_, mset_same⟩) | (exact Exists.intro _ (by first | exact mset_same | assumption | (rw [mset_ne (by assumption)]; first | exact mset_same | assumption))) | (exact sm_of (by omega) (by omega)) | (exact sz1000 (by first | omega | (simp; done) | (simp; omega))) | (exact Or.inl ⟨by decide, by decide⟩) | decide | (simp; done))) | (refine ⟨?_, ?_, ?_⟩ <;> (first | assumption | omega | exact rfl | (exact mset_same) | (exact ⟨_, mset_same⟩) | (exact Exists.intro _ (by first | exact mset_same | assumption | (rw [mset_ne (by assumption)]; first | exact mset_same | assumption))) | (exact sm_of (by omega) (by omega)) | (exact sz1000 (by first | omega | (simp; done) | (simp; omega))) | (exact Or.inl ⟨by decide, by decide⟩) | decide | (simp; done))) | (refine ⟨?_, ?_, ?_, ?_⟩ <;> (first | assumption | omega | exact rfl | (exact mset_same) | (exact ⟨_, mset_same⟩) | (exact Exists.intro _ (by first | exact mset_same | assumption | (rw [mset_ne (by assumption)]; first | exact mset_same | assumption))) | (exact sm_of (by omega) (by omega)) | (exact sz1000 (by first | omega | (simp; done) | (simp; omega))) | (exact Or.inl ⟨by decide, by decide⟩) | decide | (simp; done)))))) | (with_reducible refine exW (by first | exact mset_same | assumption | (rw [mset_ne (by assumption)]; first | exact mset_same | assumption)) ?_)); decreasing_trivial))))
@[reducible] def tfNth (n : Nat) : TF := fun ws M R _ => g2 ws fun x y => gTie x fun t => gI y fun i => (hg t < n ∧ 0 ≤ i ∧ i < sz t) ∧ ∀ d, (its t)[i.toNat]? = some d → R (.d d) M
@[reducible] def tfWith (n : Nat) : TF := fun ws M R _ => match ws with | [a, b, .d it] => gTie a fun t => gI b fun i => (hg t < n ∧ Ev t ∧ 0 ≤ i ∧ i ≤ sz t ∧ sz t < 1000) ∧ ∀ t', Is t' (insAt (its t) i.toNat it) → R (.d (toD t')) M | _ => False
@[reducible] def tfWo (n : Nat) : TF := fun ws M R _ => g2 ws fun x y => gTie x fun t => gI y fun i => (hg t < n ∧ Ev t ∧ 0 ≤ i ∧ i < sz t ∧ sz t ≤ 1000) ∧ ∀ t', Is t' (outAt (its t) i.toNat) → R (.d (toD t')) M
@[reducible] def tfBoth (n : Nat) : TF := fun ws M R _ => g2 ws fun x y => gTie x fun a => gTie y fun b => (hg b < n ∧ Ev a ∧ Ev b ∧ sz a + sz b ≤ 1000) ∧ ∀ t', Is t' (its a ++ its b) → R (.d (toD t')) M
@[reducible] def tfHalves (n : Nat) : TF := fun ws M R _ => g2 ws fun x y => gTie x fun t => gI y fun i => (hg t < n ∧ Ev t ∧ 0 ≤ i ∧ i ≤ sz t ∧ sz t ≤ 1000) ∧ ∀ a b, Is a ((its t).take i.toNat) → Is b ((its t).drop i.toNat) → R (.d (.tuple [toD a, toD b])) M
theorem toD_node (l r : Tie) (y : PyData) : toD (node l y r) = .tuple [toD l, y, toD r, .int ((sz l : Int) + 1 + (sz r : Nat))] := rfl
theorem cut3 (l r : Tie) (y : PyData) : cut [toD l, y, toD r, PyData.int ((sz l : Int) + 1 + (sz r : Nat))] none (some 3) = [toD l, y, toD r] := cut_to (k := 3)
theorem flat_of {t : Tie} (h : Ev t) (hs : sz t ≤ 1000) : hg t ≤ 24 := hg_le h hs
section
variable {P : Program} {w : World} {K : PySem.W.Frag} {mg : Str → Option Value} {base : Heap}
abbrev sNth : Stmt := top 14
theorem scNth : FnScope ["tie", "at", "left", "item", "right"] ["tie", "at"] (defScope sNth) := ⟨rfl, rfl, rfl, by decide +kernel, rfl, by decide +kernel, by decide +kernel⟩
theorem ok_nth1 {f : Addr} {fd : FuncData} {n j : Nat} (F : Fun K "nth" "nth" sNth f fd) (Unth : Use P w K mg base "nth" ["tie", "at"] (j + n) (spD K 2 (tfNth n))) (Umany_in : Use P w K mg base "many_in" ["tie"] j (spD K 1 tfMany)) (T : Bl mg) :
    FnOk P w K mg base CX0 (j + n + 1) f fd ["tie", "at"] (spD K 2 (tfNth (n + 1))) := by
  refine okD F scNth rfl fun cdv A outer s H E hr => ?_
  refine ⟨_, _, (pss_cons (ps_asg (pe_slice sl_tupA (pv 0) po_none (po_some pe_int)) (pg_tup rfl (pgs_cons (pg_name (i := 2) scNth.nd rfl (.inl rfl)) (pgs_cons (pg_name (i := 3) scNth.nd rfl (.inl rfl)) (pgs_cons (pg_name (i := 4) scNth.nd rfl (.inl rfl)) pgs_nil)))))
    (pss_cons (ps_if (pt_cmpR op_lt (pv 1) (pe_call Umany_in.ok (hr.mono (by omega)) rfl Umany_in.m Umany_in.kp Umany_in.b .nil pass0 (pa_cons (pv 2) pa_nil)) (nomark _)) (pss_one (ps_ret (pe_call Unth.ok (hr.mono (by omega)) rfl Unth.m Unth.kp Unth.b .nil pass0 (pa_cons (pv 2) (pa_cons (pv 1) pa_nil))))) pss_nil)
    (pss_cons (ps_if (pt_cmpR op_eq (pv 1) (pe_call Umany_in.ok (hr.mono (by omega)) rfl Umany_in.m Umany_in.kp Umany_in.b .nil pass0 (pa_cons (pv 2) pa_nil)) (nomark _)) (pss_one (ps_ret (pv 3))) pss_nil)
    (pss_one (ps_ret (pe_call Unth.ok (hr.mono (by omega)) rfl Unth.m Unth.kp Unth.b .nil pass0 (pa_cons (pv 4) (pa_cons (pe_op op_sub (pe_op op_sub (pv 1) (pe_call Umany_in.ok (hr.mono (by omega)) rfl Umany_in.m Umany_in.kp Umany_in.b .nil pass0 (pa_cons (pv 2) pa_nil))) pe_int) pa_nil)))))))),
    (ss_cons (ss_unp sg_tup3 (se_sl sl_T se_nm sp_no (sp_some se_int)))
    (ss_cons (ss_if (st_test (se_op so_lt se_nm (se_call (sa_cons se_nm sa_nil)))) (ss_ret (se_call (sa_cons se_nm (sa_cons se_nm sa_nil)))) ss_nil)
    (ss_cons (ss_if (st_test (se_op so_eqS se_nm (se_call (sa_cons se_nm sa_nil)))) (ss_ret se_nm) ss_nil)
    (ss_ret (se_call (sa_cons se_nm (sa_cons (se_op so_sub (se_op so_sub se_nm (se_call (sa_cons se_nm sa_nil))) se_int) sa_nil))))))), fun ws M R RX hl h => ?_⟩
  obtain ⟨x, y, rfl, h1⟩ := g2_of h
  obtain ⟨t, rfl, h1⟩ := h1
  obtain ⟨i, rfl, ⟨hd, i0, i1⟩, h2⟩ := gI_of h1
  cases t with
  | nil => exfalso; rw [sz] at i1; omega
  | node l y r =>
    rw [hg] at hd
    rw [sz] at i1
    rw [its] at h2
    have hl := its_len l
    rw [toD_node]
    simp only [start0, len_c, len_n, map_c, map_n, app_c, app_n, rep_0, rep_s, Nat.reduceAdd, Nat.reduceSub]
    decreasing_trivial_pre_omega
    rw [cut3]
    decreasing_trivial_pre_omega
    refine IfB.d (fun c => ?_) (fun c => ?_)
    · decreasing_trivial_pre_omega
      intro d hd2
      exact h2 d (by rw [List.getElem?_append_left (by omega)]; exact hd2)
    · decreasing_trivial_pre_omega
      refine IfB.d (fun c2 => ?_) (fun c2 => ?_)
      · decreasing_trivial_pre_omega
        exact h2 y (by rw [List.getElem?_append_right (by omega), show i.toNat - (its l).length = 0 by omega]; rfl)
      · decreasing_trivial_pre_omega
        intro d hd2
        exact h2 d (by rw [List.getElem?_append_right (by omega), show i.toNat - (its l).length = (i - (sz l : Nat) - 1).toNat + 1 by omega]; exact hd2)
theorem ok_nth {f : Addr} {fd : FuncData} {j : Nat} (F : Fun K "nth" "nth" sNth f fd) (mF : mg "nth" = some (.ref f)) (Umany_in : Use P w K mg base "many_in" ["tie"] j (spD K 1 tfMany)) (T : Bl mg) : ∀ n, FnOk P w K mg base CX0 (j + n) f fd ["tie", "at"] (spD K 2 (tfNth n))
  | 0 => no0 fun ws M R RX h => by
    obtain ⟨x, y, rfl, h1⟩ := g2_of h
    obtain ⟨t, rfl, h1⟩ := h1
    obtain ⟨i, rfl, ⟨hd, i0, i1⟩, h2⟩ := gI_of h1
    omega
  | n + 1 => ok_nth1 F ⟨f, fd, ok_nth F mF Umany_in T n, mF, F.kp, F.binds (ps := ["tie", "at"]) fun _ _ _ _ _ _ us hl => match us, hl with | [_, _], _ => rfl⟩ Umany_in T
abbrev sWithI : Stmt := top 17
theorem scWithI : FnScope ["tie", "at", "item", "left", "own", "right"] ["tie", "at", "item"] (defScope sWithI) := ⟨rfl, rfl, rfl, by decide +kernel, rfl, by decide +kernel, by decide +kernel⟩
theorem ok_withI1 {f : Addr} {fd : FuncData} {n j : Nat} (F : Fun K "with_item" "with_item" sWithI f fd) (Uwith_item : Use P w K mg base "with_item" ["tie", "at", "item"] (j + n) (spD K 3 (tfWith n))) (Umany_in : Use P w K mg base "many_in" ["tie"] j (spD K 1 tfMany)) (Usingle : Use P w K mg base "single" ["item"] j (spD K 1 tfSingle)) (Ulinked : Use P w K mg base "linked" ["left", "item", "right"] j (spD K 3 (tfLinked 60))) (T : Bl mg) :
    FnOk P w K mg base CX0 (j + n + 1) f fd ["tie", "at", "item"] (spD K 3 (tfWith (n + 1))) := by
  refine okD F scWithI rfl fun cdv A outer s H E hr => ?_
  refine ⟨_, _, (pss_cons (ps_if (pt_cmpR op_isN (pv 0) pe_non (nomark _)) (pss_one (ps_ret (pe_call Usingle.ok (hr.mono (by omega)) rfl Usingle.m Usingle.kp Usingle.b .nil pass0 (pa_cons (pv 2) pa_nil)))) pss_nil)
    (pss_cons (ps_asg (pe_slice sl_tupA (pv 0) po_none (po_some pe_int)) (pg_tup rfl (pgs_cons (pg_name (i := 3) scWithI.nd rfl (.inl rfl)) (pgs_cons (pg_name (i := 4) scWithI.nd rfl (.inl rfl)) (pgs_cons (pg_name (i := 5) scWithI.nd rfl (.inl rfl)) pgs_nil)))))
    (pss_cons (ps_if (pt_cmpR op_le (pv 1) (pe_call Umany_in.ok (hr.mono (by omega)) rfl Umany_in.m Umany_in.kp Umany_in.b .nil pass0 (pa_cons (pv 3) pa_nil)) (nomark _)) (pss_one (ps_ret (pe_call Ulinked.ok (hr.mono (by omega)) rfl Ulinked.m Ulinked.kp Ulinked.b .nil pass0 (pa_cons (pe_call Uwith_item.ok (hr.mono (by omega)) rfl Uwith_item.m Uwith_item.kp Uwith_item.b .nil pass0 (pa_cons (pv 3) (pa_cons (pv 1) (pa_cons (pv 2) pa_nil)))) (pa_cons (pv 4) (pa_cons (pv 5) pa_nil)))))) pss_nil)
    (pss_one (ps_ret (pe_call Ulinked.ok (hr.mono (by omega)) rfl Ulinked.m Ulinked.kp Ulinked.b .nil pass0 (pa_cons (pv 3) (pa_cons (pv 4) (pa_cons (pe_call Uwith_item.ok (hr.mono (by omega)) rfl Uwith_item.m Uwith_item.kp Uwith_item.b .nil pass0 (pa_cons (pv 5) (pa_cons (pe_op op_sub (pe_op op_sub (pv 1) (pe_call Umany_in.ok (hr.mono (by omega)) rfl Umany_in.m Umany_in.kp Umany_in.b .nil pass0 (pa_cons (pv 3) pa_nil))) pe_int) (pa_cons (pv 2) pa_nil)))) pa_nil))))))))),
    (ss_cons (ss_if (st_test (se_op so_isN se_nm se_non)) (ss_ret (se_call (sa_cons se_nm sa_nil))) ss_nil)
    (ss_cons (ss_unp sg_tup3 (se_sl sl_T se_nm sp_no (sp_some se_int)))
    (ss_cons (ss_if (st_test (se_op so_le se_nm (se_call (sa_cons se_nm sa_nil)))) (ss_ret (se_call (sa_cons (se_call (sa_cons se_nm (sa_cons se_nm (sa_cons se_nm sa_nil)))) (sa_cons se_nm (sa_cons se_nm sa_nil))))) ss_nil)
    (ss_ret (se_call (sa_cons se_nm (sa_cons se_nm (sa_cons (se_call (sa_cons se_nm (sa_cons (se_op so_sub (se_op so_sub se_nm (se_call (sa_cons se_nm sa_nil))) se_int) (sa_cons se_nm sa_nil)))) sa_nil)))))))), fun ws M R RX hl h => ?_⟩
  match ws, h with
  | [a, b, .d it], h =>
  obtain ⟨t, rfl, h1⟩ := h
  obtain ⟨i, rfl, ⟨hd, he, i0, i1, hz⟩, h2⟩ := gI_of h1
  cases t with
  | nil =>
    rw [sz] at i1
    simp only [start0, len_c, len_n, map_c, map_n, app_c, app_n, rep_0, rep_s, Nat.reduceAdd, Nat.reduceSub]
    decreasing_trivial_pre_omega
    exact h2 _ ⟨⟨⟨by decide, by decide⟩, trivial, trivial⟩, by rw [show i.toNat = 0 by omega]; rfl⟩
  | node l y r =>
    obtain ⟨hb, hl, hr'⟩ := he
    rw [hg] at hd
    rw [sz] at i1 hz
    rw [its] at h2
    have ln := its_len l
    have rn := its_len r
    have fl := flat_of hl (by omega)
    have fr := flat_of hr' (by omega)
    rw [toD_node]
    simp only [start0, len_c, len_n, map_c, map_n, app_c, app_n, rep_0, rep_s, Nat.reduceAdd, Nat.reduceSub]
    decreasing_trivial_pre_omega
    rw [cut3]
    decreasing_trivial_pre_omega
    refine IfB.d (fun c => ?_) (fun c => ?_)
    · decreasing_trivial_pre_omega
      intro t' ht
      have e := ht.sz
      rw [insAt_len (by omega)] at e
      have ft := flat_of ht.ev (by omega)
      have hev := ht.ev
      decreasing_trivial_pre_omega
      intro t2 ht2
      rw [ht.its] at ht2
      exact h2 t2 (by rw [insAt_left (by omega)]; exact ht2)
    · decreasing_trivial_pre_omega
      intro t' ht
      have e := ht.sz
      rw [insAt_len (by omega)] at e
      have ft := flat_of ht.ev (by omega)
      have hev := ht.ev
      decreasing_trivial_pre_omega
      intro t2 ht2
      rw [ht.its] at ht2
      exact h2 t2 (by rw [insAt_right (by omega), ln, show i.toNat - sz l - 1 = (i - (sz l : Nat) - 1).toNat by omega]; exact ht2)
theorem ok_withI {f : Addr} {fd : FuncData} {j : Nat} (F : Fun K "with_item" "with_item" sWithI f fd) (mF : mg "with_item" = some (.ref f)) (Umany_in : Use P w K mg base "many_in" ["tie"] j (spD K 1 tfMany)) (Usingle : Use P w K mg base "single" ["item"] j (spD K 1 tfSingle)) (Ulinked : Use P w K mg base "linked" ["left", "item", "right"] j (spD K 3 (tfLinked 60))) (T : Bl mg) : ∀ n, FnOk P w K mg base CX0 (j + n) f fd ["tie", "at", "item"] (spD K 3 (tfWith n))
  | 0 => no0 fun ws M R RX h => by
    match ws, h with
    | [a, b, .d it], h =>
    obtain ⟨t, rfl, h1⟩ := h
    obtain ⟨i, rfl, ⟨hd, _⟩, h2⟩ := gI_of h1
    omega
  | n + 1 => ok_withI1 F ⟨f, fd, ok_withI F mF Umany_in Usingle Ulinked T n, mF, F.kp, F.binds (ps := ["tie", "at", "item"]) fun _ _ _ _ _ _ us hl => match us, hl with | [_, _, _], _ => rfl⟩ Umany_in Usingle Ulinked T
abbrev sBoth : Stmt := top 19
theorem scBoth : FnScope ["one", "other"] ["one", "other"] (defScope sBoth) := ⟨rfl, rfl, rfl, by decide +kernel, rfl, by decide +kernel, by decide +kernel⟩
theorem ok_both1 {f : Addr} {fd : FuncData} {n j : Nat} (F : Fun K "both_of" "both_of" sBoth f fd) (Uwithout_item : Use P w K mg base "without_item" ["tie", "at"] j (spD K 2 (tfWo n))) (Unth : Use P w K mg base "nth" ["tie", "at"] j (spD K 2 (tfNth 30))) (Ulinked : Use P w K mg base "linked" ["left", "item", "right"] j (spD K 3 (tfLinked 60))) (T : Bl mg) :
    FnOk P w K mg base CX0 (j + 1) f fd ["one", "other"] (spD K 2 (tfBoth n)) := by
  refine okD F scBoth rfl fun cdv A outer s H E hr => ?_
  refine ⟨_, _, (pss_cons (ps_if (pt_cmpR op_isN (pv 1) pe_non (nomark _)) (pss_one (ps_ret (pv 0))) pss_nil)
    (pss_one (ps_ret (pe_call Ulinked.ok (hr.mono (by omega)) rfl Ulinked.m Ulinked.kp Ulinked.b .nil pass0 (pa_cons (pv 0) (pa_cons (pe_call Unth.ok (hr.mono (by omega)) rfl Unth.m Unth.kp Unth.b .nil pass0 (pa_cons (pv 1) (pa_cons pe_int pa_nil))) (pa_cons (pe_call Uwithout_item.ok (hr.mono (by omega)) rfl Uwithout_item.m Uwithout_item.kp Uwithout_item.b .nil pass0 (pa_cons (pv 1) (pa_cons pe_int pa_nil))) pa_nil))))))),
    (ss_cons (ss_if (st_test (se_op so_isN se_nm se_non)) (ss_ret se_nm) ss_nil)
    (ss_ret (se_call (sa_cons se_nm (sa_cons (se_call (sa_cons se_nm (sa_cons se_int sa_nil))) (sa_cons (se_call (sa_cons se_nm (sa_cons se_int sa_nil))) sa_nil)))))), fun ws M R RX hl h => ?_⟩
  obtain ⟨x, y, rfl, h1⟩ := g2_of h
  obtain ⟨a, rfl, b, rfl, ⟨hd, ha, hb, hz⟩, h2⟩ := h1
  cases b with
  | nil =>
    simp only [start0, len_c, len_n, map_c, map_n, app_c, app_n, rep_0, rep_s, Nat.reduceAdd, Nat.reduceSub]
    decreasing_trivial_pre_omega
    exact h2 a ⟨ha, by rw [its, List.append_nil]⟩
  | node l y r =>
    have hb' := hb
    obtain ⟨_, hl, hr'⟩ := hb'
    have fa := flat_of ha (by omega)
    have fb := flat_of hb (by omega)
    have nn : 0 < sz (node l y r) := by rw [sz]; omega
    have bn := its_len (node l y r)
    simp only [start0, len_c, len_n, map_c, map_n, app_c, app_n, rep_0, rep_s, Nat.reduceAdd, Nat.reduceSub]
    refine ⟨rfl, gO_i (a := false) rfl ?_⟩
    decreasing_trivial_pre_omega
    intro d hd0
    decreasing_trivial_pre_omega
    intro t' ht
    have e := ht.sz
    have ol := outAt_len (xs := its (node l y r)) (k := 0) (by omega)
    have ft := flat_of ht.ev (by rw [show (0 : Int).toNat = 0 from rfl] at e; omega)
    have hev := ht.ev
    rw [show (0 : Int).toNat = 0 from rfl] at e ht hd0
    decreasing_trivial_pre_omega
    intro t2 ht2
    refine h2 t2 ?_
    obtain ⟨xs, hxs⟩ : ∃ xs, its (node l y r) = d :: xs := by
      cases q : its (node l y r) with
      | nil => rw [q] at hd0; cases hd0
      | cons z zs => rw [q] at hd0; cases hd0; exact ⟨zs, rfl⟩
    rw [ht.its, hxs, out_0] at ht2
    rw [hxs]
    exact ht2
abbrev sWo : Stmt := top 18
theorem scWo : FnScope ["tie", "at", "left", "own", "right"] ["tie", "at"] (defScope sWo) := ⟨rfl, rfl, rfl, by decide +kernel, rfl, by decide +kernel, by decide +kernel⟩
theorem ok_wo1 {f : Addr} {fd : FuncData} {n j jm : Nat} (F : Fun K "without_item" "without_item" sWo f fd) (Uwithout_item : Use P w K mg base "without_item" ["tie", "at"] j (spD K 2 (tfWo n))) (Uboth_of : Use P w K mg base "both_of" ["one", "other"] j (spD K 2 (tfBoth n))) (Umany_in : Use P w K mg base "many_in" ["tie"] jm (spD K 1 tfMany)) (Ulinked : Use P w K mg base "linked" ["left", "item", "right"] jm (spD K 3 (tfLinked 60))) (hjm : jm ≤ j) (T : Bl mg) :
    FnOk P w K mg base CX0 (j + 1) f fd ["tie", "at"] (spD K 2 (tfWo (n + 1))) := by
  refine okD F scWo rfl fun cdv A outer s H E hr => ?_
  refine ⟨_, _, (pss_cons (ps_asg (pe_slice sl_tupA (pv 0) po_none (po_some pe_int)) (pg_tup rfl (pgs_cons (pg_name (i := 2) scWo.nd rfl (.inl rfl)) (pgs_cons (pg_name (i := 3) scWo.nd rfl (.inl rfl)) (pgs_cons (pg_name (i := 4) scWo.nd rfl (.inl rfl)) pgs_nil)))))
    (pss_cons (ps_if (pt_cmpR op_lt (pv 1) (pe_call Umany_in.ok (hr.mono (by omega)) rfl Umany_in.m Umany_in.kp Umany_in.b .nil pass0 (pa_cons (pv 2) pa_nil)) (nomark _)) (pss_one (ps_ret (pe_call Ulinked.ok (hr.mono (by omega)) rfl Ulinked.m Ulinked.kp Ulinked.b .nil pass0 (pa_cons (pe_call Uwithout_item.ok (hr.mono (by omega)) rfl Uwithout_item.m Uwithout_item.kp Uwithout_item.b .nil pass0 (pa_cons (pv 2) (pa_cons (pv 1) pa_nil))) (pa_cons (pv 3) (pa_cons (pv 4) pa_nil)))))) pss_nil)
    (pss_cons (ps_if (pt_cmpR op_gt (pv 1) (pe_call Umany_in.ok (hr.mono (by omega)) rfl Umany_in.m Umany_in.kp Umany_in.b .nil pass0 (pa_cons (pv 2) pa_nil)) (nomark _)) (pss_one (ps_ret (pe_call Ulinked.ok (hr.mono (by omega)) rfl Ulinked.m Ulinked.kp Ulinked.b .nil pass0 (pa_cons (pv 2) (pa_cons (pv 3) (pa_cons (pe_call Uwithout_item.ok (hr.mono (by omega)) rfl Uwithout_item.m Uwithout_item.kp Uwithout_item.b .nil pass0 (pa_cons (pv 4) (pa_cons (pe_op op_sub (pe_op op_sub (pv 1) (pe_call Umany_in.ok (hr.mono (by omega)) rfl Umany_in.m Umany_in.kp Umany_in.b .nil pass0 (pa_cons (pv 2) pa_nil))) pe_int) pa_nil))) pa_nil)))))) pss_nil)
    (pss_one (ps_ret (pe_call Uboth_of.ok (hr.mono (by omega)) rfl Uboth_of.m Uboth_of.kp Uboth_of.b .nil pass0 (pa_cons (pv 2) (pa_cons (pv 4) pa_nil)))))))),
    (ss_cons (ss_unp sg_tup3 (se_sl sl_T se_nm sp_no (sp_some se_int)))
    (ss_cons (ss_if (st_test (se_op so_lt se_nm (se_call (sa_cons se_nm sa_nil)))) (ss_ret (se_call (sa_cons (se_call (sa_cons se_nm (sa_cons se_nm sa_nil))) (sa_cons se_nm (sa_cons se_nm sa_nil))))) ss_nil)
    (ss_cons (ss_if (st_test (se_op so_gt se_nm (se_call (sa_cons se_nm sa_nil)))) (ss_ret (se_call (sa_cons se_nm (sa_cons se_nm (sa_cons (se_call (sa_cons se_nm (sa_cons (se_op so_sub (se_op so_sub se_nm (se_call (sa_cons se_nm sa_nil))) se_int) sa_nil))) sa_nil))))) ss_nil)
    (ss_ret (se_call (sa_cons se_nm (sa_cons se_nm sa_nil))))))), fun ws M R RX hl h => ?_⟩
  obtain ⟨x, y, rfl, h1⟩ := g2_of h
  obtain ⟨t, rfl, h1⟩ := h1
  obtain ⟨i, rfl, ⟨hd, he, i0, i1, hz⟩, h2⟩ := gI_of h1
  cases t with
  | nil => exfalso; rw [sz] at i1; omega
  | node l y r =>
    obtain ⟨hb, hl, hr'⟩ := he
    rw [hg] at hd
    rw [sz] at i1 hz
    rw [its] at h2
    have ln := its_len l
    have rn := its_len r
    have fl := flat_of hl (by omega)
    have fr := flat_of hr' (by omega)
    rw [toD_node]
    simp only [start0, len_c, len_n, map_c, map_n, app_c, app_n, rep_0, rep_s, Nat.reduceAdd, Nat.reduceSub]
    decreasing_trivial_pre_omega
    rw [cut3]
    decreasing_trivial_pre_omega
    refine IfB.d (fun c => ?_) (fun c => ?_)
    · decreasing_trivial_pre_omega
      intro t' ht
      have e := ht.sz
      have ol := outAt_len (xs := its l) (k := i.toNat) (by omega)
      have ft := flat_of ht.ev (by omega)
      have hev := ht.ev
      decreasing_trivial_pre_omega
      intro t2 ht2
      rw [ht.its] at ht2
      exact h2 t2 (by rw [outAt_left (by omega)]; exact ht2)
    · decreasing_trivial_pre_omega
      refine IfB.d (fun c2 => ?_) (fun c2 => ?_)
      · decreasing_trivial_pre_omega
        intro t' ht
        have e := ht.sz
        have ol := outAt_len (xs := its r) (k := (i - (sz l : Nat) - 1).toNat) (by omega)
        have ft := flat_of ht.ev (by omega)
        have hev := ht.ev
        decreasing_trivial_pre_omega
        intro t2 ht2
        rw [ht.its] at ht2
        exact h2 t2 (by rw [outAt_right (by omega), ln, show i.toNat - sz l - 1 = (i - (sz l : Nat) - 1).toNat by omega]; exact ht2)
      · decreasing_trivial_pre_omega
        intro t2 ht2
        exact h2 t2 (by rw [show i.toNat = (its l).length by omega, outAt_mid]; exact ht2)
theorem ok_wo {f fb : Addr} {fd fdb : FuncData} {j : Nat} (F : Fun K "without_item" "without_item" sWo f fd) (mF : mg "without_item" = some (.ref f)) (Fb : Fun K "both_of" "both_of" sBoth fb fdb) (mFb : mg "both_of" = some (.ref fb)) (Unth : Use P w K mg base "nth" ["tie", "at"] j (spD K 2 (tfNth 30))) (Umany_in : Use P w K mg base "many_in" ["tie"] j (spD K 1 tfMany)) (Ulinked : Use P w K mg base "linked" ["left", "item", "right"] j (spD K 3 (tfLinked 60))) (T : Bl mg) : ∀ n, FnOk P w K mg base CX0 (j + 2 * n) f fd ["tie", "at"] (spD K 2 (tfWo n))
  | 0 => no0 fun ws M R RX h => by
    obtain ⟨x, y, rfl, h1⟩ := g2_of h
    obtain ⟨t, rfl, h1⟩ := h1
    obtain ⟨i, rfl, ⟨hd, _⟩, h2⟩ := gI_of h1
    omega
  | n + 1 =>
    let u1 : Use P w K mg base "without_item" ["tie", "at"] (j + 2 * n) (spD K 2 (tfWo n)) := ⟨f, fd, ok_wo F mF Fb mFb Unth Umany_in Ulinked T n, mF, F.kp, F.binds (ps := ["tie", "at"]) fun _ _ _ _ _ _ us hl => match us, hl with | [_, _], _ => rfl⟩
    let u2 : Use P w K mg base "both_of" ["one", "other"] (j + 2 * n + 1) (spD K 2 (tfBoth n)) := ⟨fb, fdb, ok_both1 Fb u1 (Unth.up (by omega)) (Ulinked.up (by omega)) T, mFb, Fb.kp, Fb.binds (ps := ["one", "other"]) fun _ _ _ _ _ _ us hl => match us, hl with | [_, _], _ => rfl⟩
    ok_wo1 (j := j + 2 * n + 1) F (u1.up (by omega)) u2 Umany_in Ulinked (by omega) T
abbrev sHalves : Stmt := top 20
theorem scHalves : FnScope ["tie", "at", "left", "item", "right", "first", "rest"] ["tie", "at"] (defScope sHalves) := ⟨rfl, rfl, rfl, by decide +kernel, rfl, by decide +kernel, by decide +kernel⟩
theorem ok_halves1 {f : Addr} {fd : FuncData} {n j : Nat} (F : Fun K "halves" "halves" sHalves f fd) (Uhalves : Use P w K mg base "halves" ["tie", "at"] (j + n) (spD K 2 (tfHalves n))) (Umany_in : Use P w K mg base "many_in" ["tie"] j (spD K 1 tfMany)) (Ulinked : Use P w K mg base "linked" ["left", "item", "right"] j (spD K 3 (tfLinked 60))) (T : Bl mg) :
    FnOk P w K mg base CX0 (j + n + 1) f fd ["tie", "at"] (spD K 2 (tfHalves (n + 1))) := by
  refine okD F scHalves rfl fun cdv A outer s H E hr => ?_
  refine ⟨_, _, (pss_cons (ps_if (pt_cmpR op_eq (pv 1) pe_int (nomark _)) (pss_one (ps_ret (pe_tup (pa_cons pe_non (pa_cons (pv 0) pa_nil))))) pss_nil)
    (pss_cons (ps_if (pt_cmpR op_eq (pv 1) (pe_call Umany_in.ok (hr.mono (by omega)) rfl Umany_in.m Umany_in.kp Umany_in.b .nil pass0 (pa_cons (pv 0) pa_nil)) (nomark _)) (pss_one (ps_ret (pe_tup (pa_cons (pv 0) (pa_cons pe_non pa_nil))))) pss_nil)
    (pss_cons (ps_asg (pe_slice sl_tupA (pv 0) po_none (po_some pe_int)) (pg_tup rfl (pgs_cons (pg_name (i := 2) scHalves.nd rfl (.inl rfl)) (pgs_cons (pg_name (i := 3) scHalves.nd rfl (.inl rfl)) (pgs_cons (pg_name (i := 4) scHalves.nd rfl (.inl rfl)) pgs_nil)))))
    (pss_cons (ps_if (pt_cmpR op_le (pv 1) (pe_call Umany_in.ok (hr.mono (by omega)) rfl Umany_in.m Umany_in.kp Umany_in.b .nil pass0 (pa_cons (pv 2) pa_nil)) (nomark _)) (pss_cons (ps_asg (pe_call Uhalves.ok (hr.mono (by omega)) rfl Uhalves.m Uhalves.kp Uhalves.b .nil pass0 (pa_cons (pv 2) (pa_cons (pv 1) pa_nil))) (pg_tup rfl (pgs_cons (pg_name (i := 5) scHalves.nd rfl (.inl rfl)) (pgs_cons (pg_name (i := 6) scHalves.nd rfl (.inl rfl)) pgs_nil))))
      (pss_one (ps_ret (pe_tup (pa_cons (pv 5) (pa_cons (pe_call Ulinked.ok (hr.mono (by omega)) rfl Ulinked.m Ulinked.kp Ulinked.b .nil pass0 (pa_cons (pv 6) (pa_cons (pv 3) (pa_cons (pv 4) pa_nil)))) pa_nil)))))) pss_nil)
    (pss_cons (ps_asg (pe_call Uhalves.ok (hr.mono (by omega)) rfl Uhalves.m Uhalves.kp Uhalves.b .nil pass0 (pa_cons (pv 4) (pa_cons (pe_op op_sub (pe_op op_sub (pv 1) (pe_call Umany_in.ok (hr.mono (by omega)) rfl Umany_in.m Umany_in.kp Umany_in.b .nil pass0 (pa_cons (pv 2) pa_nil))) pe_int) pa_nil))) (pg_tup rfl (pgs_cons (pg_name (i := 5) scHalves.nd rfl (.inl rfl)) (pgs_cons (pg_name (i := 6) scHalves.nd rfl (.inl rfl)) pgs_nil))))
    (pss_one (ps_ret (pe_tup (pa_cons (pe_call Ulinked.ok (hr.mono (by omega)) rfl Ulinked.m Ulinked.kp Ulinked.b .nil pass0 (pa_cons (pv 2) (pa_cons (pv 3) (pa_cons (pv 5) pa_nil)))) (pa_cons (pv 6) pa_nil)))))))))),
    (ss_cons (ss_if (st_test (se_op so_eqS se_nm se_int)) (ss_ret (se_tup (sa_cons se_non (sa_cons se_nm sa_nil)))) ss_nil)
    (ss_cons (ss_if (st_test (se_op so_eqS se_nm (se_call (sa_cons se_nm sa_nil)))) (ss_ret (se_tup (sa_cons se_nm (sa_cons se_non sa_nil)))) ss_nil)
    (ss_cons (ss_unp sg_tup3 (se_sl sl_T se_nm sp_no (sp_some se_int)))
    (ss_cons (ss_if (st_test (se_op so_le se_nm (se_call (sa_cons se_nm sa_nil)))) (ss_cons (ss_unp sg_tup2 (se_call (sa_cons se_nm (sa_cons se_nm sa_nil))))
      (ss_ret (se_tup (sa_cons se_nm (sa_cons (se_call (sa_cons se_nm (sa_cons se_nm (sa_cons se_nm sa_nil)))) sa_nil))))) ss_nil)
    (ss_cons (ss_unp sg_tup2 (se_call (sa_cons se_nm (sa_cons (se_op so_sub (se_op so_sub se_nm (se_call (sa_cons se_nm sa_nil))) se_int) sa_nil))))
    (ss_ret (se_tup (sa_cons (se_call (sa_cons se_nm (sa_cons se_nm (sa_cons se_nm sa_nil)))) (sa_cons se_nm sa_nil))))))))), fun ws M R RX hl h => ?_⟩
  obtain ⟨x, y, rfl, h1⟩ := g2_of h
  obtain ⟨t, rfl, h1⟩ := h1
  obtain ⟨i, rfl, ⟨hd, he, i0, i1, hz⟩, h2⟩ := gI_of h1
  simp only [start0, len_c, len_n, map_c, map_n, app_c, app_n, rep_0, rep_s, Nat.reduceAdd, Nat.reduceSub]
  decreasing_trivial_pre_omega
  refine IfB.d (fun c0 => ?_) (fun c0 => ?_)
  · decreasing_trivial_pre_omega
    exact h2 nil t ⟨trivial, by rw [show i.toNat = 0 by omega]; rfl⟩ ⟨he, by rw [show i.toNat = 0 by omega]; rfl⟩
  · decreasing_trivial_pre_omega
    have tn := its_len t
    refine IfB.d (fun c1 => ?_) (fun c1 => ?_)
    · decreasing_trivial_pre_omega
      exact h2 t nil ⟨he, by rw [List.take_of_length_le (by omega)]⟩ ⟨trivial, by rw [List.drop_of_length_le (by omega)]; rfl⟩
    · cases t with
      | nil => exfalso; rw [sz] at i1; omega
      | node l y r =>
        obtain ⟨hb, hl, hr'⟩ := he
        rw [hg] at hd
        rw [sz] at i1 hz c1
        rw [its] at h2
        have ln := its_len l
        have rn := its_len r
        have fl := flat_of hl (by omega)
        have fr := flat_of hr' (by omega)
        rw [toD_node]
        decreasing_trivial_pre_omega
        rw [cut3]
        decreasing_trivial_pre_omega
        refine IfB.d (fun c => ?_) (fun c => ?_)
        · decreasing_trivial_pre_omega
          intro a b ha hb2
          have e2 := hb2.sz
          rw [List.length_drop] at e2
          have fb := flat_of hb2.ev (by omega)
          have hev := hb2.ev
          decreasing_trivial_pre_omega
          intro t2 ht2
          rw [hb2.its] at ht2
          decreasing_trivial_pre_omega
          exact h2 a t2 ⟨ha.ev, by rw [take_left (by omega)]; exact ha.its⟩ (by rw [drop_left (by omega)]; exact ht2)
        · decreasing_trivial_pre_omega
          intro a b ha hb2
          have e2 := ha.sz
          rw [List.length_take] at e2
          have fb := flat_of ha.ev (by omega)
          have hev := ha.ev
          decreasing_trivial_pre_omega
          intro t2 ht2
          rw [ha.its] at ht2
          decreasing_trivial_pre_omega
          refine h2 t2 b ?_ ⟨hb2.ev, ?_⟩
          · rw [take_right (by omega), ln, show i.toNat - sz l - 1 = (i - (sz l : Nat) - 1).toNat by omega]; exact ht2
          · rw [drop_right (by omega), ln, show i.toNat - sz l - 1 = (i - (sz l : Nat) - 1).toNat by omega]; exact hb2.its
theorem ok_halves {f : Addr} {fd : FuncData} {j : Nat} (F : Fun K "halves" "halves" sHalves f fd) (mF : mg "halves" = some (.ref f)) (Umany_in : Use P w K mg base "many_in" ["tie"] j (spD K 1 tfMany)) (Ulinked : Use P w K mg base "linked" ["left", "item", "right"] j (spD K 3 (tfLinked 60))) (T : Bl mg) : ∀ n, FnOk P w K mg base CX0 (j + n) f fd ["tie", "at"] (spD K 2 (tfHalves n))
  | 0 => no0 fun ws M R RX h => by
    obtain ⟨x, y, rfl, h1⟩ := g2_of h
    obtain ⟨t, rfl, h1⟩ := h1
    obtain ⟨i, rfl, ⟨hd, _⟩, h2⟩ := gI_of h1
    omega
  | n + 1 => ok_halves1 F ⟨f, fd, ok_halves F mF Umany_in Ulinked T n, mF, F.kp, F.binds (ps := ["tie", "at"]) fun _ _ _ _ _ _ us hl => match us, hl with | [_, _], _ => rfl⟩ Umany_in Ulinked T
end
end Tl

set_option Elab.async false
set_option linter.all false
set_option maxRecDepth 100000
set_option maxHeartbeats 4000000
namespace Tl
open PySem L2
namespace Tie
structure Good (t : Tie) : Prop where
  ev : Ev t
  le : sz t ≤ 1000
  ok : ∀ x ∈ its t, isItem x = true
theorem evn_tie : ∀ {n : Nat} {d : PyData}, evn n d = true → ∃ t, d = toD t ∧ Ev t ∧ ∀ x ∈ its t, isItem x = true
  | 0, d, h => by
    rcases tie_cases d with rfl | ⟨l, it, rt, c, rfl⟩ | ⟨h1, h2⟩
    · exact ⟨nil, rfl, trivial, fun x hx => by cases hx⟩
    · simp [evn] at h
    · rw [(tie4 h1 h2).2.1] at h; cases h
  | n + 1, d, h => by
    rcases tie_cases d with rfl | ⟨l, it, rt, c, rfl⟩ | ⟨h1, h2⟩
    · exact ⟨nil, rfl, trivial, fun x hx => by cases hx⟩
    · rw [evn, Bool.and_eq_true, Bool.and_eq_true] at h
      obtain ⟨a, b, hi, ha, hb, rfl, k1, k2⟩ := loc_of h.1
      obtain ⟨tl, rfl, el, ol⟩ := evn_tie h.2.1
      obtain ⟨tr, rfl, er, or'⟩ := evn_tie h.2.2
      rw [cnt_toD] at ha hb
      have ea : a = sz tl := by injection ha with z; omega
      have eb : b = sz tr := by injection hb with z; omega
      subst ea
      subst eb
      refine ⟨node tl it tr, ?_, ⟨⟨k1, k2⟩, el, er⟩, fun x hx => ?_⟩
      · rw [toD, show ((sz tl : Nat) : Int) + ((sz tr : Nat) : Int) + 1 = ((sz tl : Nat) : Int) + 1 + ((sz tr : Nat) : Int) by omega]
      · rw [its] at hx
        rcases List.mem_append.mp hx with hx | hx
        · exact ol x hx
        · rcases List.mem_cons.mp hx with rfl | hx
          · exact hi
          · exact or' x hx
    · rw [(tie4 h1 h2).2.1] at h; cases h
theorem even_tie {d : PyData} (h : (roomT 70 d 1000).isSome = true) : ∃ t, d = toD t ∧ Good t := by
  rw [even_evn, Bool.and_eq_true] at h
  obtain ⟨t, rfl, he, ho⟩ := evn_tie h.1
  have := of_decide_eq_true h.2
  rw [cnt_toD] at this
  exact ⟨t, rfl, he, by have : ((sz t : Nat) : Int) ≤ 1000 := this; omega, ho⟩
theorem Good.even {t : Tie} (h : Good t) : (roomT 70 (toD t) 1000).isSome = true := by
  have h3 := hg_le h.ev h.le
  have h4 := h.le
  rw [even_evn, toD_evn (by omega) h.ev h.ok, cnt_toD, decide_eq_true]
  · rfl
  · show ((sz t : Nat) : Int) ≤ 1000
    omega
theorem toD_inj : ∀ {a b : Tie}, toD a = toD b → a = b
  | nil, nil, _ => rfl
  | nil, node _ _ _, h => by rw [toD, toD] at h; cases h
  | node _ _ _, nil, h => by rw [toD, toD] at h; cases h
  | node l x r, node l' x' r', h => by
    rw [toD, toD] at h
    injection h with h
    simp only [List.cons.injEq] at h
    rw [toD_inj h.1, h.2.1, toD_inj h.2.2.1]
theorem half (n : Nat) : (n : Int) / 2 = ((n / 2 : Nat) : Int) := by omega
end Tie
end Tl

set_option Elab.async false
set_option linter.all false
set_option maxRecDepth 100000
set_option maxHeartbeats 8000000
namespace Tl
open PySem L2 RZ Tie
local macro_rules
  | `(tactic| decreasing_trivial) => `(tactic| ((with_reducible (conv => whnf)); (repeat ((first | (with_reducible refine gTie_i ?_) | (with_reducible refine gTie_n ?_) | (with_reducible refine gTie_4 ?_) | (with_reducible refine gDs_c ?_) | (with_reducible refine gDs_n ?_) | (with_reducible refine gNs_c ?_) | (with_reducible refine gNs_n ?_) | (with_reducible refine gO_i tyAny_lt ?_) | (with_reducible refine gIs_c ?_) | (with_reducible refine gIs_n ?_) | (with_reducible refine gBs_c ?_) | (with_reducible refine gBs_n ?_) | (with_reducible refine gSs_c ?_) | (with_reducible refine gSs_n ?_) | (with_reducible refine gO_i tyIs_int ?_) | (with_reducible refine gO_i tyIs_bool ?_) | (with_reducible refine gO_i tyIs_str ?_) | (with_reducible refine gO_i tyIs_tuple ?_) | (with_reducible refine gO_i tyIs_list ?_) | (with_reducible refine gDs_i ?_) | (with_reducible refine gO_i (Eq.refl _) ?_) | (with_reducible refine gO_i (by assumption) ?_) | (with_reducible refine gO_i at_0 ?_) | (with_reducible refine gO_i at_m0 ?_) | (with_reducible refine gO_i at_1 ?_) | (with_reducible refine gO_i at_m1 ?_) | (with_reducible refine gO_i at_2 ?_) | (with_reducible refine gO_i at_m2 ?_) | (with_reducible refine gO_i at_3 ?_) | (with_reducible refine gO_i at_m3 ?_) | (with_reducible refine gO_i at_4 ?_) | (with_reducible refine gO_i at_m4 ?_) | (with_reducible refine gO_i at_5 ?_) | (with_reducible refine gO_i at_m5 ?_) | (with_reducible refine gO_i at_6 ?_) | (with_reducible refine gO_i at_m6 ?_) | (with_reducible refine gO_i at_7 ?_) | (with_reducible refine gO_i at_m7 ?_) | (with_reducible refine IfB.ngf ?_) | (with_reducible refine IfB.ngt ?_) | (with_reducible refine IfB.not ?_) | (with_reducible refine IfB.nil ?_) | (with_reducible refine IfB.nilT ?_) | (with_reducible refine IfB.f isE_c ?_) | (with_reducible refine IfB.t isE_n ?_) | (with_reducible refine IfB.t ?gha ?_; (case gha => rfl)) | (with_reducible refine IfB.f ?gha ?_; (case gha => rfl)) | (with_reducible refine IfB.t ?gha ?_; (case gha => assumption)) | (with_reducible refine IfB.f ?gha ?_; (case gha => assumption)) | (with_reducible refine IfB.yes (Eq.refl _) ?_) | (with_reducible refine IfB.yes ?gha ?_; (case gha => (first | omega | (simp only [len_c, len_n, List.length_map]; omega)))) | (with_reducible refine IfB.no ?gha ?_; (case gha => (first | omega | (simp only [len_c, len_n, List.length_map]; omega)))) | (with_reducible refine IfB.t ?gha ?_; (case gha => decide +kernel)) | (with_reducible refine IfB.f ?gha ?_; (case gha => decide +kernel))); (with_reducible (conv => whnf))))))
local macro_rules
  | `(tactic| decreasing_trivial_pre_omega) => `(tactic| (decreasing_trivial; (repeat ((first | ((with_reducible refine And.intro ?gha ?_); (case gha => (first | assumption | omega | exact rfl | (exact mset_same) | (exact ⟨_, mset_same⟩) | (exact Exists.intro _ (by first | exact mset_same | assumption | (rw [mset_ne (by assumption)]; first | exact mset_same | assumption))) | (exact sm_of (by omega) (by omega)) | (exact sz1000 (by first | omega | (simp; done) | (simp; omega))) | (exact Or.inl ⟨by decide, by decide⟩) | decide | (simp; done) | (refine ⟨?_, ?_⟩ <;> (first | assumption | omega | exact rfl | (exact mset_same) | (exact ⟨_, mset_same⟩) | (exact Exists.intro _ (by first | exact mset_same | assumption | (rw [mset_ne (by assumption)]; first | exact mset_same | assumption))) | (exact sm_of (by omega) (by omega)) | (exact sz1000 (by first | omega | (simp; done) | (simp; omega))) | (exact Or.inl ⟨by decide, by decide⟩) | decide | (simp; done))) | (refine ⟨?_, ?_, ?_⟩ <;> (first | assumption | omega | exact rfl | (exact mset_same) | (exact ⟨_, mset_same⟩) | (exact Exists.intro _ (by first | exact mset_same | assumption | (rw [mset_ne (by assumption)]; first | exact mset_same | assumption))) | (exact sm_of (by omega) (by omega)) | (exact sz1000 (by first | omega | (simp; done) | (simp; omega))) | (exact Or.inl ⟨by decide, by decide⟩) | decide | (simp; done))) | (refine ⟨?_, ?_, ?_, ?_⟩ <;> (first | assumption | omega | exact rfl | (exact mset_same) | (exact ⟨_, mset_same⟩) | (exact Exists.intro _ (by first | exact mset_same | assumption | (rw [mset_ne (by assumption)]; first | exact mset_same | assumption))) | (exact sm_of (by omega) (by omega)) | (exact sz1000 (by first | omega | (simp; done) | (simp; omega))) | (exact Or.inl ⟨by decide, by decide⟩) | decide | (simp; done)))))) | (with_reducible refine exW (by first | exact mset_same | assumption | (rw [mset_ne (by assumption)]; first | exact mset_same | assumption)) ?_)); decreasing_trivial))))
abbrev sI_NoItem : Stmt := inClsN (top 5) 0
theorem scI_NoItem : FnScope ["self", "at"] ["self", "at"] (defScope sI_NoItem) := ⟨rfl, rfl, rfl, by decide +kernel, rfl, by decide +kernel, by decide +kernel⟩
theorem okI_NoItem {P : Program} {w : World} {K : PySem.W.Frag} {mg : Str → Option Value} {base : Heap} {f C : Addr} {fd : FuncData} {k : Nat} (F : Fun K "__init__" "NoItem.__init__" sI_NoItem f fd) (o : OexC K C) (n : PySem.W.findIn K (.ref C) "at" = some none) : FnOk P w K mg base CX0 (k + 1) f fd ["self", "at"] (spInitF K C "at") := by
  refine F.ok scI_NoItem (fun vs H Q E h => ?_) (fun cdv A outer s H vs Q E hr h => ?_)
  · obtain ⟨_, _, rfl, _⟩ := h
    rfl
  obtain ⟨a, v, rfl, ha, q⟩ := h
  exact ⟨_, pss_one (ps_ost (pv 0) (pv 1)), _, rfl, _, rfl, a, C, rfl, o, n, .inl ⟨ha, fun dx h1 h2 => q dx h1 h2⟩⟩
@[reducible] def tfBuiltL (n : Nat) : TF := fun ws M R _ => g1 ws fun x => gL x fun xs => (2 * xs.length + 2 ≤ 2 ^ n ∧ xs.length ≤ 1000) ∧ ∀ t, Is t xs → R (.d (toD t)) M
@[reducible] def tfBuiltT (n : Nat) : TF := fun ws M R _ => g1 ws fun x => gT x fun xs => (2 * xs.length + 2 ≤ 2 ^ n ∧ xs.length ≤ 1000) ∧ ∀ t, Is t xs → R (.d (toD t)) M
section
variable {P : Program} {w : World} {K : PySem.W.Frag} {mg : Str → Option Value} {base : Heap}
abbrev sBuilt : Stmt := top 16
theorem scBuilt : FnScope ["items", "middle"] ["items"] (defScope sBuilt) := ⟨rfl, rfl, rfl, by decide +kernel, rfl, by decide +kernel, by decide +kernel⟩
theorem ok_builtL1 {f : Addr} {fd : FuncData} {n j : Nat} (F : Fun K "built" "built" sBuilt f fd) (Ubuilt : Use P w K mg base "built" ["items"] (j + n) (spD K 1 (tfBuiltL n))) (Uknit : Use P w K mg base "knit" ["left", "item", "right"] j (spD K 3 tfKnit)) (T : Bl mg) :
    FnOk P w K mg base CX0 (j + n + 1) f fd ["items"] (spD K 1 (tfBuiltL (n + 1))) := by
  refine okD F scBuilt rfl fun cdv A outer s H E hr => ?_
  refine ⟨_, _, (pss_cons (ps_if (pt_cmpR op_eq (pe_callB call_len_seq (by rfl) T.len PySem.boot_len (pa_cons (pv 0) pa_nil)) pe_int (nomark _)) (pss_one (ps_ret pe_non)) pss_nil)
    (pss_cons (ps_set (i := 1) scBuilt.nd rfl (.inl rfl) (pe_op op_fdivN (pe_callB call_len_seq (by rfl) T.len PySem.boot_len (pa_cons (pv 0) pa_nil)) pe_int))
    (pss_one (ps_ret (pe_call Uknit.ok (hr.mono (by omega)) rfl Uknit.m Uknit.kp Uknit.b .nil pass0 (pa_cons (pe_call Ubuilt.ok (hr.mono (by omega)) rfl Ubuilt.m Ubuilt.kp Ubuilt.b .nil pass0 (pa_cons (pe_slice sl_list (pv 0) po_none (po_some (pv 1))) pa_nil)) (pa_cons (pe_ix ix_list (pv 0) (pv 1) (fun _ _ => rfl)) (pa_cons (pe_call Ubuilt.ok (hr.mono (by omega)) rfl Ubuilt.m Ubuilt.kp Ubuilt.b .nil pass0 (pa_cons (pe_slice sl_list (pv 0) (po_some (pe_op op_add (pv 1) pe_int)) po_none) pa_nil)) pa_nil)))))))),
    (ss_cons (ss_if (st_test (se_op so_eqS (se_cb sc_len (sa_cons se_nm sa_nil)) se_int)) (ss_ret se_non) ss_nil)
    (ss_cons (ss_set (se_op so_div (se_cb sc_len (sa_cons se_nm sa_nil)) se_int))
    (ss_ret (se_call (sa_cons (se_call (sa_cons (se_sl sl_F se_nm sp_no (sp_some se_nm)) sa_nil)) (sa_cons (se_op so_ixL se_nm se_nm) (sa_cons (se_call (sa_cons (se_sl sl_F se_nm (sp_some (se_op so_add se_nm se_int)) sp_no) sa_nil)) sa_nil))))))), fun ws M R RX hl h => ?_⟩
  obtain ⟨x, rfl, h1⟩ := g1_of h
  obtain ⟨xs, rfl, ⟨hn, hl⟩, h2⟩ := gL_of h1
  have hp : n = 0 ∨ ∃ m, 2 ^ n = 2 * m := by
    cases n with
    | zero => exact .inl rfl
    | succ n => exact .inr ⟨2 ^ n, by rw [Nat.pow_succ]; omega⟩
  have hp' : ∀ c : Nat, c ≤ xs.length / 2 → xs.length ≠ 0 → 2 * c + 2 ≤ 2 ^ n := fun c hc h0 => by
    rw [Nat.pow_succ] at hn
    rcases hp with rfl | ⟨m, e⟩
    · rw [Nat.pow_zero] at hn; omega
    · omega
  simp only [start0, len_c, len_n, map_c, map_n, app_c, app_n, rep_0, rep_s, Nat.reduceAdd, Nat.reduceSub]
  decreasing_trivial_pre_omega
  rw [List.length_map]
  refine IfB.d (fun c => ?_) (fun c => ?_)
  · decreasing_trivial_pre_omega
    have : xs = [] := List.eq_nil_of_length_eq_zero (by omega)
    subst this
    exact h2 nil .nil
  · decreasing_trivial_pre_omega
    rw [List.length_map, half, cut_to]
    have hk : xs.length / 2 < xs.length := by omega
    refine ⟨⟨hp' _ (by rw [List.length_take]; omega) (by omega), by rw [List.length_take]; omega⟩, fun a ha => ?_⟩
    decreasing_trivial_pre_omega
    rw [half]
    refine gO_i (a := W.d (xs[xs.length / 2]'hk)) (atI_nat (by rw [List.getElem?_map, List.getElem?_eq_getElem hk]; rfl)) ?_
    decreasing_trivial_pre_omega
    rw [half, cut_from1]
    refine ⟨⟨hp' _ (by rw [List.length_drop]; omega) (by omega), by rw [List.length_drop]; omega⟩, fun b hb => ?_⟩
    decreasing_trivial_pre_omega
    have := Is.node (x := xs[xs.length / 2]'hk) ha hb ⟨by rw [List.length_take, List.length_drop]; omega, by rw [List.length_take, List.length_drop]; omega⟩
    rw [← List.drop_eq_getElem_cons hk, List.take_append_drop] at this
    exact h2 _ this
theorem ok_builtL {f : Addr} {fd : FuncData} {j : Nat} (F : Fun K "built" "built" sBuilt f fd) (mF : mg "built" = some (.ref f)) (Uknit : Use P w K mg base "knit" ["left", "item", "right"] j (spD K 3 tfKnit)) (T : Bl mg) : ∀ n, FnOk P w K mg base CX0 (j + n) f fd ["items"] (spD K 1 (tfBuiltL n))
  | 0 => no0 fun ws M R RX h => by
    obtain ⟨x, rfl, h1⟩ := g1_of h
    obtain ⟨xs, rfl, ⟨hn, hl⟩, h2⟩ := gL_of h1
    rw [Nat.pow_zero] at hn
    omega
  | n + 1 => ok_builtL1 F ⟨f, fd, ok_builtL F mF Uknit T n, mF, F.kp, F.binds (ps := ["items"]) fun _ _ _ _ _ _ us hl => match us, hl with | [_], _ => rfl⟩ Uknit T
abbrev sSeat : Stmt := top 33
theorem scSeat : FnScope ["at", "behind"] ["at", "behind"] (defScope sSeat) := ⟨rfl, rfl, rfl, by decide +kernel, rfl, by decide +kernel, by decide +kernel⟩
@[reducible] def tfSeat (C : Addr) : TF := fun ws M R RX => g2 ws fun x y => gD x fun d => gI y fun b => txt d = true ∧ (isNum (b - 1) d = true → R (.d .none) M) ∧ (isNum (b - 1) d = false → RX ⟨.ref C, [("at", d)]⟩ M)
theorem ok_seat {f C : Addr} {fd : FuncData} {k j : Nat} (F : Fun K "check_seat" "check_seat" sSeat f fd) (XNoItem : ErF K mg "NoItem" "NoItem.__init__" "at" sI_NoItem C) (Uis_number : Use P w K mg base "is_number" ["thing", "most"] j (spD K 2 (tfB2 isNum))) (hj : j ≤ k) (hk : 2 ≤ k) :
    FnOk P w K mg base (L2.CX P w) (k + 1) f fd ["at", "behind"] (spD K 2 (tfSeat C)) := by
  obtain ⟨fiNoItem, fdNoItem, iNoItem, tNoItem, FNoItem⟩ := XNoItem.i
  have okNoItem := okI_NoItem (P := P) (w := w) (mg := mg) (base := base) (k := 0) FNoItem XNoItem.o XNoItem.n
  have bNoItem := FNoItem.binds (ps := ["self", "at"]) fun _ _ _ _ _ _ us hl => match us, hl with | [_, _], _ => rfl
  refine okDX F scSeat rfl fun cdv A outer s H E hr => ?_
  refine ⟨_, fun RE => _, (pss_one (ps_if (pt_not (pt_val (PE.nox (pe_call Uis_number.ok (hr.mono (by omega)) rfl Uis_number.m Uis_number.kp Uis_number.b .nil pass0 (pa_cons (pv 0) (pa_cons (pe_op op_sub (pv 1) pe_int) pa_nil)))))) (pss_one (ps_raise rfl (takes_of (E := E) rfl rfl rfl rfl) (pmk_oex XNoItem.o iNoItem tNoItem okNoItem (hr.mono (by omega)) bNoItem .nil pass0 (by exact rfl) XNoItem.g (pa_cons (pv 0) pa_nil)))) pss_nil)), fun RE => (ss_if (st_not (st_val (se_call (sa_cons se_nm (sa_cons (se_op so_sub se_nm se_int) sa_nil))))) (ss_raiseF (sa_cons se_nm sa_nil)) ss_nil), fun ws M R RX hl h => ?_⟩
  obtain ⟨x, y, rfl, h1⟩ := g2_of h
  obtain ⟨d, rfl, h1⟩ := gD_of h1
  obtain ⟨b, rfl, ht, h2, h3⟩ := gI_of h1
  simp only [start0, len_c, len_n, map_c, map_n, app_c, app_n, rep_0, rep_s, Nat.reduceAdd, Nat.reduceSub]
  decreasing_trivial_pre_omega
  cases c : isNum (b - 1) d
  · decreasing_trivial_pre_omega
    exact h3 c
  · decreasing_trivial_pre_omega
    exact h2 c
structure RefT (C : Addr) (d : PyData) (RX : Ex → Mem → Prop) (M : Mem) (k : Tie → Prop) : Prop where
  x : txt d = true
  dp : d.depth < 70
  no : evenT d = false → RX ⟨.ref C, []⟩ M
  yes : ∀ t, d = toD t → Good t → k t
theorem RefT.ok {C : Addr} {d : PyData} {RX : Ex → Mem → Prop} {M : Mem} {k : Tie → Prop} (h : RefT C d RX M k) {R : Prop} (q : ∀ t, d = toD t → Good t → k t → R) : (txt d = true ∧ d.depth < 70) ∧ (evenT d = true → R) ∧ (evenT d = false → RX ⟨.ref C, []⟩ M) :=
  ⟨⟨h.x, h.dp⟩, fun c => by
    obtain ⟨t, e, g⟩ := even_tie c
    exact q t e g (h.yes t e g), h.no⟩
def seatOk (C : Addr) (a : PyData) (m : Nat) (RX : Ex → Mem → Prop) (M : Mem) (k : Nat → Prop) : Prop := txt a = true ∧ (isNum ((m : Int) - 1) a = false → RX ⟨.ref C, [("at", a)]⟩ M) ∧ ∀ i : Nat, a = .int i → i < m → k i
theorem isNum_of {m : Nat} {a : PyData} (h : isNum ((m : Int) - 1) a = true) : ∃ i : Nat, a = .int i ∧ i < m := by
  cases a with
  | int i =>
    rw [isNum, Bool.and_eq_true, decide_eq_true_eq, decide_eq_true_eq] at h
    exact ⟨i.toNat, by congr 1; omega, by omega⟩
  | _ => simp [isNum] at h
@[reducible] def tfItemAt (C C2 : Addr) : TF := fun ws M R RX => g2 ws fun x y => gD x fun d => gD y fun a => RefT C d RX M fun t => seatOk C2 a (sz t) RX M fun i => ∀ v, (its t)[i]? = some v → R (.d v) M
@[reducible] def tfOutAt (C C2 : Addr) : TF := fun ws M R RX => g2 ws fun x y => gD x fun d => gD y fun a => RefT C d RX M fun t => seatOk C2 a (sz t) RX M fun i => ∀ t', Is t' (outAt (its t) i) → R (.d (toD t')) M
@[reducible] def tfParted (C C2 : Addr) : TF := fun ws M R RX => g2 ws fun x y => gD x fun d => gD y fun a => RefT C d RX M fun t => seatOk C2 a (sz t + 1) RX M fun i => ∀ p q, Is p ((its t).take i) → Is q ((its t).drop i) → R (.d (.tuple [toD p, toD q])) M
@[reducible] def tfPutAt (C C2 : Addr) : TF := fun ws M R RX => match ws with | [.d d, .d a, .d it] => txt it = true ∧ RefT C d RX M fun t => seatOk C2 a (sz t + 1) RX M fun i => ((isItem it = false ∨ sz t = 1000) → RX ⟨.ref C, []⟩ M) ∧ (isItem it = true → sz t ≠ 1000 → ∀ t', Is t' (insAt (its t) i it) → R (.d (toD t')) M) | _ => False
@[reducible] def tfTBoth (C : Addr) : TF := fun ws M R RX => g2 ws fun x y => gD x fun d => gD y fun e => RefT C d RX M fun t => RefT C e RX M fun u => (sz t + sz u > 1000 → RX ⟨.ref C, []⟩ M) ∧ (sz t + sz u ≤ 1000 → ∀ t', Is t' (its t ++ its u) → R (.d (toD t')) M)
abbrev sItemAt : Stmt := top 36
theorem scItemAt : FnScope ["tie", "at"] ["tie", "at"] (defScope sItemAt) := ⟨rfl, rfl, rfl, by decide +kernel, rfl, by decide +kernel, by decide +kernel⟩
theorem ok_itemAt {f C C2 : Addr} {fd : FuncData} {k j : Nat} (F : Fun K "item_at" "item_at" sItemAt f fd) (Ucheck_tie : UseX P w K mg base "check_tie" ["thing"] j (spD K 1 (tfChkE C))) (Ucheck_seat : UseX P w K mg base "check_seat" ["at", "behind"] j (spD K 2 (tfSeat C2))) (Umany_in : Use P w K mg base "many_in" ["tie"] j (spD K 1 tfMany)) (Unth : Use P w K mg base "nth" ["tie", "at"] j (spD K 2 (tfNth 30))) (hj : j ≤ k) :
    FnOk P w K mg base (L2.CX P w) (k + 1) f fd ["tie", "at"] (spD K 2 (tfItemAt C C2)) := by
  refine okDX F scItemAt rfl fun cdv A outer s H E hr => ?_
  refine ⟨_, fun RE => _, (pss_cons (ps_expr (pe_callS Ucheck_tie.ok (hr.mono (by omega)) rfl Ucheck_tie.m Ucheck_tie.kp Ucheck_tie.b (fun σ => passAt (takes_of (E := E) rfl rfl rfl rfl) σ) (pa_cons (pv 0) pa_nil)))
    (pss_cons (ps_expr (pe_callS Ucheck_seat.ok (hr.mono (by omega)) rfl Ucheck_seat.m Ucheck_seat.kp Ucheck_seat.b (fun σ => passAt (takes_of (E := E) rfl rfl rfl rfl) σ) (pa_cons (pv 1) (pa_cons (PE.nox (pe_call Umany_in.ok (hr.mono (by omega)) rfl Umany_in.m Umany_in.kp Umany_in.b .nil pass0 (pa_cons (pv 0) pa_nil))) pa_nil))))
    (pss_one (ps_ret (PE.nox (pe_call Unth.ok (hr.mono (by omega)) rfl Unth.m Unth.kp Unth.b .nil pass0 (pa_cons (pv 0) (pa_cons (pv 1) pa_nil)))))))), fun RE => (ss_cons (ss_drop (se_callX (sa_cons se_nm sa_nil)))
    (ss_cons (ss_drop (se_callX (sa_cons se_nm (sa_cons (se_call (sa_cons se_nm sa_nil)) sa_nil))))
    (ss_ret (se_call (sa_cons se_nm (sa_cons se_nm sa_nil)))))), fun ws M R RX hl h => ?_⟩
  obtain ⟨x, y, rfl, h1⟩ := g2_of h
  obtain ⟨d, rfl, h3⟩ := gD_of h1
  obtain ⟨a, rfl, h4⟩ := gD_of h3
  clear h h1 h3
  simp only [start0, len_c, len_n, map_c, map_n, app_c, app_n, rep_0, rep_s, Nat.reduceAdd, Nat.reduceSub]
  (with_reducible (conv => whnf))
  refine h4.ok fun t e g h2 => ?_
  subst e
  obtain ⟨ha, hno, hyes⟩ := h2
  have fl := flat_of g.ev g.le
  have hev := g.ev
  have hle := g.le
  decreasing_trivial_pre_omega
  refine ⟨fun c => ?_, hno⟩
  obtain ⟨i, rfl, hi⟩ := isNum_of c
  decreasing_trivial_pre_omega
  intro v hv
  exact hyes i rfl hi v hv
abbrev sOutAt : Stmt := top 38
theorem scOutAt : FnScope ["tie", "at"] ["tie", "at"] (defScope sOutAt) := ⟨rfl, rfl, rfl, by decide +kernel, rfl, by decide +kernel, by decide +kernel⟩
theorem ok_outAt {f C C2 : Addr} {fd : FuncData} {k j : Nat} (F : Fun K "out_at" "out_at" sOutAt f fd) (Ucheck_tie : UseX P w K mg base "check_tie" ["thing"] j (spD K 1 (tfChkE C))) (Ucheck_seat : UseX P w K mg base "check_seat" ["at", "behind"] j (spD K 2 (tfSeat C2))) (Umany_in : Use P w K mg base "many_in" ["tie"] j (spD K 1 tfMany)) (Uwithout_item : Use P w K mg base "without_item" ["tie", "at"] j (spD K 2 (tfWo 30))) (hj : j ≤ k) :
    FnOk P w K mg base (L2.CX P w) (k + 1) f fd ["tie", "at"] (spD K 2 (tfOutAt C C2)) := by
  refine okDX F scOutAt rfl fun cdv A outer s H E hr => ?_
  refine ⟨_, fun RE => _, (pss_cons (ps_expr (pe_callS Ucheck_tie.ok (hr.mono (by omega)) rfl Ucheck_tie.m Ucheck_tie.kp Ucheck_tie.b (fun σ => passAt (takes_of (E := E) rfl rfl rfl rfl) σ) (pa_cons (pv 0) pa_nil)))
    (pss_cons (ps_expr (pe_callS Ucheck_seat.ok (hr.mono (by omega)) rfl Ucheck_seat.m Ucheck_seat.kp Ucheck_seat.b (fun σ => passAt (takes_of (E := E) rfl rfl rfl rfl) σ) (pa_cons (pv 1) (pa_cons (PE.nox (pe_call Umany_in.ok (hr.mono (by omega)) rfl Umany_in.m Umany_in.kp Umany_in.b .nil pass0 (pa_cons (pv 0) pa_nil))) pa_nil))))
    (pss_one (ps_ret (PE.nox (pe_call Uwithout_item.ok (hr.mono (by omega)) rfl Uwithout_item.m Uwithout_item.kp Uwithout_item.b .nil pass0 (pa_cons (pv 0) (pa_cons (pv 1) pa_nil)))))))), fun RE => (ss_cons (ss_drop (se_callX (sa_cons se_nm sa_nil)))
    (ss_cons (ss_drop (se_callX (sa_cons se_nm (sa_cons (se_call (sa_cons se_nm sa_nil)) sa_nil))))
    (ss_ret (se_call (sa_cons se_nm (sa_cons se_nm sa_nil)))))), fun ws M R RX hl h => ?_⟩
  obtain ⟨x, y, rfl, h1⟩ := g2_of h
  obtain ⟨d, rfl, h3⟩ := gD_of h1
  obtain ⟨a, rfl, h4⟩ := gD_of h3
  clear h h1 h3
  simp only [start0, len_c, len_n, map_c, map_n, app_c, app_n, rep_0, rep_s, Nat.reduceAdd, Nat.reduceSub]
  (with_reducible (conv => whnf))
  refine h4.ok fun t e g h2 => ?_
  subst e
  obtain ⟨ha, hno, hyes⟩ := h2
  have fl := flat_of g.ev g.le
  have hev := g.ev
  have hle := g.le
  decreasing_trivial_pre_omega
  refine ⟨fun c => ?_, hno⟩
  obtain ⟨i, rfl, hi⟩ := isNum_of c
  decreasing_trivial_pre_omega
  intro v hv
  exact hyes i rfl hi v hv
abbrev sParted : Stmt := top 39
theorem scParted : FnScope ["tie", "at"] ["tie", "at"] (defScope sParted) := ⟨rfl, rfl, rfl, by decide +kernel, rfl, by decide +kernel, by decide +kernel⟩
theorem ok_parted {f C C2 : Addr} {fd : FuncData} {k j : Nat} (F : Fun K "parted" "parted" sParted f fd) (Ucheck_tie : UseX P w K mg base "check_tie" ["thing"] j (spD K 1 (tfChkE C))) (Ucheck_seat : UseX P w K mg base "check_seat" ["at", "behind"] j (spD K 2 (tfSeat C2))) (Umany_in : Use P w K mg base "many_in" ["tie"] j (spD K 1 tfMany)) (Uhalves : Use P w K mg base "halves" ["tie", "at"] j (spD K 2 (tfHalves 30))) (hj : j ≤ k) :
    FnOk P w K mg base (L2.CX P w) (k + 1) f fd ["tie", "at"] (spD K 2 (tfParted C C2)) := by
  refine okDX F scParted rfl fun cdv A outer s H E hr => ?_
  refine ⟨_, fun RE => _, (pss_cons (ps_expr (pe_callS Ucheck_tie.ok (hr.mono (by omega)) rfl Ucheck_tie.m Ucheck_tie.kp Ucheck_tie.b (fun σ => passAt (takes_of (E := E) rfl rfl rfl rfl) σ) (pa_cons (pv 0) pa_nil)))
    (pss_cons (ps_expr (pe_callS Ucheck_seat.ok (hr.mono (by omega)) rfl Ucheck_seat.m Ucheck_seat.kp Ucheck_seat.b (fun σ => passAt (takes_of (E := E) rfl rfl rfl rfl) σ) (pa_cons (pv 1) (pa_cons (pe_op op_add (PE.nox (pe_call Umany_in.ok (hr.mono (by omega)) rfl Umany_in.m Umany_in.kp Umany_in.b .nil pass0 (pa_cons (pv 0) pa_nil))) pe_int) pa_nil))))
    (pss_one (ps_ret (PE.nox (pe_call Uhalves.ok (hr.mono (by omega)) rfl Uhalves.m Uhalves.kp Uhalves.b .nil pass0 (pa_cons (pv 0) (pa_cons (pv 1) pa_nil)))))))), fun RE => (ss_cons (ss_drop (se_callX (sa_cons se_nm sa_nil)))
    (ss_cons (ss_drop (se_callX (sa_cons se_nm (sa_cons (se_op so_add (se_call (sa_cons se_nm sa_nil)) se_int) sa_nil))))
    (ss_ret (se_call (sa_cons se_nm (sa_cons se_nm sa_nil)))))), fun ws M R RX hl h => ?_⟩
  obtain ⟨x, y, rfl, h1⟩ := g2_of h
  obtain ⟨d, rfl, h3⟩ := gD_of h1
  obtain ⟨a, rfl, h4⟩ := gD_of h3
  clear h h1 h3
  simp only [start0, len_c, len_n, map_c, map_n, app_c, app_n, rep_0, rep_s, Nat.reduceAdd, Nat.reduceSub]
  (with_reducible (conv => whnf))
  refine h4.ok fun t e g h2 => ?_
  subst e
  obtain ⟨ha, hno, hyes⟩ := h2
  have fl := flat_of g.ev g.le
  have hev := g.ev
  have hle := g.le
  decreasing_trivial_pre_omega
  rw [show ((sz t : Nat) : Int) + 1 = ((sz t + 1 : Nat) : Int) by omega]
  refine ⟨fun c => ?_, hno⟩
  obtain ⟨i, rfl, hi⟩ := isNum_of c
  decreasing_trivial_pre_omega
  intro p q hp hq
  exact hyes i rfl hi p q hp hq
abbrev sPutAt : Stmt := top 37
theorem scPutAt : FnScope ["tie", "at", "item"] ["tie", "at", "item"] (defScope sPutAt) := ⟨rfl, rfl, rfl, by decide +kernel, rfl, by decide +kernel, by decide +kernel⟩
theorem ok_putAt {f C C2 : Addr} {fd : FuncData} {k j : Nat} (F : Fun K "put_at" "put_at" sPutAt f fd) (XNoTie : Er K mg "NoTie" C) (Ucheck_tie : UseX P w K mg base "check_tie" ["thing"] j (spD K 1 (tfChkE C))) (Ucheck_seat : UseX P w K mg base "check_seat" ["at", "behind"] j (spD K 2 (tfSeat C2))) (Umany_in : Use P w K mg base "many_in" ["tie"] j (spD K 1 tfMany)) (Uis_item : Use P w K mg base "is_item" ["thing"] j (spD K 1 (tfB isItem))) (Uwith_item : Use P w K mg base "with_item" ["tie", "at", "item"] j (spD K 3 (tfWith 30))) (hj : j ≤ k) (CT : ∃ t, mg "TIED" = some (.int 1000 t)) :
    FnOk P w K mg base (L2.CX P w) (k + 1) f fd ["tie", "at", "item"] (spD K 3 (tfPutAt C C2)) := by
  refine okDX F scPutAt rfl fun cdv A outer s H E hr => ?_
  refine ⟨_, fun RE => _, (pss_cons (ps_expr (pe_callS Ucheck_tie.ok (hr.mono (by omega)) rfl Ucheck_tie.m Ucheck_tie.kp Ucheck_tie.b (fun σ => passAt (takes_of (E := E) rfl rfl rfl rfl) σ) (pa_cons (pv 0) pa_nil)))
    (pss_cons (ps_expr (pe_callS Ucheck_seat.ok (hr.mono (by omega)) rfl Ucheck_seat.m Ucheck_seat.kp Ucheck_seat.b (fun σ => passAt (takes_of (E := E) rfl rfl rfl rfl) σ) (pa_cons (pv 1) (pa_cons (pe_op op_add (PE.nox (pe_call Umany_in.ok (hr.mono (by omega)) rfl Umany_in.m Umany_in.kp Umany_in.b .nil pass0 (pa_cons (pv 0) pa_nil))) pe_int) pa_nil))))
    (pss_cons (ps_if (PW.pt (pw_or (pt_not (pt_val (PE.nox (pe_call Uis_item.ok (hr.mono (by omega)) rfl Uis_item.m Uis_item.kp Uis_item.b .nil pass0 (pa_cons (pv 2) pa_nil))))) (pw_or1 (pt_cmpR op_eq (PE.nox (pe_call Umany_in.ok (hr.mono (by omega)) rfl Umany_in.m Umany_in.kp Umany_in.b .nil pass0 (pa_cons (pv 0) pa_nil))) (c_int CT) (nomark _))))) (pss_one (ps_raise rfl (takes_of (E := E) rfl rfl rfl rfl) (pmk_own0 PySem.F.excBase_ValueError XNoTie.x XNoTie.g XNoTie.k (raises_own XNoTie.b XNoTie.t) (by exact rfl)))) pss_nil)
    (pss_one (ps_ret (PE.nox (pe_call Uwith_item.ok (hr.mono (by omega)) rfl Uwith_item.m Uwith_item.kp Uwith_item.b .nil pass0 (pa_cons (pv 0) (pa_cons (pv 1) (pa_cons (pv 2) pa_nil)))))))))), fun RE => (ss_cons (ss_drop (se_callX (sa_cons se_nm sa_nil)))
    (ss_cons (ss_drop (se_callX (sa_cons se_nm (sa_cons (se_op so_add (se_call (sa_cons se_nm sa_nil)) se_int) sa_nil))))
    (ss_cons (ss_if (st_or (st_not (st_val (se_call (sa_cons se_nm sa_nil)))) (st_test (se_op so_eqS (se_call (sa_cons se_nm sa_nil)) se_int))) ss_raise0 ss_nil)
    (ss_ret (se_call (sa_cons se_nm (sa_cons se_nm (sa_cons se_nm sa_nil)))))))), fun ws M R RX hl h => ?_⟩
  match ws, h with
  | [.d d, .d a, .d it], h =>
  obtain ⟨hit, h4⟩ := h
  simp only [start0, len_c, len_n, map_c, map_n, app_c, app_n, rep_0, rep_s, Nat.reduceAdd, Nat.reduceSub]
  (with_reducible (conv => whnf))
  refine h4.ok fun t e g h2 => ?_
  subst e
  obtain ⟨ha, hno, hyes⟩ := h2
  have fl := flat_of g.ev g.le
  have hev := g.ev
  have hle := g.le
  decreasing_trivial_pre_omega
  rw [show ((sz t : Nat) : Int) + 1 = ((sz t + 1 : Nat) : Int) by omega]
  refine ⟨fun c => ?_, hno⟩
  obtain ⟨i, rfl, hi⟩ := isNum_of c
  obtain ⟨y1, y2⟩ := hyes i rfl hi
  decreasing_trivial_pre_omega
  cases c1 : isItem it
  · decreasing_trivial_pre_omega
    exact y1 (.inl c1)
  · decreasing_trivial_pre_omega
    refine IfB.d (fun c2 => ?_) (fun c2 => ?_)
    · decreasing_trivial_pre_omega
      exact y1 (.inr (by omega))
    · decreasing_trivial_pre_omega
      intro t' ht'
      exact y2 c1 (by omega) t' ht'
abbrev sTBoth : Stmt := top 40
theorem scTBoth : FnScope ["one", "other"] ["one", "other"] (defScope sTBoth) := ⟨rfl, rfl, rfl, by decide +kernel, rfl, by decide +kernel, by decide +kernel⟩
theorem ok_tBoth {f C : Addr} {fd : FuncData} {k j : Nat} (F : Fun K "tied_both" "tied_both" sTBoth f fd) (XNoTie : Er K mg "NoTie" C) (Ucheck_tie : UseX P w K mg base "check_tie" ["thing"] j (spD K 1 (tfChkE C))) (Umany_in : Use P w K mg base "many_in" ["tie"] j (spD K 1 tfMany)) (Uboth_of : Use P w K mg base "both_of" ["one", "other"] j (spD K 2 (tfBoth 30))) (hj : j ≤ k) (CT : ∃ t, mg "TIED" = some (.int 1000 t)) :
    FnOk P w K mg base (L2.CX P w) (k + 1) f fd ["one", "other"] (spD K 2 (tfTBoth C)) := by
  refine okDX F scTBoth rfl fun cdv A outer s H E hr => ?_
  refine ⟨_, fun RE => _, (pss_cons (ps_expr (pe_callS Ucheck_tie.ok (hr.mono (by omega)) rfl Ucheck_tie.m Ucheck_tie.kp Ucheck_tie.b (fun σ => passAt (takes_of (E := E) rfl rfl rfl rfl) σ) (pa_cons (pv 0) pa_nil)))
    (pss_cons (ps_expr (pe_callS Ucheck_tie.ok (hr.mono (by omega)) rfl Ucheck_tie.m Ucheck_tie.kp Ucheck_tie.b (fun σ => passAt (takes_of (E := E) rfl rfl rfl rfl) σ) (pa_cons (pv 1) pa_nil)))
    (pss_cons (ps_if (pt_cmpR op_gt (pe_op op_add (PE.nox (pe_call Umany_in.ok (hr.mono (by omega)) rfl Umany_in.m Umany_in.kp Umany_in.b .nil pass0 (pa_cons (pv 0) pa_nil))) (PE.nox (pe_call Umany_in.ok (hr.mono (by omega)) rfl Umany_in.m Umany_in.kp Umany_in.b .nil pass0 (pa_cons (pv 1) pa_nil)))) (c_int CT) (nomark _)) (pss_one (ps_raise rfl (takes_of (E := E) rfl rfl rfl rfl) (pmk_own0 PySem.F.excBase_ValueError XNoTie.x XNoTie.g XNoTie.k (raises_own XNoTie.b XNoTie.t) (by exact rfl)))) pss_nil)
    (pss_one (ps_ret (PE.nox (pe_call Uboth_of.ok (hr.mono (by omega)) rfl Uboth_of.m Uboth_of.kp Uboth_of.b .nil pass0 (pa_cons (pv 0) (pa_cons (pv 1) pa_nil))))))))), fun RE => (ss_cons (ss_drop (se_callX (sa_cons se_nm sa_nil)))
    (ss_cons (ss_drop (se_callX (sa_cons se_nm sa_nil)))
    (ss_cons (ss_if (st_test (se_op so_gt (se_op so_add (se_call (sa_cons se_nm sa_nil)) (se_call (sa_cons se_nm sa_nil))) se_int)) ss_raise0 ss_nil)
    (ss_ret (se_call (sa_cons se_nm (sa_cons se_nm sa_nil))))))), fun ws M R RX hl h => ?_⟩
  obtain ⟨x, y, rfl, h1⟩ := g2_of h
  obtain ⟨d, rfl, h3⟩ := gD_of h1
  obtain ⟨e, rfl, h4⟩ := gD_of h3
  clear h h1 h3
  simp only [start0, len_c, len_n, map_c, map_n, app_c, app_n, rep_0, rep_s, Nat.reduceAdd, Nat.reduceSub]
  (with_reducible (conv => whnf))
  refine h4.ok fun t e1 g h5 => ?_
  subst e1
  (with_reducible (conv => whnf))
  refine h5.ok fun u e2 g2 h6 => ?_
  subst e2
  obtain ⟨h7, h8⟩ := h6
  have fl := flat_of g.ev g.le
  have hev := g.ev
  have fl2 := flat_of g2.ev g2.le
  have hev2 := g2.ev
  decreasing_trivial_pre_omega
  refine IfB.d (fun c => ?_) (fun c => ?_)
  · decreasing_trivial_pre_omega
    exact h7 (by omega)
  · decreasing_trivial_pre_omega
    intro t' ht'
    exact h8 (by omega) t' ht'
end
end Tl

set_option Elab.async false
set_option linter.all false
set_option maxRecDepth 100000
set_option maxHeartbeats 8000000
namespace Tl
open PySem L2 RZ
local macro_rules
  | `(tactic| decreasing_trivial) => `(tactic| ((with_reducible (conv => whnf)); (repeat ((first | (with_reducible refine gDs_c ?_) | (with_reducible refine gDs_n ?_) | (with_reducible refine gNs_c ?_) | (with_reducible refine gNs_n ?_) | (with_reducible refine gO_i tyAny_lt ?_) | (with_reducible refine gIs_c ?_) | (with_reducible refine gIs_n ?_) | (with_reducible refine gBs_c ?_) | (with_reducible refine gBs_n ?_) | (with_reducible refine gSs_c ?_) | (with_reducible refine gSs_n ?_) | (with_reducible refine gO_i tyIs_int ?_) | (with_reducible refine gO_i tyIs_bool ?_) | (with_reducible refine gO_i tyIs_str ?_) | (with_reducible refine gO_i tyIs_tuple ?_) | (with_reducible refine gO_i tyIs_list ?_) | (with_reducible refine gDs_i ?_) | (with_reducible refine gO_i (Eq.refl _) ?_) | (with_reducible refine gO_i (by assumption) ?_) | (with_reducible refine gO_i at_0 ?_) | (with_reducible refine gO_i at_m0 ?_) | (with_reducible refine gO_i at_1 ?_) | (with_reducible refine gO_i at_m1 ?_) | (with_reducible refine gO_i at_2 ?_) | (with_reducible refine gO_i at_m2 ?_) | (with_reducible refine gO_i at_3 ?_) | (with_reducible refine gO_i at_m3 ?_) | (with_reducible refine gO_i at_4 ?_) | (with_reducible refine gO_i at_m4 ?_) | (with_reducible refine gO_i at_5 ?_) | (with_reducible refine gO_i at_m5 ?_) | (with_reducible refine gO_i at_6 ?_) | (with_reducible refine gO_i at_m6 ?_) | (with_reducible refine gO_i at_7 ?_) | (with_reducible refine gO_i at_m7 ?_) | (with_reducible refine IfB.ngf ?_) | (with_reducible refine IfB.ngt ?_) | (with_reducible refine IfB.not ?_) | (with_reducible refine IfB.nil ?_) | (with_reducible refine IfB.nilT ?_) | (with_reducible refine IfB.f isE_c ?_) | (with_reducible refine IfB.t isE_n ?_) | (with_reducible refine IfB.t ?gha ?_; (case gha => rfl)) | (with_reducible refine IfB.f ?gha ?_; (case gha => rfl)) | (with_reducible refine IfB.t ?gha ?_; (case gha => assumption)) | (with_reducible refine IfB.f ?gha ?_; (case gha => assumption)) | (with_reducible refine IfB.yes (Eq.refl _) ?_) | (with_reducible refine IfB.yes ?gha ?_; (case gha => (first | omega | (simp only [len_c, len_n, List.length_map]; omega)))) | (with_reducible refine IfB.no ?gha ?_; (case gha => (first | omega | (simp only [len_c, len_n, List.length_map]; omega)))) | (with_reducible refine IfB.t ?gha ?_; (case gha => decide +kernel)) | (with_reducible refine IfB.f ?gha ?_; (case gha => decide +kernel))); (with_reducible (conv => whnf))))))
local macro_rules
  | `(tactic| decreasing_trivial_pre_omega) => `(tactic| (decreasing_trivial; (repeat ((first | ((with_reducible refine And.intro ?gha ?_); (case gha => (first | assumption | omega | exact rfl | (exact mset_same) | (exact ⟨_, mset_same⟩) | (exact Exists.intro _ (by first | exact mset_same | assumption | (rw [mset_ne (by assumption)]; first | exact mset_same | assumption))) | (exact sm_of (by omega) (by omega)) | (exact sz1000 (by first | omega | (simp; done) | (simp; omega))) | (exact Or.inl ⟨by decide, by decide⟩) | decide | (simp; done) | (refine ⟨?_, ?_⟩ <;> (first | assumption | omega | exact rfl | (exact mset_same) | (exact ⟨_, mset_same⟩) | (exact Exists.intro _ (by first | exact mset_same | assumption | (rw [mset_ne (by assumption)]; first | exact mset_same | assumption))) | (exact sm_of (by omega) (by omega)) | (exact sz1000 (by first | omega | (simp; done) | (simp; omega))) | (exact Or.inl ⟨by decide, by decide⟩) | decide | (simp; done))) | (refine ⟨?_, ?_, ?_⟩ <;> (first | assumption | omega | exact rfl | (exact mset_same) | (exact ⟨_, mset_same⟩) | (exact Exists.intro _ (by first | exact mset_same | assumption | (rw [mset_ne (by assumption)]; first | exact mset_same | assumption))) | (exact sm_of (by omega) (by omega)) | (exact sz1000 (by first | omega | (simp; done) | (simp; omega))) | (exact Or.inl ⟨by decide, by decide⟩) | decide | (simp; done))) | (refine ⟨?_, ?_, ?_, ?_⟩ <;> (first | assumption | omega | exact rfl | (exact mset_same) | (exact ⟨_, mset_same⟩) | (exact Exists.intro _ (by first | exact mset_same | assumption | (rw [mset_ne (by assumption)]; first | exact mset_same | assumption))) | (exact sm_of (by omega) (by omega)) | (exact sz1000 (by first | omega | (simp; done) | (simp; omega))) | (exact Or.inl ⟨by decide, by decide⟩) | decide | (simp; done)))))) | (with_reducible refine exW (by first | exact mset_same | assumption | (rw [mset_ne (by assumption)]; first | exact mset_same | assumption)) ?_)); decreasing_trivial))))
theorem cnt_dbl : ∀ k, cntW (dbl k) = .int ((2 ^ k - 1 : Nat) : Int)
  | 0 => rfl
  | k + 1 => rfl
theorem form_dbl (k : Nat) : dbl k = .none ∨ ∃ l it rt c, dbl k = .tuple [l, it, rt, c] := by
  cases k with
  | zero => exact .inl rfl
  | succ k => exact .inr ⟨_, _, _, _, rfl⟩
section
variable {P : Program} {w : World} {K : PySem.W.Frag} {mg : Str → Option Value} {base : Heap}
abbrev sIsItemL : Stmt := top 48
theorem scIsItemL : FnScope ["_law_thing", "_law_one"] ["_law_thing"] (defScope sIsItemL) := ⟨rfl, rfl, rfl, by decide +kernel, rfl, by decide +kernel, by decide +kernel⟩
@[reducible] def tfItemL : TF := fun ws M R _ => g1 ws fun x => gD x fun d => txt d = true ∧ R (.d (.bool (isItem d))) M
theorem fil_isVal (ds : List PyData) : (ds.filter fun d => !isVal d).isEmpty = ds.all isVal := by
  induction ds with
  | nil => rfl
  | cons d r ih =>
    rw [List.filter_cons, List.all_cons]
    cases isVal d
    · rfl
    · rw [Bool.not_true, if_neg Bool.false_ne_true, ih, Bool.true_and]
theorem ok_isItemL {f : Addr} {fd : FuncData} {k j : Nat} (F : Fun K "_law_is_item" "_law_is_item" sIsItemL f fd) (U_law_is_plain : Use P w K mg base "_law_is_plain" ["_law_thing"] j (spD K 1 (tfB isVal))) (hj : j ≤ k) (T : Bl mg) : FnOk P w K mg base CX0 (k + 1) f fd ["_law_thing"] (spD K 1 tfItemL) := by
  refine okD F scIsItemL rfl fun cdv A outer s H E hr => ?_
  refine ⟨_, _, (pss_cons (ps_if (pt_val (pe_callB (r := rIsi K) call_isi (by rfl) T.isi PyProof.Rows.boot_isinstance (pa_cons (pv 0) (pa_cons (b_tuple T) pa_nil)))) (pss_one (ps_ret (pe_and (pe_cmpR op_lt (pe_callB call_len_seq (by rfl) T.len PySem.boot_len (pa_cons (pv 0) pa_nil)) pe_int (nomark _)) (pe_one (pe_cmpR (op_eqN hr.units) (pe_lc (own := [("_law_one", 1)]) (g := gName 1) (by rfl) scIsItemL.nd (pi_tup (pv 0)) (blkOk_by (N := ["_law_thing", "_law_one"]) (sc := defScope sIsItemL) (own := [("_law_one", 1)]) (by decide +kernel)) (fun _ _ _ _ _ => pg_name (i := 1) scIsItemL.nd rfl (Or.inl rfl)) (fun _ _ _ _ _ => (pts_one (pt_not (pt_val (pe_call U_law_is_plain.ok (hr.mono (by omega)) rfl U_law_is_plain.m U_law_is_plain.kp U_law_is_plain.b .nil pass0 (pa_cons (pv 1) pa_nil)))))) (fun _ _ _ _ _ => (pv 1))) (pe_lst pa_nil) (nomark _)))))) pss_nil)
    (pss_one (ps_ret (pe_call U_law_is_plain.ok (hr.mono (by omega)) rfl U_law_is_plain.m U_law_is_plain.kp U_law_is_plain.b .nil pass0 (pa_cons (pv 0) pa_nil))))),
    (ss_cons (ss_if (st_val (se_cb sc_isi (sa_cons se_nm (sa_cons se_o sa_nil)))) (ss_ret (se_and (se_op so_lt (se_cb sc_len (sa_cons se_nm sa_nil)) se_int) (se_op so_eqN (se_lcF (si_tup se_nm) sg_name (st_not (st_val (se_call (sa_cons se_nm sa_nil)))) se_nm) (se_lsf sa_nil)))) ss_nil)
    (ss_ret (se_call (sa_cons se_nm sa_nil)))), fun ws M R RX hl h => ?_⟩
  obtain ⟨x, rfl, h1⟩ := g1_of h
  obtain ⟨d, rfl, hg, h2⟩ := gD_of h1
  cases d with
  | tuple ds =>
    rw [txt] at hg
    rw [isItem] at h2
    simp only [start0, len_c, len_n, map_c, map_n, app_c, app_n, rep_0, rep_s, Nat.reduceAdd, Nat.reduceSub]
    decreasing_trivial_pre_omega
    refine IfB.d (fun c => ?_) (fun c => ?_)
    · rw [decide_eq_true (p := ds.length ≤ 8) (by omega), Bool.true_and] at h2
      decreasing_trivial_pre_omega
      refine lc1f (fun d => !isVal d) W.d trivial (fun d hm Rk Rn k1 k2 => ?_) (sz1000 (by omega)) ?_
      · obtain ⟨jj, hjj⟩ := List.getElem?_of_mem hm
        have htx := txtAll_get hg hjj
        decreasing_trivial_pre_omega
        cases hv : isVal d
        · rw [hv] at k1
          decreasing_trivial_pre_omega
          exact k1 rfl
        · rw [hv] at k2
          decreasing_trivial_pre_omega
          exact k2 rfl
      · refine gDs_i ?_
        decreasing_trivial_pre_omega
        rw [show (List.map W.d (List.filter (fun d => !isVal d) ds)).isEmpty = ds.all isVal by rw [← fil_isVal ds]; cases (List.filter (fun d => !isVal d) ds) <;> rfl]
        exact h2
    · rw [decide_eq_false (p := ds.length ≤ 8) (by omega), Bool.false_and] at h2
      decreasing_trivial_pre_omega
      exact h2
  | _ => simp only [start0, len_c, len_n, map_c, map_n, app_c, app_n, rep_0, rep_s, Nat.reduceAdd, Nat.reduceSub]; decreasing_trivial_pre_omega; exact h2
end
end Tl

set_option Elab.async false
set_option linter.all false
set_option maxRecDepth 100000
set_option maxHeartbeats 8000000
namespace Tl
open PySem L2 RZ
local macro_rules
  | `(tactic| decreasing_trivial) => `(tactic| ((with_reducible (conv => whnf)); (repeat ((first | (with_reducible refine gDs_c ?_) | (with_reducible refine gDs_n ?_) | (with_reducible refine gNs_c ?_) | (with_reducible refine gNs_n ?_) | (with_reducible refine gO_i tyAny_lt ?_) | (with_reducible refine gIs_c ?_) | (with_reducible refine gIs_n ?_) | (with_reducible refine gBs_c ?_) | (with_reducible refine gBs_n ?_) | (with_reducible refine gSs_c ?_) | (with_reducible refine gSs_n ?_) | (with_reducible refine gO_i tyIs_int ?_) | (with_reducible refine gO_i tyIs_bool ?_) | (with_reducible refine gO_i tyIs_str ?_) | (with_reducible refine gO_i tyIs_tuple ?_) | (with_reducible refine gO_i tyIs_list ?_) | (with_reducible refine gDs_i ?_) | (with_reducible refine gO_i (Eq.refl _) ?_) | (with_reducible refine gO_i (by assumption) ?_) | (with_reducible refine gO_i at_0 ?_) | (with_reducible refine gO_i at_m0 ?_) | (with_reducible refine gO_i at_1 ?_) | (with_reducible refine gO_i at_m1 ?_) | (with_reducible refine gO_i at_2 ?_) | (with_reducible refine gO_i at_m2 ?_) | (with_reducible refine gO_i at_3 ?_) | (with_reducible refine gO_i at_m3 ?_) | (with_reducible refine gO_i at_4 ?_) | (with_reducible refine gO_i at_m4 ?_) | (with_reducible refine gO_i at_5 ?_) | (with_reducible refine gO_i at_m5 ?_) | (with_reducible refine gO_i at_6 ?_) | (with_reducible refine gO_i at_m6 ?_) | (with_reducible refine gO_i at_7 ?_) | (with_reducible refine gO_i at_m7 ?_) | (with_reducible refine IfB.ngf ?_) | (with_reducible refine IfB.ngt ?_) | (with_reducible refine IfB.not ?_) | (with_reducible refine IfB.nil ?_) | (with_reducible refine IfB.nilT ?_) | (with_reducible refine IfB.f isE_c ?_) | (with_reducible refine IfB.t isE_n ?_) | (with_reducible refine IfB.t ?gha ?_; (case gha => rfl)) | (with_reducible refine IfB.f ?gha ?_; (case gha => rfl)) | (with_reducible refine IfB.t ?gha ?_; (case gha => assumption)) | (with_reducible refine IfB.f ?gha ?_; (case gha => assumption)) | (with_reducible refine IfB.yes (Eq.refl _) ?_) | (with_reducible refine IfB.yes ?gha ?_; (case gha => (first | omega | (simp only [len_c, len_n, List.length_map]; omega)))) | (with_reducible refine IfB.no ?gha ?_; (case gha => (first | omega | (simp only [len_c, len_n, List.length_map]; omega)))) | (with_reducible refine IfB.t ?gha ?_; (case gha => decide +kernel)) | (with_reducible refine IfB.f ?gha ?_; (case gha => decide +kernel))); (with_reducible (conv => whnf))))))
local macro_rules
  | `(tactic| decreasing_trivial_pre_omega) => `(tactic| (decreasing_trivial; (repeat ((first | ((with_reducible refine And.intro ?gha ?_); (case gha => (first | assumption | omega | exact rfl | (exact mset_same) | (exact ⟨_, mset_same⟩) | (exact Exists.intro _ (by first | exact mset_same | assumption | (rw [mset_ne (by assumption)]; first | exact mset_same | assumption))) | (exact sm_of (by omega) (by omega)) | (exact sz1000 (by first | omega | (simp; done) | (simp; omega))) | (exact Or.inl ⟨by decide, by decide⟩) | decide | (simp; done) | (refine ⟨?_, ?_⟩ <;> (first | assumption | omega | exact rfl | (exact mset_same) | (exact ⟨_, mset_same⟩) | (exact Exists.intro _ (by first | exact mset_same | assumption | (rw [mset_ne (by assumption)]; first | exact mset_same | assumption))) | (exact sm_of (by omega) (by omega)) | (exact sz1000 (by first | omega | (simp; done) | (simp; omega))) | (exact Or.inl ⟨by decide, by decide⟩) | decide | (simp; done))) | (refine ⟨?_, ?_, ?_⟩ <;> (first | assumption | omega | exact rfl | (exact mset_same) | (exact ⟨_, mset_same⟩) | (exact Exists.intro _ (by first | exact mset_same | assumption | (rw [mset_ne (by assumption)]; first | exact mset_same | assumption))) | (exact sm_of (by omega) (by omega)) | (exact sz1000 (by first | omega | (simp; done) | (simp; omega))) | (exact Or.inl ⟨by decide, by decide⟩) | decide | (simp; done))) | (refine ⟨?_, ?_, ?_, ?_⟩ <;> (first | assumption | omega | exact rfl | (exact mset_same) | (exact ⟨_, mset_same⟩) | (exact Exists.intro _ (by first | exact mset_same | assumption | (rw [mset_ne (by assumption)]; first | exact mset_same | assumption))) | (exact sm_of (by omega) (by omega)) | (exact sz1000 (by first | omega | (simp; done) | (simp; omega))) | (exact Or.inl ⟨by decide, by decide⟩) | decide | (simp; done)))))) | (with_reducible refine exW (by first | exact mset_same | assumption | (rw [mset_ne (by assumption)]; first | exact mset_same | assumption)) ?_)); decreasing_trivial))))
section
variable {P : Program} {w : World} {K : PySem.W.Frag} {mg : Str → Option Value} {base : Heap}
@[reducible] def tfItem : TF := fun ws M R _ => g1 ws fun x => gR x fun st => M st = some (.src false) ∧ ∀ d, ItOk1 d → R (.d d) M
theorem big30 {i : Int} (h : -500 ≤ i) (h2 : i ≤ 500) : ((10 : Int) ^ (30 : Nat) + i).natAbs < 10 ^ 41 := by
  have e : ((10 : Int) ^ (30 : Nat)) = 1000000000000000000000000000000 := by decide
  have e2 : (10 : Nat) ^ 41 = 100000000000000000000000000000000000000000 := by decide
  rw [e, e2]
  omega
abbrev sItem : Stmt := top 43
theorem scItem : FnScope ["_law_state", "_law_road", "_law_number", "_law_word"] ["_law_state"] (defScope sItem) := ⟨rfl, rfl, rfl, by decide +kernel, rfl, by decide +kernel, by decide +kernel⟩
theorem ok_item {f : Addr} {fd : FuncData} {k j : Nat} (F : Fun K "_law_item" "_law_item" sItem f fd) (U_law_take : Use P w K mg base "_law_take" ["_law_state", "_law_below"] j (spD K 2 (tfNext false))) (hj : j ≤ k) (T : Bl mg) : FnOk P w K mg base CX0 (k + 1) f fd ["_law_state"] (spD K 1 tfItem) := by
  refine okD F scItem rfl fun cdv A outer s H E hr => ?_
  refine ⟨_, _, (pss_cons (ps_set (i := 1) scItem.nd rfl (.inl rfl) (pe_call U_law_take.ok (hr.mono (by omega)) rfl U_law_take.m U_law_take.kp U_law_take.b .nil pass0 (pa_cons (pv 0) (pa_cons pe_int pa_nil))))
    (pss_cons (ps_set (i := 2) scItem.nd rfl (.inl rfl) (pe_op op_sub (pe_call U_law_take.ok (hr.mono (by omega)) rfl U_law_take.m U_law_take.kp U_law_take.b .nil pass0 (pa_cons (pv 0) (pa_cons pe_int pa_nil))) pe_int))
    (pss_cons (ps_set (i := 3) scItem.nd rfl (.inl rfl) (pe_ix ix_list (pe_lst (pa_cons pe_str (pa_cons pe_str (pa_cons pe_str (pa_cons pe_str (pa_cons pe_str pa_nil)))))) (pe_call U_law_take.ok (hr.mono (by omega)) rfl U_law_take.m U_law_take.kp U_law_take.b .nil pass0 (pa_cons (pv 0) (pa_cons pe_int pa_nil))) (fun _ _ => rfl)))
    (pss_one (ps_ret (pe_ix ix_list (pe_lst (pa_cons (pv 2) (pa_cons (pv 2) (pa_cons (pv 3) (pa_cons (pe_op op_add (pe_op op_pow pe_int pe_int) (pv 2)) (pa_cons (pe_tup (pa_cons (pv 2) (pa_cons (pv 3) pa_nil))) (pa_cons (pe_tup pa_nil) pa_nil))))))) (pv 1) (fun _ _ => rfl))))))),
    (ss_cons (ss_set (se_call (sa_cons se_nm (sa_cons se_int sa_nil))))
    (ss_cons (ss_set (se_op so_sub (se_call (sa_cons se_nm (sa_cons se_int sa_nil))) se_int))
    (ss_cons (ss_set (se_op so_ixL (se_lsf (sa_cons se_str (sa_cons se_str (sa_cons se_str (sa_cons se_str (sa_cons se_str sa_nil)))))) (se_call (sa_cons se_nm (sa_cons se_int sa_nil)))))
    (ss_ret (se_op so_ixL (se_lsf (sa_cons se_nm (sa_cons se_nm (sa_cons se_nm (sa_cons (se_op so_add (se_op so_pow se_int se_int) se_nm) (sa_cons (se_tup (sa_cons se_nm (sa_cons se_nm sa_nil))) (sa_cons (se_tup sa_nil) sa_nil))))))) se_nm))))), fun ws M R RX hl h => ?_⟩
  obtain ⟨x, rfl, h1⟩ := g1_of h
  obtain ⟨st, rfl, hM, h3⟩ := gR_of h1
  simp only [start0, len_c, len_n, map_c, map_n, app_c, app_n, rep_0, rep_s, Nat.reduceAdd, Nat.reduceSub]
  decreasing_trivial
  refine ⟨⟨hM, by decide, by decide⟩, fun road hr0 hr1 => ?_⟩
  decreasing_trivial
  refine ⟨⟨hM, by decide, by decide⟩, fun nu hn0 hn1 => ?_⟩
  decreasing_trivial
  refine ⟨⟨hM, by decide, by decide⟩, fun wd hw0 hw1 => ?_⟩
  decreasing_trivial
  refine gO_atD (fun d => ∃ s : Str, d = .str s ∧ s.length ≤ 3 ∧ PyData.strOk s = true) hw0 hw1 (all1 ⟨_, rfl, by decide, by decide +kernel⟩ (all1 ⟨_, rfl, by decide, by decide +kernel⟩ (all1 ⟨_, rfl, by decide, by decide +kernel⟩ (all1 ⟨_, rfl, by decide, by decide +kernel⟩ (all1 ⟨_, rfl, by decide, by decide +kernel⟩ all0))))) fun wdv hwd => ?_
  obtain ⟨s0, rfl, s1, s2⟩ := hwd
  decreasing_trivial
  refine ⟨⟨by decide, by decide, by decide⟩, ?_⟩
  decreasing_trivial_pre_omega
  have gn : ∀ k, Gk 1930 k (.int (nu - 500)) := fun k => gk_i (by omega) (by omega)
  have gs : ∀ k, Gk 40 k (.str s0) := fun k => gk_str (by omega) s2 (by omega)
  have i1 : ItOk1 (.int (nu - 500)) := ⟨rfl, (gn 1).mono (by decide) (Nat.le_refl _)⟩
  show gO (atI (([.int (nu - 500), .int (nu - 500), .str s0, .int ((10 : Int) ^ (30 : Int).toNat + (nu - 500)), .tuple [.int (nu - 500), .str s0], .tuple []] : List PyData).map W.d) road) fun a => R a M
  refine gO_atD ItOk1 hr0 hr1 (all1 i1 (all1 i1 (all1 ⟨rfl, (gs 1).mono (by decide) (Nat.le_refl _)⟩ (all1 ⟨rfl, gk_int (big30 (by omega) (by omega)) (by decide)⟩ (all1 ⟨rfl, ?_⟩ (all1 ⟨rfl, by decide +kernel⟩ all0)))))) fun d hd => h3 d hd
  exact (Gks.cons (m' := 42) (m'' := 1974) (k := 0) (gn 0) (.cons (m' := 0) (gs 0) .nil (by decide)) (by decide)).tup (by decide)
/-- a tie put together -/
@[reducible] def tfOver : TF := fun ws M R _ => ∃ (l it rt : PyData) (a b : Int), ws = [.d l, .d it, .d rt] ∧ ((l = .none ∨ ∃ x y z c, l = .tuple [x, y, z, c]) ∧ (rt = .none ∨ ∃ x y z c, rt = .tuple [x, y, z, c]) ∧ cntW l = .int a ∧ cntW rt = .int b) ∧ R (.d (.tuple [l, it, rt, .int (a + 1 + b)])) M
abbrev sOver : Stmt := top 45
theorem scOver : FnScope ["_law_left", "_law_item_here", "_law_right"] ["_law_left", "_law_item_here", "_law_right"] (defScope sOver) := ⟨rfl, rfl, rfl, by decide +kernel, rfl, by decide +kernel, by decide +kernel⟩
theorem ok_over {f : Addr} {fd : FuncData} {k j : Nat} (F : Fun K "_law_over" "_law_over" sOver f fd) (U_law_count : Use P w K mg base "_law_count" ["_law_tie"] j (spD K 1 tfCnt)) (hj : j ≤ k) (T : Bl mg) : FnOk P w K mg base CX0 (k + 1) f fd ["_law_left", "_law_item_here", "_law_right"] (spD K 3 tfOver) := by
  refine okD F scOver rfl fun cdv A outer s H E hr => ?_
  refine ⟨_, _, (pss_one (ps_ret (pe_tup (pa_cons (pv 0) (pa_cons (pv 1) (pa_cons (pv 2) (pa_cons (pe_op op_add (pe_op op_add (pe_call U_law_count.ok (hr.mono (by omega)) rfl U_law_count.m U_law_count.kp U_law_count.b .nil pass0 (pa_cons (pv 0) pa_nil)) pe_int) (pe_call U_law_count.ok (hr.mono (by omega)) rfl U_law_count.m U_law_count.kp U_law_count.b .nil pass0 (pa_cons (pv 2) pa_nil))) pa_nil))))))),
    (ss_ret (se_tup (sa_cons se_nm (sa_cons se_nm (sa_cons se_nm (sa_cons (se_op so_add (se_op so_add (se_call (sa_cons se_nm sa_nil)) se_int) (se_call (sa_cons se_nm sa_nil))) sa_nil)))))), fun ws M R RX hl h => ?_⟩
  obtain ⟨l, it, rt, a, b, rfl, ⟨h1, h2, h3, h4⟩, h5⟩ := h
  simp only [start0, len_c, len_n, map_c, map_n, app_c, app_n, rep_0, rep_s, Nat.reduceAdd, Nat.reduceSub]
  decreasing_trivial
  refine ⟨h1, ?_⟩
  rw [h3]
  decreasing_trivial
  refine ⟨h2, ?_⟩
  rw [h4]
  decreasing_trivial
  exact h5
end
end Tl

set_option Elab.async false
set_option linter.all false
set_option maxRecDepth 100000
set_option maxHeartbeats 8000000
namespace Tl
open PySem L2 RZ Tie
local macro_rules
  | `(tactic| decreasing_trivial) => `(tactic| ((with_reducible (conv => whnf)); (repeat ((first | (with_reducible refine gTie_i ?_) | (with_reducible refine gTie_n ?_) | (with_reducible refine gTie_4 ?_) | (with_reducible refine gDs_c ?_) | (with_reducible refine gDs_n ?_) | (with_reducible refine gNs_c ?_) | (with_reducible refine gNs_n ?_) | (with_reducible refine gO_i tyAny_lt ?_) | (with_reducible refine gIs_c ?_) | (with_reducible refine gIs_n ?_) | (with_reducible refine gBs_c ?_) | (with_reducible refine gBs_n ?_) | (with_reducible refine gSs_c ?_) | (with_reducible refine gSs_n ?_) | (with_reducible refine gO_i tyIs_int ?_) | (with_reducible refine gO_i tyIs_bool ?_) | (with_reducible refine gO_i tyIs_str ?_) | (with_reducible refine gO_i tyIs_tuple ?_) | (with_reducible refine gO_i tyIs_list ?_) | (with_reducible refine gDs_i ?_) | (with_reducible refine gO_i (Eq.refl _) ?_) | (with_reducible refine gO_i (by assumption) ?_) | (with_reducible refine gO_i at_0 ?_) | (with_reducible refine gO_i at_m0 ?_) | (with_reducible refine gO_i at_1 ?_) | (with_reducible refine gO_i at_m1 ?_) | (with_reducible refine gO_i at_2 ?_) | (with_reducible refine gO_i at_m2 ?_) | (with_reducible refine gO_i at_3 ?_) | (with_reducible refine gO_i at_m3 ?_) | (with_reducible refine gO_i at_4 ?_) | (with_reducible refine gO_i at_m4 ?_) | (with_reducible refine gO_i at_5 ?_) | (with_reducible refine gO_i at_m5 ?_) | (with_reducible refine gO_i at_6 ?_) | (with_reducible refine gO_i at_m6 ?_) | (with_reducible refine gO_i at_7 ?_) | (with_reducible refine gO_i at_m7 ?_) | (with_reducible refine IfB.ngf ?_) | (with_reducible refine IfB.ngt ?_) | (with_reducible refine IfB.not ?_) | (with_reducible refine IfB.nil ?_) | (with_reducible refine IfB.nilT ?_) | (with_reducible refine IfB.f isE_c ?_) | (with_reducible refine IfB.t isE_n ?_) | (with_reducible refine IfB.t ?gha ?_; (case gha => rfl)) | (with_reducible refine IfB.f ?gha ?_; (case gha => rfl)) | (with_reducible refine IfB.t ?gha ?_; (case gha => assumption)) | (with_reducible refine IfB.f ?gha ?_; (case gha => assumption)) | (with_reducible refine IfB.yes (Eq.refl _) ?_) | (with_reducible refine IfB.yes ?gha ?_; (case gha => (first | omega | (simp only [len_c, len_n, List.length_map]; omega)))) | (with_reducible refine IfB.no ?gha ?_; (case gha => (first | omega | (simp only [len_c, len_n, List.length_map]; omega)))) | (with_reducible refine IfB.t ?gha ?_; (case gha => decide +kernel)) | (with_reducible refine IfB.f ?gha ?_; (case gha => decide +kernel))); (with_reducible (conv => whnf))))))
local macro_rules
  | `(tactic| decreasing_trivial_pre_omega) => `(tactic| (decreasing_trivial; (repeat ((first | ((with_reducible refine And.intro ?gha ?_); (case gha => (first | assumption | omega | exact rfl | (exact mset_same) | (exact ⟨_, mset_same⟩) | (exact Exists.intro _ (by first | exact mset_same | assumption | (rw [mset_ne (by assumption)]; first | exact mset_same | assumption))) | (exact sm_of (by omega) (by omega)) | (exact sz1000 (by first | omega | (simp; done) | (simp; omega))) | (exact Or.inl ⟨by decide, by decide⟩) | decide | (simp; done) | (refine ⟨?_, ?_⟩ <;> (first | assumption | omega | exact rfl | (exact mset_same) | (exact ⟨_, mset_same⟩) | (exact Exists.intro _ (by first | exact mset_same | assumption | (rw [mset_ne (by assumption)]; first | exact mset_same | assumption))) | (exact sm_of (by omega) (by omega)) | (exact sz1000 (by first | omega | (simp; done) | (simp; omega))) | (exact Or.inl ⟨by decide, by decide⟩) | decide | (simp; done))) | (refine ⟨?_, ?_, ?_⟩ <;> (first | assumption | omega | exact rfl | (exact mset_same) | (exact ⟨_, mset_same⟩) | (exact Exists.intro _ (by first | exact mset_same | assumption | (rw [mset_ne (by assumption)]; first | exact mset_same | assumption))) | (exact sm_of (by omega) (by omega)) | (exact sz1000 (by first | omega | (simp; done) | (simp; omega))) | (exact Or.inl ⟨by decide, by decide⟩) | decide | (simp; done))) | (refine ⟨?_, ?_, ?_, ?_⟩ <;> (first | assumption | omega | exact rfl | (exact mset_same) | (exact ⟨_, mset_same⟩) | (exact Exists.intro _ (by first | exact mset_same | assumption | (rw [mset_ne (by assumption)]; first | exact mset_same | assumption))) | (exact sm_of (by omega) (by omega)) | (exact sz1000 (by first | omega | (simp; done) | (simp; omega))) | (exact Or.inl ⟨by decide, by decide⟩) | decide | (simp; done)))))) | (with_reducible refine exW (by first | exact mset_same | assumption | (rw [mset_ne (by assumption)]; first | exact mset_same | assumption)) ?_)); decreasing_trivial))))
@[reducible] def tfTiedL : TF := fun ws M R _ => g1 ws fun x => gL x fun xs => (txtAll xs = true ∧ xs.length ≤ 1000 ∧ ∀ x ∈ xs, isItem x = true) ∧ ∀ t, Is t xs → R (.d (toD t)) M
@[reducible] def tfTiedT : TF := fun ws M R _ => g1 ws fun x => gT x fun xs => (txtAll xs = true ∧ xs.length ≤ 1000 ∧ ∀ x ∈ xs, isItem x = true) ∧ ∀ t, Is t xs → R (.d (toD t)) M
section
variable {P : Program} {w : World} {K : PySem.W.Frag} {mg : Str → Option Value} {base : Heap}
theorem ok_builtT1 {f : Addr} {fd : FuncData} {n j : Nat} (F : Fun K "built" "built" sBuilt f fd) (Ubuilt : Use P w K mg base "built" ["items"] (j + n) (spD K 1 (tfBuiltT n))) (Uknit : Use P w K mg base "knit" ["left", "item", "right"] j (spD K 3 tfKnit)) (T : Bl mg) :
    FnOk P w K mg base CX0 (j + n + 1) f fd ["items"] (spD K 1 (tfBuiltT (n + 1))) := by
  refine okD F scBuilt rfl fun cdv A outer s H E hr => ?_
  refine ⟨_, _, (pss_cons (ps_if (pt_cmpR op_eq (pe_callB call_len_seq (by rfl) T.len PySem.boot_len (pa_cons (pv 0) pa_nil)) pe_int (nomark _)) (pss_one (ps_ret pe_non)) pss_nil)
    (pss_cons (ps_set (i := 1) scBuilt.nd rfl (.inl rfl) (pe_op op_fdivN (pe_callB call_len_seq (by rfl) T.len PySem.boot_len (pa_cons (pv 0) pa_nil)) pe_int))
    (pss_one (ps_ret (pe_call Uknit.ok (hr.mono (by omega)) rfl Uknit.m Uknit.kp Uknit.b .nil pass0 (pa_cons (pe_call Ubuilt.ok (hr.mono (by omega)) rfl Ubuilt.m Ubuilt.kp Ubuilt.b .nil pass0 (pa_cons (pe_slice sl_tupA (pv 0) po_none (po_some (pv 1))) pa_nil)) (pa_cons (pe_ix ix_tup (pv 0) (pv 1) (fun _ _ => rfl)) (pa_cons (pe_call Ubuilt.ok (hr.mono (by omega)) rfl Ubuilt.m Ubuilt.kp Ubuilt.b .nil pass0 (pa_cons (pe_slice sl_tupA (pv 0) (po_some (pe_op op_add (pv 1) pe_int)) po_none) pa_nil)) pa_nil)))))))),
    (ss_cons (ss_if (st_test (se_op so_eqS (se_cb sc_len (sa_cons se_nm sa_nil)) se_int)) (ss_ret se_non) ss_nil)
    (ss_cons (ss_set (se_op so_div (se_cb sc_len (sa_cons se_nm sa_nil)) se_int))
    (ss_ret (se_call (sa_cons (se_call (sa_cons (se_sl sl_T se_nm sp_no (sp_some se_nm)) sa_nil)) (sa_cons (se_op so_ixT se_nm se_nm) (sa_cons (se_call (sa_cons (se_sl sl_T se_nm (sp_some (se_op so_add se_nm se_int)) sp_no) sa_nil)) sa_nil))))))), fun ws M R RX hl h => ?_⟩
  obtain ⟨x, rfl, h1⟩ := g1_of h
  obtain ⟨xs, rfl, ⟨hn, hl⟩, h2⟩ := gT_of h1
  have hp : n = 0 ∨ ∃ m, 2 ^ n = 2 * m := by
    cases n with
    | zero => exact .inl rfl
    | succ n => exact .inr ⟨2 ^ n, by rw [Nat.pow_succ]; omega⟩
  have hp' : ∀ c : Nat, c ≤ xs.length / 2 → xs.length ≠ 0 → 2 * c + 2 ≤ 2 ^ n := fun c hc h0 => by
    rw [Nat.pow_succ] at hn
    rcases hp with rfl | ⟨m, e⟩
    · rw [Nat.pow_zero] at hn; omega
    · omega
  simp only [start0, len_c, len_n, map_c, map_n, app_c, app_n, rep_0, rep_s, Nat.reduceAdd, Nat.reduceSub]
  decreasing_trivial_pre_omega
  refine IfB.d (fun c => ?_) (fun c => ?_)
  · decreasing_trivial_pre_omega
    have : xs = [] := List.eq_nil_of_length_eq_zero (by omega)
    subst this
    exact h2 nil .nil
  · decreasing_trivial_pre_omega
    rw [half, cut_to]
    have hk : xs.length / 2 < xs.length := by omega
    refine ⟨⟨hp' _ (by rw [List.length_take]; omega) (by omega), by rw [List.length_take]; omega⟩, fun a ha => ?_⟩
    decreasing_trivial_pre_omega
    rw [half]
    refine gO_i (a := xs[xs.length / 2]'hk) (atI_nat (List.getElem?_eq_getElem hk)) ?_
    decreasing_trivial_pre_omega
    rw [half, cut_from1]
    refine ⟨⟨hp' _ (by rw [List.length_drop]; omega) (by omega), by rw [List.length_drop]; omega⟩, fun b hb => ?_⟩
    decreasing_trivial_pre_omega
    have := Is.node (x := xs[xs.length / 2]'hk) ha hb ⟨by rw [List.length_take, List.length_drop]; omega, by rw [List.length_take, List.length_drop]; omega⟩
    rw [← List.drop_eq_getElem_cons hk, List.take_append_drop] at this
    exact h2 _ this
theorem ok_builtT {f : Addr} {fd : FuncData} {j : Nat} (F : Fun K "built" "built" sBuilt f fd) (mF : mg "built" = some (.ref f)) (Uknit : Use P w K mg base "knit" ["left", "item", "right"] j (spD K 3 tfKnit)) (T : Bl mg) : ∀ n, FnOk P w K mg base CX0 (j + n) f fd ["items"] (spD K 1 (tfBuiltT n))
  | 0 => no0 fun ws M R RX h => by
    obtain ⟨x, rfl, h1⟩ := g1_of h
    obtain ⟨xs, rfl, ⟨hn, hl⟩, h2⟩ := gT_of h1
    rw [Nat.pow_zero] at hn
    omega
  | n + 1 => ok_builtT1 F ⟨f, fd, ok_builtT F mF Uknit T n, mF, F.kp, F.binds (ps := ["items"]) fun _ _ _ _ _ _ us hl => match us, hl with | [_], _ => rfl⟩ Uknit T
theorem all_item {xs : List PyData} (h : ∀ x ∈ xs, isItem x = true) : (xs.map isItem).all id = true := by
  rw [List.all_map, List.all_eq_true]
  exact h
abbrev sTied : Stmt := top 34
theorem scTied : FnScope ["items", "item"] ["items"] (defScope sTied) := ⟨rfl, rfl, rfl, by decide +kernel, rfl, by decide +kernel, by decide +kernel⟩
theorem ok_tiedL {f C : Addr} {fd : FuncData} {k j : Nat} (F : Fun K "tied" "tied" sTied f fd) (XNoTie : Er K mg "NoTie" C) (Uis_item : Use P w K mg base "is_item" ["thing"] j (spD K 1 (tfB isItem))) (Ubuilt : Use P w K mg base "built" ["items"] j (spD K 1 (tfBuiltL 11))) (hj : j ≤ k) (T : Bl mg) (CT : ∃ t, mg "TIED" = some (.int 1000 t)) :
    FnOk P w K mg base (L2.CX P w) (k + 1) f fd ["items"] (spD K 1 tfTiedL) := by
  refine okDX F scTied rfl fun cdv A outer s H E hr => ?_
  refine ⟨_, fun RE => _, (pss_cons (ps_if (PW.pt (pw_or (pt_not (pt_val (pe_callB (r := rIsiT K) call_isiT (by rfl) T.isi PyProof.Rows.boot_isinstance (pa_cons (pv 0) (pa_cons (pe_tup (pa_cons (b_list T) (pa_cons (b_tuple T) pa_nil))) pa_nil))))) (pw_or1 (pt_cmpR op_gt (pe_callB call_len_seq (by rfl) T.len PySem.boot_len (pa_cons (pv 0) pa_nil)) (c_int CT) (nomark _))))) (pss_one (ps_raise rfl (takes_of (E := E) rfl rfl rfl rfl) (pmk_own0 PySem.F.excBase_ValueError XNoTie.x XNoTie.g XNoTie.k (raises_own XNoTie.b XNoTie.t) (by exact rfl)))) pss_nil)
    (pss_cons (ps_if (pt_not (pt_val (pe_callB (cr_all rfl) (by rfl) T.all PyProof.Rows.boot_all (pa_cons (pe_lc (own := [("item", 1)]) (g := gName 1) (tt := tYes) (by rfl) scTied.nd (pi_list (pv 0)) (blkOk_by (N := ["items", "item"]) (sc := defScope sTied) (own := [("item", 1)]) (by decide +kernel)) (fun _ _ _ _ _ => pg_name (i := 1) scTied.nd rfl (Or.inl rfl)) (fun _ _ _ _ _ => pts_nil) (fun _ _ _ _ _ => (PE.nox (pe_call Uis_item.ok (hr.mono (by omega)) rfl Uis_item.m Uis_item.kp Uis_item.b .nil pass0 (pa_cons (pv 1) pa_nil))))) pa_nil)))) (pss_one (ps_raise rfl (takes_of (E := E) rfl rfl rfl rfl) (pmk_own0 PySem.F.excBase_ValueError XNoTie.x XNoTie.g XNoTie.k (raises_own XNoTie.b XNoTie.t) (by exact rfl)))) pss_nil)
    (pss_one (ps_ret (PE.nox (pe_call Ubuilt.ok (hr.mono (by omega)) rfl Ubuilt.m Ubuilt.kp Ubuilt.b .nil pass0 (pa_cons (pv 0) pa_nil))))))), fun RE => (ss_cons (ss_if (st_or (st_not (st_val (se_isDT se_nm (sa_cons se_o (sa_cons se_o sa_nil))))) (st_test (se_op so_gt (se_cb sc_len (sa_cons se_nm sa_nil)) se_int))) ss_raise0 ss_nil)
    (ss_cons (ss_if (st_not (st_val (se_cb sc_all (sa_cons (se_lcF (si_lst se_nm) sg_name st_yes (se_call (sa_cons se_nm sa_nil))) sa_nil)))) ss_raise0 ss_nil)
    (ss_ret (se_call (sa_cons se_nm sa_nil))))), fun ws M R RX hl h => ?_⟩
  obtain ⟨x, rfl, h1⟩ := g1_of h
  obtain ⟨xs, rfl, ⟨hx, hl, hi⟩, h2⟩ := gL_of h1
  simp only [start0, len_c, len_n, map_c, map_n, app_c, app_n, rep_0, rep_s, Nat.reduceAdd, Nat.reduceSub]
  decreasing_trivial_pre_omega
  refine IfB.t rfl ?_
  decreasing_trivial_pre_omega
  refine lc1F (k := fun _ => True) (b := bName 1) (f := W.d) (fun d => .bool (isItem d)) trivial (fun d hm Rk q => ?_) (sz1000 hl) ?_
  · obtain ⟨jj, hjj⟩ := List.getElem?_of_mem hm
    have htx := txtAll_get hx hjj
    decreasing_trivial_pre_omega
    exact q
  · dsimp only
    show gBs ((xs.map fun d => PyData.bool (isItem d)).map W.d) _
    rw [mapW, gBs_map]
    have ha := all_item hi
    decreasing_trivial_pre_omega
    exact h2
theorem ok_tiedT {f C : Addr} {fd : FuncData} {k j : Nat} (F : Fun K "tied" "tied" sTied f fd) (XNoTie : Er K mg "NoTie" C) (Uis_item : Use P w K mg base "is_item" ["thing"] j (spD K 1 (tfB isItem))) (Ubuilt : Use P w K mg base "built" ["items"] j (spD K 1 (tfBuiltT 11))) (hj : j ≤ k) (T : Bl mg) (CT : ∃ t, mg "TIED" = some (.int 1000 t)) :
    FnOk P w K mg base (L2.CX P w) (k + 1) f fd ["items"] (spD K 1 tfTiedT) := by
  refine okDX F scTied rfl fun cdv A outer s H E hr => ?_
  refine ⟨_, fun RE => _, (pss_cons (ps_if (PW.pt (pw_or (pt_not (pt_val (pe_callB (r := rIsiT K) call_isiT (by rfl) T.isi PyProof.Rows.boot_isinstance (pa_cons (pv 0) (pa_cons (pe_tup (pa_cons (b_list T) (pa_cons (b_tuple T) pa_nil))) pa_nil))))) (pw_or1 (pt_cmpR op_gt (pe_callB call_len_seq (by rfl) T.len PySem.boot_len (pa_cons (pv 0) pa_nil)) (c_int CT) (nomark _))))) (pss_one (ps_raise rfl (takes_of (E := E) rfl rfl rfl rfl) (pmk_own0 PySem.F.excBase_ValueError XNoTie.x XNoTie.g XNoTie.k (raises_own XNoTie.b XNoTie.t) (by exact rfl)))) pss_nil)
    (pss_cons (ps_if (pt_not (pt_val (pe_callB (cr_all rfl) (by rfl) T.all PyProof.Rows.boot_all (pa_cons (pe_lc (own := [("item", 1)]) (g := gName 1) (tt := tYes) (by rfl) scTied.nd (pi_tup (pv 0)) (blkOk_by (N := ["items", "item"]) (sc := defScope sTied) (own := [("item", 1)]) (by decide +kernel)) (fun _ _ _ _ _ => pg_name (i := 1) scTied.nd rfl (Or.inl rfl)) (fun _ _ _ _ _ => pts_nil) (fun _ _ _ _ _ => (PE.nox (pe_call Uis_item.ok (hr.mono (by omega)) rfl Uis_item.m Uis_item.kp Uis_item.b .nil pass0 (pa_cons (pv 1) pa_nil))))) pa_nil)))) (pss_one (ps_raise rfl (takes_of (E := E) rfl rfl rfl rfl) (pmk_own0 PySem.F.excBase_ValueError XNoTie.x XNoTie.g XNoTie.k (raises_own XNoTie.b XNoTie.t) (by exact rfl)))) pss_nil)
    (pss_one (ps_ret (PE.nox (pe_call Ubuilt.ok (hr.mono (by omega)) rfl Ubuilt.m Ubuilt.kp Ubuilt.b .nil pass0 (pa_cons (pv 0) pa_nil))))))), fun RE => (ss_cons (ss_if (st_or (st_not (st_val (se_isDT se_nm (sa_cons se_o (sa_cons se_o sa_nil))))) (st_test (se_op so_gt (se_cb sc_len (sa_cons se_nm sa_nil)) se_int))) ss_raise0 ss_nil)
    (ss_cons (ss_if (st_not (st_val (se_cb sc_all (sa_cons (se_lcF (si_tup se_nm) sg_name st_yes (se_call (sa_cons se_nm sa_nil))) sa_nil)))) ss_raise0 ss_nil)
    (ss_ret (se_call (sa_cons se_nm sa_nil))))), fun ws M R RX hl h => ?_⟩
  obtain ⟨x, rfl, h1⟩ := g1_of h
  obtain ⟨xs, rfl, ⟨hx, hl, hi⟩, h2⟩ := gT_of h1
  simp only [start0, len_c, len_n, map_c, map_n, app_c, app_n, rep_0, rep_s, Nat.reduceAdd, Nat.reduceSub]
  decreasing_trivial_pre_omega
  refine IfB.t rfl ?_
  decreasing_trivial_pre_omega
  refine lc1F (k := fun _ => True) (b := bName 1) (f := W.d) (fun d => .bool (isItem d)) trivial (fun d hm Rk q => ?_) (sz1000 hl) ?_
  · obtain ⟨jj, hjj⟩ := List.getElem?_of_mem hm
    have htx := txtAll_get hx hjj
    decreasing_trivial_pre_omega
    exact q
  · dsimp only
    show gBs ((xs.map fun d => PyData.bool (isItem d)).map W.d) _
    rw [mapW, gBs_map]
    have ha := all_item hi
    decreasing_trivial_pre_omega
    exact h2
/-- a tie of drawn items -/
@[reducible] def tfMadeT (n : Nat) : TF := fun ws M R _ => g2 ws fun x y => gR x fun st => gL y fun xs => (M st = some (.src false) ∧ 3 ^ n * (xs.length + 1) < 4 ^ n ∧ xs.length ≤ 1000) ∧ ∀ t, Is t xs → R (.d (toD t)) M
theorem ok_overT {f : Addr} {fd : FuncData} {k j : Nat} (F : Fun K "_law_over" "_law_over" sOver f fd) (U_law_count : Use P w K mg base "_law_count" ["_law_tie"] j (spD K 1 tfCnt)) (hj : j ≤ k) (T : Bl mg) : FnOk P w K mg base CX0 (k + 1) f fd ["_law_left", "_law_item_here", "_law_right"] (spD K 3 tfKnit) := by
  refine okD F scOver rfl fun cdv A outer s H E hr => ?_
  refine ⟨_, _, (pss_one (ps_ret (pe_tup (pa_cons (pv 0) (pa_cons (pv 1) (pa_cons (pv 2) (pa_cons (pe_op op_add (pe_op op_add (pe_call U_law_count.ok (hr.mono (by omega)) rfl U_law_count.m U_law_count.kp U_law_count.b .nil pass0 (pa_cons (pv 0) pa_nil)) pe_int) (pe_call U_law_count.ok (hr.mono (by omega)) rfl U_law_count.m U_law_count.kp U_law_count.b .nil pass0 (pa_cons (pv 2) pa_nil))) pa_nil))))))),
    (ss_ret (se_tup (sa_cons se_nm (sa_cons se_nm (sa_cons se_nm (sa_cons (se_op so_add (se_op so_add (se_call (sa_cons se_nm sa_nil)) se_int) (se_call (sa_cons se_nm sa_nil))) sa_nil)))))), fun ws M R RX hl h => ?_⟩
  match ws, h with
  | [a, .d it, c], h =>
  obtain ⟨l, rfl, r, rfl, h2⟩ := h
  have fl := form_toD l
  have fr := form_toD r
  simp only [start0, len_c, len_n, map_c, map_n, app_c, app_n, rep_0, rep_s, Nat.reduceAdd, Nat.reduceSub]
  decreasing_trivial_pre_omega
  rw [cnt_toD]
  decreasing_trivial_pre_omega
  rw [cnt_toD]
  decreasing_trivial_pre_omega
  exact h2
abbrev sMade : Stmt := top 46
theorem scMade : FnScope ["_law_state", "_law_items_here", "_law_many", "_law_least", "_law_middle"] ["_law_state", "_law_items_here"] (defScope sMade) := ⟨rfl, rfl, rfl, by decide +kernel, rfl, by decide +kernel, by decide +kernel⟩
theorem ok_madeT1 {f : Addr} {fd : FuncData} {n j : Nat} (F : Fun K "_law_made" "_law_made" sMade f fd) (U_law_made : Use P w K mg base "_law_made" ["_law_state", "_law_items_here"] (j + n) (spD K 2 (tfMadeT n))) (U_law_take : Use P w K mg base "_law_take" ["_law_state", "_law_below"] j (spD K 2 (tfNext false))) (U_law_over : Use P w K mg base "_law_over" ["_law_left", "_law_item_here", "_law_right"] j (spD K 3 tfKnit)) (T : Bl mg) :
    FnOk P w K mg base CX0 (j + n + 1) f fd ["_law_state", "_law_items_here"] (spD K 2 (tfMadeT (n + 1))) := by
  refine okD F scMade rfl fun cdv A outer s H E hr => ?_
  refine ⟨_, _, (pss_cons (ps_if (pt_cmpR (op_eqN hr.units) (pv 1) (pe_lst pa_nil) (nomark _)) (pss_one (ps_ret pe_non)) pss_nil)
    (pss_cons (ps_set (i := 2) scMade.nd rfl (.inl rfl) (pe_op op_sub (pe_callB call_len_seq (by rfl) T.len PySem.boot_len (pa_cons (pv 1) pa_nil)) pe_int))
    (pss_cons (ps_set (i := 3) scMade.nd rfl (.inl rfl) (pe_callB (call_max2 rfl) (by rfl) T.max PyProof.Rows.boot_max (pa_cons pe_int (pa_cons (pe_op op_sub (pe_op op_fdivN (pe_op op_add (pv 2) pe_int) pe_int) pe_int) pa_nil))))
    (pss_cons (ps_set (i := 4) scMade.nd rfl (.inl rfl) (pe_op op_fdivN (pv 2) pe_int))
    (pss_cons (ps_if (PW.pt (pw_and (pt_cmpR op_gt (pe_op op_sub (pv 2) (pe_op op_mul pe_int (pv 3))) pe_int (nomark _)) (pw_and1 (pt_cmpR op_eq (pe_call U_law_take.ok (hr.mono (by omega)) rfl U_law_take.m U_law_take.kp U_law_take.b .nil pass0 (pa_cons (pv 0) (pa_cons pe_int pa_nil))) pe_int (nomark _))))) (pss_one (ps_set (i := 4) scMade.nd rfl (.inl rfl) (pe_op op_add (pv 3) (pe_call U_law_take.ok (hr.mono (by omega)) rfl U_law_take.m U_law_take.kp U_law_take.b .nil pass0 (pa_cons (pv 0) (pa_cons (pe_op op_add (pe_op op_sub (pv 2) (pe_op op_mul pe_int (pv 3))) pe_int) pa_nil)))))) pss_nil)
    (pss_one (ps_ret (pe_call U_law_over.ok (hr.mono (by omega)) rfl U_law_over.m U_law_over.kp U_law_over.b .nil pass0 (pa_cons (pe_call U_law_made.ok (hr.mono (by omega)) rfl U_law_made.m U_law_made.kp U_law_made.b .nil pass0 (pa_cons (pv 0) (pa_cons (pe_slice sl_list (pv 1) po_none (po_some (pv 4))) pa_nil))) (pa_cons (pe_ix ix_list (pv 1) (pv 4) (fun _ _ => rfl)) (pa_cons (pe_call U_law_made.ok (hr.mono (by omega)) rfl U_law_made.m U_law_made.kp U_law_made.b .nil pass0 (pa_cons (pv 0) (pa_cons (pe_slice sl_list (pv 1) (po_some (pe_op op_add (pv 4) pe_int)) po_none) pa_nil))) pa_nil))))))))))),
    (ss_cons (ss_if (st_test (se_op so_eqN se_nm (se_lsf sa_nil))) (ss_ret se_non) ss_nil)
    (ss_cons (ss_set (se_op so_sub (se_cb sc_len (sa_cons se_nm sa_nil)) se_int))
    (ss_cons (ss_set (se_cb sc_max2 (sa_cons se_int (sa_cons (se_op so_sub (se_op so_div (se_op so_add se_nm se_int) se_int) se_int) sa_nil))))
    (ss_cons (ss_set (se_op so_div se_nm se_int))
    (ss_cut (ss_if (st_and (st_test (se_op so_gt (se_op so_sub se_nm (se_op so_mul se_int se_nm)) se_int)) (st_test (se_op so_eqS (se_call (sa_cons se_nm (sa_cons se_int sa_nil))) se_int))) (ss_set (se_op so_add se_nm (se_call (sa_cons se_nm (sa_cons (se_op so_add (se_op so_sub se_nm (se_op so_mul se_int se_nm)) se_int) sa_nil))))) ss_nil)
    (ss_ret (se_call (sa_cons (se_call (sa_cons se_nm (sa_cons (se_sl sl_F se_nm sp_no (sp_some se_nm)) sa_nil))) (sa_cons (se_op so_ixL se_nm se_nm) (sa_cons (se_call (sa_cons se_nm (sa_cons (se_sl sl_F se_nm (sp_some (se_op so_add se_nm se_int)) sp_no) sa_nil))) sa_nil)))))))))), fun ws M R RX hl h => ?_⟩
  obtain ⟨x, y, rfl, h1⟩ := g2_of h
  obtain ⟨st, rfl, h2⟩ := gR_of h1
  obtain ⟨its, rfl, ⟨hM, hl1, hl2⟩, h3⟩ := gL_of h2
  clear h h1 h2
  simp only [start0, len_c, len_n, map_c, map_n, app_c, app_n, rep_0, rep_s, Nat.reduceAdd, Nat.reduceSub]
  decreasing_trivial_pre_omega
  cases its with
  | nil =>
    refine IfB.t rfl ?_
    decreasing_trivial_pre_omega
    exact h3 nil .nil
  | cons i0 r0 =>
  have el : ((i0 :: r0).map W.d).length = r0.length + 1 := by simp
  have el2 : (i0 :: r0).length = r0.length + 1 := by simp
  refine IfB.f rfl ?_
  decreasing_trivial_pre_omega
  refine seq_cut (fun ρ' M' => M' = M ∧ ∃ (y2 y3 : Option W) (k : Nat), (k ≤ r0.length ∧ k + 1 ≤ 3 * (r0.length - k + 1) ∧ r0.length - k + 1 ≤ 3 * (k + 1)) ∧ ρ' = [some (.r st), some (.d (.list (i0 :: r0))), y2, y3, some (.d (.int (k : Int)))]) (fun N hN => ?_) (fun ρ' M' c => ?_)
  · decreasing_trivial_pre_omega
    have fin : ∀ z : Int, 0 ≤ z → z ≤ r0.length → z + 1 ≤ 3 * (r0.length - z + 1) → r0.length - z + 1 ≤ 3 * (z + 1) → ∀ y2 y3, N [some (.r st), some (.d (.list (i0 :: r0))), y2, y3, some (.d (.int z))] M := fun z z0 z1 z2 z3 y2 y3 => by
      obtain ⟨k, rfl⟩ : ∃ k : Nat, z = k := ⟨z.toNat, by omega⟩
      exact hN _ _ ⟨rfl, y2, y3, k, ⟨by omega, by omega, by omega⟩, rfl⟩
    refine IfB.d (fun c => ?_) (fun c => ?_)
    · decreasing_trivial_pre_omega
      intro t t0 t1
      decreasing_trivial_pre_omega
      refine IfB.d (fun c2 => ?_) (fun c2 => ?_)
      · decreasing_trivial_pre_omega
        intro m m0 m1
        decreasing_trivial_pre_omega
        exact fin _ (by omega) (by omega) (by omega) (by omega) _ _
      · decreasing_trivial_pre_omega
        exact fin _ (by omega) (by omega) (by omega) (by omega) _ _
    · decreasing_trivial_pre_omega
      exact fin _ (by omega) (by omega) (by omega) (by omega) _ _
  · obtain ⟨rfl, y2, y3, k, ⟨k1, k2, k3⟩, rfl⟩ := c
    rw [el2] at hl1 hl2
    have small : ∀ c : Nat, 4 * (c + 1) ≤ 3 * (r0.length + 1 + 1) → 3 ^ n * (c + 1) < 4 ^ n := fun c hc => by
      rw [Nat.pow_succ, Nat.pow_succ] at hl1
      have h5 : 3 ^ n * (4 * (c + 1)) ≤ 3 ^ n * (3 * (r0.length + 1 + 1)) := Nat.mul_le_mul_left _ hc
      have e1 : 3 ^ n * (4 * (c + 1)) = 4 * (3 ^ n * (c + 1)) := by rw [← Nat.mul_assoc, Nat.mul_comm (3 ^ n) 4, Nat.mul_assoc]
      have e2 : 3 ^ n * (3 * (r0.length + 1 + 1)) = 3 ^ n * 3 * (r0.length + 1 + 1) := by rw [Nat.mul_assoc]
      rw [e1, e2] at h5
      omega
    decreasing_trivial_pre_omega
    rw [cut_to]
    refine ⟨⟨hM, small _ (by rw [List.length_take, el2]; omega), by rw [List.length_take, el2]; omega⟩, fun l hl => ?_⟩
    have hk : k < (i0 :: r0).length := by omega
    decreasing_trivial
    refine gO_i (a := W.d ((i0 :: r0)[k]'hk)) (atI_nat (by rw [List.getElem?_map, List.getElem?_eq_getElem hk]; rfl)) ?_
    decreasing_trivial
    rw [cut_from1]
    refine ⟨⟨hM, small _ (by rw [List.length_drop, el2]; omega), by rw [List.length_drop, el2]; omega⟩, fun rt hrt => ?_⟩
    decreasing_trivial_pre_omega
    have := Is.node (x := (i0 :: r0)[k]'hk) hl hrt ⟨by rw [List.length_take, List.length_drop, el2]; omega, by rw [List.length_take, List.length_drop, el2]; omega⟩
    rw [← List.drop_eq_getElem_cons hk, List.take_append_drop] at this
    exact h3 _ this
theorem ok_madeT {f : Addr} {fd : FuncData} {j : Nat} (F : Fun K "_law_made" "_law_made" sMade f fd) (mF : mg "_law_made" = some (.ref f)) (U_law_take : Use P w K mg base "_law_take" ["_law_state", "_law_below"] j (spD K 2 (tfNext false))) (U_law_over : Use P w K mg base "_law_over" ["_law_left", "_law_item_here", "_law_right"] j (spD K 3 tfKnit)) (T : Bl mg) : ∀ n, FnOk P w K mg base CX0 (j + n) f fd ["_law_state", "_law_items_here"] (spD K 2 (tfMadeT n))
  | 0 => no0 fun ws M R RX h => by
    obtain ⟨x, y, rfl, h1⟩ := g2_of h
    obtain ⟨st, rfl, h2⟩ := gR_of h1
    obtain ⟨its, rfl, ⟨_, h, _⟩, _⟩ := gL_of h2
    rw [Nat.pow_zero] at h
    omega
  | n + 1 => ok_madeT1 F ⟨f, fd, ok_madeT F mF U_law_take U_law_over T n, mF, F.kp, F.binds (ps := ["_law_state", "_law_items_here"]) fun _ _ _ _ _ _ us hl => match us, hl with | [_, _], _ => rfl⟩ U_law_take U_law_over T
end
end Tl

set_option Elab.async false
set_option linter.all false
set_option maxRecDepth 100000
set_option maxHeartbeats 8000000
namespace Tl
open PySem L2 RZ
local macro_rules
  | `(tactic| decreasing_trivial) => `(tactic| ((with_reducible (conv => whnf)); (repeat ((first | (with_reducible refine gDs_c ?_) | (with_reducible refine gDs_n ?_) | (with_reducible refine gNs_c ?_) | (with_reducible refine gNs_n ?_) | (with_reducible refine gO_i tyAny_lt ?_) | (with_reducible refine gIs_c ?_) | (with_reducible refine gIs_n ?_) | (with_reducible refine gBs_c ?_) | (with_reducible refine gBs_n ?_) | (with_reducible refine gSs_c ?_) | (with_reducible refine gSs_n ?_) | (with_reducible refine gO_i tyIs_int ?_) | (with_reducible refine gO_i tyIs_bool ?_) | (with_reducible refine gO_i tyIs_str ?_) | (with_reducible refine gO_i tyIs_tuple ?_) | (with_reducible refine gO_i tyIs_list ?_) | (with_reducible refine gDs_i ?_) | (with_reducible refine gO_i (Eq.refl _) ?_) | (with_reducible refine gO_i (by assumption) ?_) | (with_reducible refine gO_i at_0 ?_) | (with_reducible refine gO_i at_m0 ?_) | (with_reducible refine gO_i at_1 ?_) | (with_reducible refine gO_i at_m1 ?_) | (with_reducible refine gO_i at_2 ?_) | (with_reducible refine gO_i at_m2 ?_) | (with_reducible refine gO_i at_3 ?_) | (with_reducible refine gO_i at_m3 ?_) | (with_reducible refine gO_i at_4 ?_) | (with_reducible refine gO_i at_m4 ?_) | (with_reducible refine gO_i at_5 ?_) | (with_reducible refine gO_i at_m5 ?_) | (with_reducible refine gO_i at_6 ?_) | (with_reducible refine gO_i at_m6 ?_) | (with_reducible refine gO_i at_7 ?_) | (with_reducible refine gO_i at_m7 ?_) | (with_reducible refine IfB.ngf ?_) | (with_reducible refine IfB.ngt ?_) | (with_reducible refine IfB.not ?_) | (with_reducible refine IfB.nil ?_) | (with_reducible refine IfB.nilT ?_) | (with_reducible refine IfB.f isE_c ?_) | (with_reducible refine IfB.t isE_n ?_) | (with_reducible refine IfB.t ?gha ?_; (case gha => rfl)) | (with_reducible refine IfB.f ?gha ?_; (case gha => rfl)) | (with_reducible refine IfB.t ?gha ?_; (case gha => assumption)) | (with_reducible refine IfB.f ?gha ?_; (case gha => assumption)) | (with_reducible refine IfB.yes (Eq.refl _) ?_) | (with_reducible refine IfB.yes ?gha ?_; (case gha => (first | omega | (simp only [len_c, len_n, List.length_map]; omega)))) | (with_reducible refine IfB.no ?gha ?_; (case gha => (first | omega | (simp only [len_c, len_n, List.length_map]; omega)))) | (with_reducible refine IfB.t ?gha ?_; (case gha => decide +kernel)) | (with_reducible refine IfB.f ?gha ?_; (case gha => decide +kernel))); (with_reducible (conv => whnf))))))
local macro_rules
  | `(tactic| decreasing_trivial_pre_omega) => `(tactic| (decreasing_trivial; (repeat ((first | ((with_reducible refine And.intro ?gha ?_); (case gha => (first | assumption | omega | exact rfl | (exact mset_same) | (exact ⟨_, mset_same⟩) | (exact Exists.intro _ (by first | exact mset_same | assumption | (rw [mset_ne (by assumption)]; first | exact mset_same | assumption))) | (exact sm_of (by omega) (by omega)) | (exact sz1000 (by first | omega | (simp; done) | (simp; omega))) | (exact Or.inl ⟨by decide, by decide⟩) | decide | (simp; done) | (refine ⟨?_, ?_⟩ <;> (first | assumption | omega | exact rfl | (exact mset_same) | (exact ⟨_, mset_same⟩) | (exact Exists.intro _ (by first | exact mset_same | assumption | (rw [mset_ne (by assumption)]; first | exact mset_same | assumption))) | (exact sm_of (by omega) (by omega)) | (exact sz1000 (by first | omega | (simp; done) | (simp; omega))) | (exact Or.inl ⟨by decide, by decide⟩) | decide | (simp; done))) | (refine ⟨?_, ?_, ?_⟩ <;> (first | assumption | omega | exact rfl | (exact mset_same) | (exact ⟨_, mset_same⟩) | (exact Exists.intro _ (by first | exact mset_same | assumption | (rw [mset_ne (by assumption)]; first | exact mset_same | assumption))) | (exact sm_of (by omega) (by omega)) | (exact sz1000 (by first | omega | (simp; done) | (simp; omega))) | (exact Or.inl ⟨by decide, by decide⟩) | decide | (simp; done))) | (refine ⟨?_, ?_, ?_, ?_⟩ <;> (first | assumption | omega | exact rfl | (exact mset_same) | (exact ⟨_, mset_same⟩) | (exact Exists.intro _ (by first | exact mset_same | assumption | (rw [mset_ne (by assumption)]; first | exact mset_same | assumption))) | (exact sm_of (by omega) (by omega)) | (exact sz1000 (by first | omega | (simp; done) | (simp; omega))) | (exact Or.inl ⟨by decide, by decide⟩) | decide | (simp; done)))))) | (with_reducible refine exW (by first | exact mset_same | assumption | (rw [mset_ne (by assumption)]; first | exact mset_same | assumption)) ?_)); decreasing_trivial))))
theorem sub_mset {M M' : Mem} {p : Addr} {u : MO} (h : ∀ a o, M a = some o → M' a = some o) (hp : M p = none) : ∀ a o, M a = some o → mset M' p u a = some o := fun a o e => by
  have : a ≠ p := fun z => by rw [z, hp] at e; cases e
  rw [mset_ne this]
  exact h a o e
theorem sub_none {M M' : Mem} {p : Addr} (h : ∀ a o, M a = some o → M' a = some o) (hp : M' p = none) : M p = none := none_less h hp
theorem mnI_2 {a b : Int} : mnI [a, b] = min a b := rfl
theorem mxI_2 {a b : Int} : mxI [a, b] = max a b := rfl
theorem bad_tie {e : PyData} (n1 : ∀ l it rt c, e ≠ .tuple [l, it, rt, c]) (n2 : e ≠ .none) : isTup e = false ∨ ∃ ds, e = .tuple ds ∧ ds.length ≠ 4 := by
  cases e with
  | tuple ds =>
    refine .inr ⟨ds, rfl, fun h => ?_⟩
    match ds, h with
    | [a, b, c, d], _ => exact n1 _ _ _ _ rfl
  | none => exact absurd rfl n2
  | _ => exact .inl rfl
@[reducible] def tfIsEven : TF := fun ws M R _ => g1 ws fun x => gD x fun d => (txt d = true ∧ d.depth < 70) ∧ R (.d (.bool (evenT d))) M
section
variable {P : Program} {w : World} {K : PySem.W.Frag} {mg : Str → Option Value} {base : Heap}
abbrev sIsEvenL : Stmt := top 49
theorem scIsEvenL : FnScope ["_law_thing", "_law_heap", "_law_tie", "_law_counts", "_law_one", "_law_told", "_law_count_here"] ["_law_thing"] (defScope sIsEvenL) := ⟨rfl, rfl, rfl, by decide +kernel, rfl, by decide +kernel, by decide +kernel⟩
theorem ok_isEvenL {f : Addr} {fd : FuncData} {k j : Nat} (F : Fun K "_law_is_even" "_law_is_even" sIsEvenL f fd) (U_law_is_item : Use P w K mg base "_law_is_item" ["_law_thing"] j (spD K 1 tfItemL)) (U_law_count : Use P w K mg base "_law_count" ["_law_tie"] j (spD K 1 tfCnt)) (hj : j ≤ k) (T : Bl mg) (mMin : mg "min" = none) : FnOk P w K mg base CX0 (k + 1) f fd ["_law_thing"] (spD K 1 tfIsEven) := by
  refine okDL F scIsEvenL rfl fun cdv A outer s H E hr => ?_
  refine ⟨_, _, (pss_cons (ps_set (i := 1) scIsEvenL.nd rfl (.inl rfl) (pe_lst (pa_cons (pv 0) pa_nil)))
    (pss_cons (ps_while PassesOwn.never (pt_cmpR (op_neN hr.units) (pv 1) (pe_lst pa_nil) (nomark _)) (pss_cons (ps_set (i := 2) scIsEvenL.nd rfl (.inl rfl) (pe_bm0 PySem.F.plainAttrs_list PySem.F.slot_list_pop PySem.F.type_list_pop mt_pop (pv 1)))
      (pss_one (ps_if (pt_cmpR op_notN (pv 2) pe_non (nomark _)) (pss_cons (ps_if (PW.pt (pw_or (pt_not (pt_val (pe_callB (r := rIsi K) call_isi (by rfl) T.isi PyProof.Rows.boot_isinstance (pa_cons (pv 2) (pa_cons (b_tuple T) pa_nil))))) (pw_or (pt_cmpR op_ne (pe_callB call_len_seq (by rfl) T.len PySem.boot_len (pa_cons (pv 2) pa_nil)) pe_int (nomark _)) (pw_or1 (pt_not (pt_val (pe_call U_law_is_item.ok (hr.mono (by omega)) rfl U_law_is_item.m U_law_is_item.kp U_law_is_item.b .nil pass0 (pa_cons (pe_ix ix_tup (pv 2) pe_int (fun _ _ => rfl)) pa_nil)))))))) (pss_one (ps_ret pe_bl)) pss_nil)
        (pss_cons (ps_set (i := 3) scIsEvenL.nd rfl (.inl rfl) (pe_lst pa_nil))
        (pss_cons (ps_for PassesOwn.never rfl (pi_list (pe_lst (pa_cons (pe_ix ix_tup (pv 2) pe_int (fun _ _ => rfl)) (pa_cons (pe_ix ix_tup (pv 2) pe_int (fun _ _ => rfl)) pa_nil)))) (pg_name (i := 4) scIsEvenL.nd rfl (.inl rfl)) (pss_cons (ps_if (PW.pt (pw_and (pt_cmpR op_notN (pv 4) pe_non (nomark _)) (pw_and1 (PW.pt (pw_or (pt_not (pt_val (pe_callB (r := rIsi K) call_isi (by rfl) T.isi PyProof.Rows.boot_isinstance (pa_cons (pv 4) (pa_cons (b_tuple T) pa_nil))))) (pw_or1 (pt_cmpR op_ne (pe_callB call_len_seq (by rfl) T.len PySem.boot_len (pa_cons (pv 4) pa_nil)) pe_int (nomark _)))))))) (pss_one (ps_ret pe_bl)) pss_nil)
          (pss_one (ps_expr (pe_bm PySem.F.plainAttrs_list PySem.F.slot_list_append PySem.F.type_list_append mt_append (pv 3) (pa_cons (pe_call U_law_count.ok (hr.mono (by omega)) rfl U_law_count.m U_law_count.kp U_law_count.b .nil pass0 (pa_cons (pv 4) pa_nil)) pa_nil))))))
        (pss_cons (ps_setLc (i := 5) (own := [("_law_count_here", 6)]) (g := gName 6) (by rfl) scIsEvenL.nd rfl rfl (sw_true rfl rfl rfl (by decide +kernel)) (pi_list (pe_op op_cat (pv 3) (pe_lst (pa_cons (pe_ix ix_tup (pv 2) pe_int (fun _ _ => rfl)) pa_nil)))) (blkOk_by (N := ["_law_thing", "_law_heap", "_law_tie", "_law_counts", "_law_one", "_law_told", "_law_count_here"]) (sc := defScope sIsEvenL) (own := [("_law_count_here", 6)]) (by decide +kernel)) (fun _ _ _ _ _ => pg_name (i := 6) scIsEvenL.nd rfl (Or.inl rfl)) (fun _ _ _ _ _ => (pts_one (PW.pt (pw_or (pt_not (pt_val (pe_callB (r := rIsi K) call_isi (by rfl) T.isi PyProof.Rows.boot_isinstance (pa_cons (pv 6) (pa_cons (b_int T) pa_nil))))) (pw_or1 (pt_val (pe_callB (r := rIsi K) call_isi (by rfl) T.isi PyProof.Rows.boot_isinstance (pa_cons (pv 6) (pa_cons (b_bool T) pa_nil))))))))) (fun _ _ _ _ _ => (pv 6)))
        (pss_cons (ps_if (PW.pt (pw_or (pt_cmpR (op_neN hr.units) (pv 5) (pe_lst pa_nil) (nomark _)) (pw_or (pt_cmpR op_lt (pe_callB (cr_min rfl) (by rfl) mMin PyProof.Rows.boot_min (pa_cons (pv 3) pa_nil)) pe_int (nomark _)) (pw_or1 (pt_cmpR op_ne (pe_ix ix_tup (pv 2) pe_int (fun _ _ => rfl)) (pe_op op_add (pe_op op_add (pe_ix ix_list (pv 3) pe_int (fun _ _ => rfl)) (pe_ix ix_list (pv 3) pe_int (fun _ _ => rfl))) pe_int) (nomark _)))))) (pss_one (ps_ret pe_bl)) pss_nil)
        (pss_cons (ps_if (pt_cmpR op_gt (pe_op op_add (pe_callB (cr_max rfl) (by rfl) T.max PyProof.Rows.boot_max (pa_cons (pv 3) pa_nil)) pe_int) (pe_op op_mul pe_int (pe_op op_add (pe_callB (cr_min rfl) (by rfl) mMin PyProof.Rows.boot_min (pa_cons (pv 3) pa_nil)) pe_int)) (nomark _)) (pss_one (ps_ret pe_bl)) pss_nil)
        (pss_one (ps_expr (pe_bm PySem.F.plainAttrs_list PySem.F.slot_list_extend PySem.F.type_list_extend mt_extend (pv 1) (pa_cons (pe_lst (pa_cons (pe_ix ix_tup (pv 2) pe_int (fun _ _ => rfl)) (pa_cons (pe_ix ix_tup (pv 2) pe_int (fun _ _ => rfl)) pa_nil))) pa_nil)))))))))) pss_nil))))
    (pss_one (ps_ret (pe_cmpR op_le (pe_call U_law_count.ok (hr.mono (by omega)) rfl U_law_count.m U_law_count.kp U_law_count.b .nil pass0 (pa_cons (pv 0) pa_nil)) pe_int (nomark _)))))),
    (ss_cons (ss_set (se_lst (sa_cons se_nm sa_nil)))
    (ss_cons (ss_while (st_test (se_op so_neN se_nm (se_lsf sa_nil))) (ss_cons (ss_set (se_pop se_nm))
      (ss_if (st_test (se_op so_notN se_nm se_non)) (ss_cons (ss_if (st_or (st_not (st_val (se_cb sc_isi (sa_cons se_nm (sa_cons se_o sa_nil))))) (st_or (st_test (se_op so_neS (se_cb sc_len (sa_cons se_nm sa_nil)) se_int)) (st_not (st_val (se_call (sa_cons (se_op so_ixT se_nm se_int) sa_nil)))))) (ss_ret se_bl) ss_nil)
        (ss_cons (ss_set (se_lst sa_nil))
        (ss_cons (ss_for (si_lst (se_lsf (sa_cons (se_op so_ixT se_nm se_int) (sa_cons (se_op so_ixT se_nm se_int) sa_nil)))) sg_name (ss_cons (ss_if (st_and (st_test (se_op so_notN se_nm se_non)) (st_or (st_not (st_val (se_cb sc_isi (sa_cons se_nm (sa_cons se_o sa_nil))))) (st_test (se_op so_neS (se_cb sc_len (sa_cons se_nm sa_nil)) se_int)))) (ss_ret se_bl) ss_nil)
          (ss_drop (se_bmL sm_append se_nm (sa_cons (se_call (sa_cons se_nm sa_nil)) sa_nil)))))
        (ss_cons (ss_set (se_lcF (si_lst (se_op so_catF se_nm (se_lsf (sa_cons (se_op so_ixT se_nm se_int) sa_nil)))) sg_name (st_or (st_not (st_val (se_cb sc_isi (sa_cons se_nm (sa_cons se_o sa_nil))))) (st_val (se_cb sc_isi (sa_cons se_nm (sa_cons se_o sa_nil))))) se_nm))
        (ss_cons (ss_if (st_or (st_test (se_op so_neN se_nm (se_lsf sa_nil))) (st_or (st_test (se_op so_lt (se_cb sc_min (sa_cons se_nm sa_nil)) se_int)) (st_test (se_op so_neS (se_op so_ixT se_nm se_int) (se_op so_add (se_op so_add (se_op so_ixL se_nm se_int) (se_op so_ixL se_nm se_int)) se_int))))) (ss_ret se_bl) ss_nil)
        (ss_cons (ss_if (st_test (se_op so_gt (se_op so_add (se_cb sc_max (sa_cons se_nm sa_nil)) se_int) (se_op so_mul se_int (se_op so_add (se_cb sc_min (sa_cons se_nm sa_nil)) se_int)))) (ss_ret se_bl) ss_nil)
        (ss_drop (se_bmL sm_extend se_nm (sa_cons (se_lsf (sa_cons (se_op so_ixT se_nm se_int) (sa_cons (se_op so_ixT se_nm se_int) sa_nil))) sa_nil))))))))) ss_nil)))
    (ss_ret (se_op so_le (se_call (sa_cons se_nm sa_nil)) se_int)))), fun ws M R RX hl h => ?_⟩
  obtain ⟨x, rfl, h1⟩ := g1_of h
  obtain ⟨d, rfl, ⟨htx, hdp⟩, h2⟩ := gD_of h1
  have h3 : evenT d = (evn 70 d && decide (ivI (cntW d) ≤ 1000)) := even_evn
  rw [h3] at h2
  clear h h1 h3
  have h0 : ∀ j e, [d][j]? = some e → txt e = true ∧ e.depth + j < 70 := fun j e he => by
    match j, he with
    | 0, he => cases he; exact ⟨htx, by omega⟩
  simp only [start0, len_c, len_n, map_c, map_n, app_c, app_n, rep_0, rep_s, Nat.reduceAdd, Nat.reduceSub]
  decreasing_trivial_pre_omega
  intro p hp
  decreasing_trivial_pre_omega
  refine ⟨fun m ρ M' => ∃ hs : List PyData, m = (hs.map sizeOf).sum ∧ (∀ a o, M a = some o → M' a = some o) ∧ M' p = some (.lst (hs.map W.d)) ∧ evn 70 d = hs.all (evn 70) ∧ (∀ j e, hs[j]? = some e → txt e = true ∧ e.depth + j < 70) ∧ ∃ y2 y3 y4 y5 y6, ρ = [some (.d d), some (.r p), y2, y3, y4, y5, y6], ⟨_, [d], rfl, sub_mset (fun a o h => h) hp, mset_same, by simp, h0, _, _, _, _, _, rfl⟩, fun m ρ M' hI => ?_⟩
  obtain ⟨hs, rfl, hsub, hMp, hev, hgood, y2, y3, y4, y5, y6, rfl⟩ := hI
  rcases List.eq_nil_or_concat hs with rfl | ⟨hs, e, rfl⟩
  · rw [show evn 70 d = true by rw [hev]; rfl, Bool.true_and] at h2
    obtain ⟨t1, a, ea⟩ := evn_ok (n := 70) (d := d) (by rw [hev]; rfl)
    rw [ea] at h2
    decreasing_trivial_pre_omega
    refine ⟨?_, ?_⟩
    · rcases tie_cases d with h | h | ⟨n1, n2⟩
      · exact .inl h
      · exact .inr h
      · rw [(tie4 n1 n2).2.2] at t1; cases t1
    · rw [ea]
      decreasing_trivial_pre_omega
      exact ⟨M, hsub, h2⟩
  · rw [List.concat_eq_append] at hMp hev hgood ⊢
    obtain ⟨gt, gdp⟩ := hgood hs.length e (by simp)
    have hgood' : ∀ j e, hs[j]? = some e → txt e = true ∧ e.depth + j < 70 := fun j x hx => hgood j x (by rw [List.getElem?_append_left (List.getElem?_eq_some_iff.mp hx).1]; exact hx)
    have hln : hs.length ≤ 70 := by omega
    have hF : evn 70 e = false → R (.d (.bool false)) M := fun h => by
      rw [hev, List.all_append, List.all_cons, h, Bool.false_and, Bool.and_false, Bool.false_and] at h2
      exact h2
    have hMp' := hMp
    rw [List.map_append] at hMp'
    decreasing_trivial_pre_omega
    refine IfB.f (by simp) ?_
    decreasing_trivial_pre_omega
    refine ⟨hs.map W.d, .d e, hMp', ?_⟩
    have hsub2 : ∀ a o, M a = some o → mset M' p (.lst (hs.map W.d)) a = some o := sub_mset hsub hp
    rcases tie_cases e with rfl | ⟨l, it, rt, c, rfl⟩ | ⟨n1, n2⟩
    · decreasing_trivial_pre_omega
      refine ⟨_, ?_, hs, rfl, hsub2, mset_same, ?_, hgood', _, _, _, _, _, rfl⟩
      · rw [List.map_append, List.sum_append]
        show _ < _ + (sizeOf PyData.none + 0)
        simp
      · rw [hev, List.all_append]
        simp [evn]
    · rw [txt] at gt
      have tl := txtAll_get (i := 0) gt rfl
      have ti := txtAll_get (i := 1) gt rfl
      have tr := txtAll_get (i := 2) gt rfl
      simp only [PyData.depth, PyData.depthAll] at gdp
      have hE : evn 70 (.tuple [l, it, rt, c]) = (locT l it rt c && (evn 70 l && evn 70 rt)) := by
        show evn (69 + 1) _ = _
        rw [evn, ← evn_succ (d := l) (n := 69) (by omega), ← evn_succ (d := rt) (n := 69) (by omega)]
      decreasing_trivial_pre_omega
      cases hi : isItem it
      · decreasing_trivial_pre_omega
        exact ⟨M, hsub2, hF (by rw [hE]; simp [locT, hi])⟩
      · decreasing_trivial_pre_omega
        intro q hq
        have hqM : M q = none := sub_none hsub2 hq
        have qp : q ≠ p := fun z => by rw [z, mset_same] at hq; cases hq
        have pq : p ≠ q := fun z => qp z.symm
        decreasing_trivial_pre_omega
        refine for1 (f := W.d) (xs := [l, rt]) (fun i ρ M3 => (∀ a o, M a = some o → M3 a = some o) ∧ M3 p = some (.lst (hs.map W.d)) ∧ M3 q = some (.lst ((([l, rt].take i).map cntW).map W.d)) ∧ (∀ x ∈ [l, rt].take i, tieOk x = true) ∧ ∃ z4, ρ = [some (.d d), some (.r p), some (.d (.tuple [l, it, rt, c])), some (.r q), z4, y5, y6]) ⟨sub_mset hsub2 hqM, by rw [mset_ne pq]; exact mset_same, mset_same, fun x hx => by simp at hx, _, rfl⟩ (fun _ _ _ _ _ => trivial) (fun i a ρ M3 N ha c3 hN => ?_) (fun ρ M3 c3 => ?_)
        · obtain ⟨hs3, hp3, hq3, ht3, z4, rfl⟩ := c3
          have hi2 : i < 2 := (List.getElem?_eq_some_iff.mp ha).1
          have hok : tieOk a = true → (∀ x ∈ [l, rt].take (i + 1), tieOk x = true) := fun h x hx => by
            rw [List.take_add_one, ha] at hx
            rcases List.mem_append.mp hx with hx | hx
            · exact ht3 x hx
            · rw [List.mem_singleton.mp hx]; exact h
          have hno : tieOk a = false → evn 70 (.tuple [l, it, rt, c]) = false := fun h => by
            rw [hE]
            match i, ha, hi2 with
            | 0, ha, _ => cases ha; simp [locT, h]
            | 1, ha, _ => cases ha; simp [locT, h]
          have hap : ∀ M4, mset M3 q (.lst ((([l, rt].take i).map cntW).map W.d ++ [W.d (cntW a)])) = M4 → M4 = mset M3 q (.lst ((([l, rt].take (i + 1)).map cntW).map W.d)) := fun M4 e => by
            rw [← e, List.take_add_one, ha, List.map_append, List.map_append]
            rfl
          have hend : tieOk a = true → ∀ z, N [some (.d d), some (.r p), some (.d (.tuple [l, it, rt, c])), some (.r q), z, y5, y6] (mset M3 q (.lst ((([l, rt].take i).map cntW).map W.d ++ [W.d (cntW a)]))) := fun h z => by
            rw [hap _ rfl]
            exact hN _ _ ⟨sub_mset hs3 hqM, by rw [mset_ne pq]; exact hp3, mset_same, hok h, _, rfl⟩
          have hlen : ((([l, rt].take i).map cntW).map W.d).length < sizeLine := by
            rw [List.length_map, List.length_map, List.length_take]
            exact small1000 (by omega)
          rcases tie_cases a with rfl | ⟨l2, it2, rt2, c2, rfl⟩ | ⟨n1, n2⟩
          · decreasing_trivial_pre_omega
            exact hend rfl _
          · decreasing_trivial_pre_omega
            exact hend rfl _
          · have hin : isN (W.d a) = some false := by cases a <;> first | rfl | exact absurd rfl n2
            rcases bad_tie n1 n2 with h | ⟨ds, rfl, hl4⟩
            · decreasing_trivial_pre_omega
              exact ⟨M, hs3, hF (hno (tie4 n1 n2).2.2)⟩
            · decreasing_trivial_pre_omega
              exact ⟨M, hs3, hF (hno (tie4 n1 n2).2.2)⟩
        · obtain ⟨hs3, hp3, hq3, ht3, z4, rfl⟩ := c3
          have hq4 : M3 q = some (.lst [W.d (cntW l), W.d (cntW rt)]) := hq3
          have t1 := ht3 l (by simp)
          have t2 := ht3 rt (by simp)
          clear hq3 ht3
          decreasing_trivial_pre_omega
          refine lc1f (f := W.d) (xs := [cntW l, cntW rt, c]) (fun d => !nbI d) W.d trivial (fun a hm Rk Rn k1 k2 => ?_) (sz1000 (by simp)) ?_
          · cases q1 : isInt a <;> cases q2 : isBl a <;> (decreasing_trivial_pre_omega; first | exact k1 (by simp [nbI, q1, q2]) | exact k2 (by simp [nbI, q1, q2]))
          · refine gDs_i ?_
            decreasing_trivial_pre_omega
            cases hnb : (nbI (cntW l) && nbI (cntW rt) && nbI c)
            · refine IfB.f ?_ ?_
              · cases n1 : nbI (cntW l) <;> cases n2 : nbI (cntW rt) <;> cases n3 : nbI c <;> first | (simp [n1, n2, n3]; done) | (rw [n1, n2, n3] at hnb; cases hnb)
              · decreasing_trivial_pre_omega
                exact ⟨M, hs3, hF (by rw [hE]; unfold locT; rw [hnb]; simp)⟩
            · rw [Bool.and_eq_true, Bool.and_eq_true] at hnb
              obtain ⟨⟨n1, n2⟩, n3⟩ := hnb
              refine IfB.t (by simp [n1, n2, n3]) ?_
              obtain ⟨a, ea⟩ := nb_int n1
              obtain ⟨b, eb⟩ := nb_int n2
              obtain ⟨i, rfl⟩ := nb_int n3
              rw [ea, eb] at hq4
              have hL : locT l it rt (.int i) = (decide (0 ≤ min a b) && decide (i = a + b + 1) && decide (max a b + 1 ≤ 3 * (min a b + 1))) := by
                unfold locT
                rw [hi, t1, t2, ea, eb]
                rfl
              decreasing_trivial_pre_omega
              rw [mnI_2]
              refine IfB.d (fun c1 => ?_) (fun c1 => ?_)
              · decreasing_trivial_pre_omega
                exact ⟨M, hs3, hF (by rw [hE, hL, decide_eq_false (p := 0 ≤ min a b) (by omega)]; simp)⟩
              · decreasing_trivial_pre_omega
                refine IfB.d (fun c2 => ?_) (fun c2 => ?_)
                · decreasing_trivial_pre_omega
                  rw [mxI_2, mnI_2]
                  refine IfB.d (fun c3 => ?_) (fun c3 => ?_)
                  · decreasing_trivial_pre_omega
                    exact ⟨M, hs3, hF (by rw [hE, hL, decide_eq_false (p := max a b + 1 ≤ 3 * (min a b + 1)) (by omega)]; simp)⟩
                  · decreasing_trivial_pre_omega
                    refine ⟨_, ?_, hs ++ [l, rt], rfl, sub_mset hs3 hp, ?_, ?_, fun j x hx => ?_, _, _, _, _, _, rfl⟩
                    · simp only [List.map_append, List.sum_append, List.map_cons, List.map_nil, List.sum_cons, List.sum_nil, PyData.tuple.sizeOf_spec, List.cons.sizeOf_spec]
                      omega
                    · rw [List.map_append]; exact mset_same
                    · rw [hev, List.all_append, List.all_append, List.all_cons, hE, hL, decide_eq_true (p := 0 ≤ min a b) (by omega), decide_eq_true c2, decide_eq_true (p := max a b + 1 ≤ 3 * (min a b + 1)) (by omega)]
                      simp
                    · by_cases hj : j < hs.length
                      · exact hgood' j x (by rw [List.getElem?_append_left hj] at hx; exact hx)
                      · rw [List.getElem?_append_right (by omega)] at hx
                        obtain ⟨q1, q2⟩ := List.getElem?_eq_some_iff.mp hx
                        have q3 : j - hs.length = 0 ∨ j - hs.length = 1 := by simp at q1; omega
                        rcases q3 with q3 | q3
                        · rw [q3] at hx; cases hx; exact ⟨tl, by omega⟩
                        · rw [q3] at hx; cases hx; exact ⟨tr, by omega⟩
                · decreasing_trivial_pre_omega
                  exact ⟨M, hs3, hF (by rw [hE, hL, decide_eq_false (p := i = a + b + 1) c2]; simp)⟩
    · have hin : isN (W.d e) = some false := by cases e <;> first | rfl | exact absurd rfl n2
      rcases bad_tie n1 n2 with h | ⟨ds, rfl, hl4⟩
      · decreasing_trivial_pre_omega
        exact ⟨M, hsub2, hF ((tie4 n1 n2).2.1 70)⟩
      · decreasing_trivial_pre_omega
        exact ⟨M, hsub2, hF ((tie4 n1 n2).2.1 70)⟩
end
end Tl

set_option Elab.async false
set_option linter.all false
set_option maxRecDepth 100000
set_option maxHeartbeats 8000000
namespace Tl
open PySem L2 RZ Tie
local macro_rules
  | `(tactic| decreasing_trivial) => `(tactic| ((with_reducible (conv => whnf)); (repeat ((first | (with_reducible refine gTie_i ?_) | (with_reducible refine gTie_n ?_) | (with_reducible refine gTie_4 ?_) | (with_reducible refine gDs_c ?_) | (with_reducible refine gDs_n ?_) | (with_reducible refine gNs_c ?_) | (with_reducible refine gNs_n ?_) | (with_reducible refine gO_i tyAny_lt ?_) | (with_reducible refine gIs_c ?_) | (with_reducible refine gIs_n ?_) | (with_reducible refine gBs_c ?_) | (with_reducible refine gBs_n ?_) | (with_reducible refine gSs_c ?_) | (with_reducible refine gSs_n ?_) | (with_reducible refine gO_i tyIs_int ?_) | (with_reducible refine gO_i tyIs_bool ?_) | (with_reducible refine gO_i tyIs_str ?_) | (with_reducible refine gO_i tyIs_tuple ?_) | (with_reducible refine gO_i tyIs_list ?_) | (with_reducible refine gDs_i ?_) | (with_reducible refine gO_i (Eq.refl _) ?_) | (with_reducible refine gO_i (by assumption) ?_) | (with_reducible refine gO_i at_0 ?_) | (with_reducible refine gO_i at_m0 ?_) | (with_reducible refine gO_i at_1 ?_) | (with_reducible refine gO_i at_m1 ?_) | (with_reducible refine gO_i at_2 ?_) | (with_reducible refine gO_i at_m2 ?_) | (with_reducible refine gO_i at_3 ?_) | (with_reducible refine gO_i at_m3 ?_) | (with_reducible refine gO_i at_4 ?_) | (with_reducible refine gO_i at_m4 ?_) | (with_reducible refine gO_i at_5 ?_) | (with_reducible refine gO_i at_m5 ?_) | (with_reducible refine gO_i at_6 ?_) | (with_reducible refine gO_i at_m6 ?_) | (with_reducible refine gO_i at_7 ?_) | (with_reducible refine gO_i at_m7 ?_) | (with_reducible refine IfB.ngf ?_) | (with_reducible refine IfB.ngt ?_) | (with_reducible refine IfB.not ?_) | (with_reducible refine IfB.nil ?_) | (with_reducible refine IfB.nilT ?_) | (with_reducible refine IfB.f isE_c ?_) | (with_reducible refine IfB.t isE_n ?_) | (with_reducible refine IfB.t ?gha ?_; (case gha => rfl)) | (with_reducible refine IfB.f ?gha ?_; (case gha => rfl)) | (with_reducible refine IfB.t ?gha ?_; (case gha => assumption)) | (with_reducible refine IfB.f ?gha ?_; (case gha => assumption)) | (with_reducible refine IfB.yes (Eq.refl _) ?_) | (with_reducible refine IfB.yes ?gha ?_; (case gha => (first | omega | (simp only [len_c, len_n, List.length_map]; omega)))) | (with_reducible refine IfB.no ?gha ?_; (case gha => (first | omega | (simp only [len_c, len_n, List.length_map]; omega)))) | (with_reducible refine IfB.t ?gha ?_; (case gha => decide +kernel)) | (with_reducible refine IfB.f ?gha ?_; (case gha => decide +kernel))); (with_reducible (conv => whnf))))))
local macro_rules
  | `(tactic| decreasing_trivial_pre_omega) => `(tactic| (decreasing_trivial; (repeat ((first | ((with_reducible refine And.intro ?gha ?_); (case gha => (first | assumption | omega | exact rfl | (exact mset_same) | (exact ⟨_, mset_same⟩) | (exact Exists.intro _ (by first | exact mset_same | assumption | (rw [mset_ne (by assumption)]; first | exact mset_same | assumption))) | (exact sm_of (by omega) (by omega)) | (exact sz1000 (by first | omega | (simp; done) | (simp; omega))) | (exact Or.inl ⟨by decide, by decide⟩) | decide | (simp; done) | (refine ⟨?_, ?_⟩ <;> (first | assumption | omega | exact rfl | (exact mset_same) | (exact ⟨_, mset_same⟩) | (exact Exists.intro _ (by first | exact mset_same | assumption | (rw [mset_ne (by assumption)]; first | exact mset_same | assumption))) | (exact sm_of (by omega) (by omega)) | (exact sz1000 (by first | omega | (simp; done) | (simp; omega))) | (exact Or.inl ⟨by decide, by decide⟩) | decide | (simp; done))) | (refine ⟨?_, ?_, ?_⟩ <;> (first | assumption | omega | exact rfl | (exact mset_same) | (exact ⟨_, mset_same⟩) | (exact Exists.intro _ (by first | exact mset_same | assumption | (rw [mset_ne (by assumption)]; first | exact mset_same | assumption))) | (exact sm_of (by omega) (by omega)) | (exact sz1000 (by first | omega | (simp; done) | (simp; omega))) | (exact Or.inl ⟨by decide, by decide⟩) | decide | (simp; done))) | (refine ⟨?_, ?_, ?_, ?_⟩ <;> (first | assumption | omega | exact rfl | (exact mset_same) | (exact ⟨_, mset_same⟩) | (exact Exists.intro _ (by first | exact mset_same | assumption | (rw [mset_ne (by assumption)]; first | exact mset_same | assumption))) | (exact sm_of (by omega) (by omega)) | (exact sz1000 (by first | omega | (simp; done) | (simp; omega))) | (exact Or.inl ⟨by decide, by decide⟩) | decide | (simp; done)))))) | (with_reducible refine exW (by first | exact mset_same | assumption | (rw [mset_ne (by assumption)]; first | exact mset_same | assumption)) ?_)); decreasing_trivial))))
structure Cls (K : PySem.W.Frag) (mg : Str → Option Value) where
  c_TreeError : Addr
  c_NoThing : Addr
  c_NoFit : Addr
  c_NoTie : Addr
  c_NoItem : Addr
  m_TreeError : mg "TreeError" = some (.ref c_TreeError)
  m_NoThing : mg "NoThing" = some (.ref c_NoThing)
  m_NoFit : mg "NoFit" = some (.ref c_NoFit)
  m_NoTie : mg "NoTie" = some (.ref c_NoTie)
  m_NoItem : mg "NoItem" = some (.ref c_NoItem)
  e_NoTie : Er K mg "NoTie" c_NoTie
  x_NoTie : ExcC K c_NoTie
  v_NoTie : PySem.W.kitOne K (.ref c_NoTie) (.type "ValueError") = some true
  k_NoTie_TreeError : PySem.W.kitOne K (.ref c_NoTie) (.ref c_TreeError) = some true
  k_NoTie_NoThing : PySem.W.kitOne K (.ref c_NoTie) (.ref c_NoThing) = some true
  k_NoTie_NoFit : PySem.W.kitOne K (.ref c_NoTie) (.ref c_NoFit) = some false
  k_NoTie_NoTie : PySem.W.kitOne K (.ref c_NoTie) (.ref c_NoTie) = some true
  k_NoTie_NoItem : PySem.W.kitOne K (.ref c_NoTie) (.ref c_NoItem) = some false
  h_NoTie_NoTie : PySem.W.exmOne K (.ref c_NoTie) (.ref c_NoTie) = some true
  e_NoItem : ErF K mg "NoItem" "NoItem.__init__" "at" sI_NoItem c_NoItem
  x_NoItem : ExcC K c_NoItem
  v_NoItem : PySem.W.kitOne K (.ref c_NoItem) (.type "ValueError") = some true
  k_NoItem_TreeError : PySem.W.kitOne K (.ref c_NoItem) (.ref c_TreeError) = some true
  k_NoItem_NoThing : PySem.W.kitOne K (.ref c_NoItem) (.ref c_NoThing) = some false
  k_NoItem_NoFit : PySem.W.kitOne K (.ref c_NoItem) (.ref c_NoFit) = some true
  k_NoItem_NoTie : PySem.W.kitOne K (.ref c_NoItem) (.ref c_NoTie) = some false
  k_NoItem_NoItem : PySem.W.kitOne K (.ref c_NoItem) (.ref c_NoItem) = some true
  h_NoItem_NoTie : PySem.W.exmOne K (.ref c_NoItem) (.ref c_NoTie) = some false
@[reducible] def tfDeed : TF := fun ws M R _ => match ws with | [.r st, .d d, .d (.list xs)] => ∃ t, d = toD t ∧ (M st = some (.src false) ∧ IsO t xs) ∧ ∀ t' ys, IsO t' ys → R (.d (.list [toD t', .list ys])) M | _ => False
theorem RefT.of {C : Addr} {t : Tie} {xs : List PyData} {RX : Ex → Mem → Prop} {M : Mem} {k : Tie → Prop} (h : IsO t xs) (q : k t) : RefT C (toD t) RX M k := by
  refine ⟨h.txt, h.dep, fun c => ?_, fun u e g => ?_⟩
  · have e : evenT (toD t) = true := h.even
    rw [e] at c
    cases c
  · rw [← toD_inj e]
    exact q
theorem seatOk.of {C : Addr} {i m : Nat} {RX : Ex → Mem → Prop} {M : Mem} {k : Nat → Prop} (h : i < m) (q : k i) : seatOk C (.int (i : Int)) m RX M k := by
  refine ⟨rfl, fun c => ?_, fun j e _ => ?_⟩
  · have e : isNum ((m : Int) - 1) (.int (i : Int)) = (decide (0 ≤ (i : Int)) && decide ((i : Int) ≤ (m : Int) - 1)) := rfl
    rw [e, decide_eq_true (by omega), decide_eq_true (by omega)] at c
    cases c
  · have : i = j := by injection e with e; omega
    rw [← this]
    exact q
theorem mem_insAt {xs : List PyData} {i : Nat} {it x : PyData} (h : x ∈ insAt xs i it) : x ∈ xs ∨ x = it := by
  unfold insAt at h
  rcases List.mem_append.mp h with h | h
  · exact .inl (List.mem_of_mem_take h)
  · rcases List.mem_cons.mp h with h | h
    · exact .inr h
    · exact .inl (List.mem_of_mem_drop h)
theorem isO_ins {t t' : Tie} {xs : List PyData} {i : Nat} {it : PyData} (h : IsO t xs) (hi : i ≤ xs.length) (hl : xs.length < 1000) (hit : ItOk1 it) (h' : Is t' (insAt (its t) i it)) : IsO t' (xs.take i ++ [it] ++ xs.drop i) := by
  have e : xs.take i ++ [it] ++ xs.drop i = insAt xs i it := by unfold insAt; simp
  rw [h.its] at h'
  rw [e]
  exact ⟨h', fun x hx => (mem_insAt hx).elim (h.ok x) fun z => by rw [z]; exact hit, by rw [insAt_len hi]; omega⟩
theorem isO_out {t t' : Tie} {xs : List PyData} {i : Nat} (h : IsO t xs) (hi : i < xs.length) (h' : Is t' (outAt (its t) i)) : IsO t' (xs.take i ++ xs.drop (i + 1)) := by
  rw [h.its] at h'
  have := outAt_len hi
  have := h.le
  exact ⟨h', fun x hx => (List.mem_append.mp hx).elim (fun z => h.ok x (List.mem_of_mem_take z)) fun z => h.ok x (List.mem_of_mem_drop z), by show (outAt xs i).length ≤ 1000; omega⟩
theorem isO_take {t p : Tie} {xs : List PyData} {i : Nat} (h : IsO t xs) (h' : Is p ((its t).take i)) : IsO p (xs.take i) := by
  rw [h.its] at h'
  have := h.le
  exact ⟨h', fun x hx => h.ok x (List.mem_of_mem_take hx), by rw [List.length_take]; omega⟩
theorem isO_drop {t p : Tie} {xs : List PyData} {i : Nat} (h : IsO t xs) (h' : Is p ((its t).drop i)) : IsO p (xs.drop i) := by
  rw [h.its] at h'
  have := h.le
  exact ⟨h', fun x hx => h.ok x (List.mem_of_mem_drop hx), by rw [List.length_drop]; omega⟩
theorem isO_app {a b t : Tie} {xs ys : List PyData} (ha : IsO a xs) (hb : IsO b ys) (hl : xs.length + ys.length ≤ 1000) (h : Is t (its a ++ its b)) : IsO t (xs ++ ys) := by
  rw [ha.its, hb.its] at h
  exact ⟨h, fun x hx => (List.mem_append.mp hx).elim (ha.ok x) (hb.ok x), by rw [List.length_append]; exact hl⟩
theorem isO_gks {t : Tie} {xs : List PyData} (h : IsO t xs) : Gks 4002000 1 xs := Gks.ofL (n := 1000) (fun x hx => (h.ok x hx).2) h.le (by decide)
section
variable {P : Program} {w : World} {K : PySem.W.Frag} {mg : Str → Option Value} {base : Heap}
abbrev sDeed : Stmt := top 51
theorem scDeed : FnScope ["_law_state", "_law_tie", "_law_items_here", "_law_road", "_law_at", "_law_item_here", "_law_begin", "_law_end"] ["_law_state", "_law_tie", "_law_items_here"] (defScope sDeed) := ⟨rfl, rfl, rfl, by decide +kernel, rfl, by decide +kernel, by decide +kernel⟩
theorem ok_deed {f : Addr} {fd : FuncData} {k j : Nat} (F : Fun K "_law_deed" "_law_deed" sDeed f fd) {C C2 : Addr} (U_law_take : Use P w K mg base "_law_take" ["_law_state", "_law_below"] j (spD K 2 (tfNext false))) (U_law_item : Use P w K mg base "_law_item" ["_law_state"] j (spD K 1 tfItem))
    (Uput_at : UseX P w K mg base "put_at" ["tie", "at", "item"] j (spD K 3 (tfPutAt C C2))) (Uout_at : UseX P w K mg base "out_at" ["tie", "at"] j (spD K 2 (tfOutAt C C2))) (Uparted : UseX P w K mg base "parted" ["tie", "at"] j (spD K 2 (tfParted C C2))) (Utied_both : UseX P w K mg base "tied_both" ["one", "other"] j (spD K 2 (tfTBoth C)))
    (U_law_is_even : Use P w K mg base "_law_is_even" ["_law_thing"] j (spD K 1 tfIsEven)) (U_law_items : Use P w K mg base "_law_items" ["_law_tie"] j (spD K 1 (tfItems 70))) (hj : j ≤ k) (T : Bl mg) : FnOk P w K mg base CX0 (k + 1) f fd ["_law_state", "_law_tie", "_law_items_here"] (spD K 3 tfDeed) := by
  refine okD F scDeed rfl fun cdv A outer s H E hr => ?_
  refine ⟨_, _, (pss_cons (ps_set (i := 3) scDeed.nd rfl (.inl rfl) (pe_call U_law_take.ok (hr.mono (by omega)) rfl U_law_take.m U_law_take.kp U_law_take.b .nil pass0 (pa_cons (pv 0) (pa_cons pe_int pa_nil))))
    (pss_cons (ps_set (i := 4) scDeed.nd rfl (.inl rfl) (pe_call U_law_take.ok (hr.mono (by omega)) rfl U_law_take.m U_law_take.kp U_law_take.b .nil pass0 (pa_cons (pv 0) (pa_cons (pe_op op_add (pe_callB call_len_seq (by rfl) T.len PySem.boot_len (pa_cons (pv 2) pa_nil)) pe_int) pa_nil))))
    (pss_cons (ps_set (i := 5) scDeed.nd rfl (.inl rfl) (pe_call U_law_item.ok (hr.mono (by omega)) rfl U_law_item.m U_law_item.kp U_law_item.b .nil pass0 (pa_cons (pv 0) pa_nil)))
    (pss_cons (ps_if (PW.pt (pw_and (pt_cmpR op_lt (pv 3) pe_int (nomark _)) (pw_and1 (pt_cmpR op_lt (pe_callB call_len_seq (by rfl) T.len PySem.boot_len (pa_cons (pv 2) pa_nil)) pe_int (nomark _))))) (pss_one (ps_ret (pe_lst (pa_cons (pe_callS Uput_at.ok (hr.mono (by omega)) rfl Uput_at.m Uput_at.kp Uput_at.b (fun σ => passAt takes0 σ) (pa_cons (pv 1) (pa_cons (pv 4) (pa_cons (pv 5) pa_nil)))) (pa_cons (pe_op op_cat (pe_op op_cat (pe_slice sl_list (pv 2) po_none (po_some (pv 4))) (pe_lst (pa_cons (pv 5) pa_nil))) (pe_slice sl_list (pv 2) (po_some (pv 4)) po_none)) pa_nil))))) pss_nil)
    (pss_cons (ps_if (PW.pt (pw_and (pt_cmpR op_eq (pv 3) pe_int (nomark _)) (pw_and1 (pt_cmpR op_lt (pv 4) (pe_callB call_len_seq (by rfl) T.len PySem.boot_len (pa_cons (pv 2) pa_nil)) (nomark _))))) (pss_one (ps_ret (pe_lst (pa_cons (pe_callS Uout_at.ok (hr.mono (by omega)) rfl Uout_at.m Uout_at.kp Uout_at.b (fun σ => passAt takes0 σ) (pa_cons (pv 1) (pa_cons (pv 4) pa_nil))) (pa_cons (pe_op op_cat (pe_slice sl_list (pv 2) po_none (po_some (pv 4))) (pe_slice sl_list (pv 2) (po_some (pe_op op_add (pv 4) pe_int)) po_none)) pa_nil))))) pss_nil)
    (pss_cons (ps_asg (pe_callS Uparted.ok (hr.mono (by omega)) rfl Uparted.m Uparted.kp Uparted.b (fun σ => passAt takes0 σ) (pa_cons (pv 1) (pa_cons (pv 4) pa_nil))) (pg_tup rfl (pgs_cons (pg_name (i := 6) scDeed.nd rfl (.inl rfl)) (pgs_cons (pg_name (i := 7) scDeed.nd rfl (.inl rfl)) pgs_nil))))
    (pss_cons (ps_if (PW.pt (pw_or (pt_not (pt_val (pe_call U_law_is_even.ok (hr.mono (by omega)) rfl U_law_is_even.m U_law_is_even.kp U_law_is_even.b .nil pass0 (pa_cons (pv 6) pa_nil)))) (pw_or (pt_not (pt_val (pe_call U_law_is_even.ok (hr.mono (by omega)) rfl U_law_is_even.m U_law_is_even.kp U_law_is_even.b .nil pass0 (pa_cons (pv 7) pa_nil)))) (pw_or1 (pt_cmpR (op_neD hr.units) (pe_call U_law_items.ok (hr.mono (by omega)) rfl U_law_items.m U_law_items.kp U_law_items.b .nil pass0 (pa_cons (pv 6) pa_nil)) (pe_slice sl_list (pv 2) po_none (po_some (pv 4))) (nomark _)))))) (pss_one (ps_ret (pe_lst (pa_cons pe_non (pa_cons (pe_lst (pa_cons pe_non pa_nil)) pa_nil))))) pss_nil)
    (pss_cons (ps_if (pt_cmpR op_eq (pv 3) pe_int (nomark _)) (pss_one (ps_ret (pe_lst (pa_cons (pe_callS Utied_both.ok (hr.mono (by omega)) rfl Utied_both.m Utied_both.kp Utied_both.b (fun σ => passAt takes0 σ) (pa_cons (pv 7) (pa_cons (pv 6) pa_nil))) (pa_cons (pe_op op_cat (pe_slice sl_list (pv 2) (po_some (pv 4)) po_none) (pe_slice sl_list (pv 2) po_none (po_some (pv 4)))) pa_nil))))) pss_nil)
    (pss_one (ps_ret (pe_lst (pa_cons (pe_callS Utied_both.ok (hr.mono (by omega)) rfl Utied_both.m Utied_both.kp Utied_both.b (fun σ => passAt takes0 σ) (pa_cons (pv 6) (pa_cons (pv 7) pa_nil))) (pa_cons (pe_callTy call_list_of (by rfl) T.list PyProof.Rows.boot_list (pa_cons (pv 2) pa_nil)) pa_nil))))))))))))),
    (ss_cons (ss_set (se_call (sa_cons se_nm (sa_cons se_int sa_nil))))
    (ss_cons (ss_set (se_call (sa_cons se_nm (sa_cons (se_op so_add (se_cb sc_len (sa_cons se_nm sa_nil)) se_int) sa_nil))))
    (ss_cons (ss_set (se_call (sa_cons se_nm sa_nil)))
    (ss_cut (ss_if (st_and (st_test (se_op so_lt se_nm se_int)) (st_test (se_op so_lt (se_cb sc_len (sa_cons se_nm sa_nil)) se_int))) (ss_ret (se_lsf (sa_cons (se_callX (sa_cons se_nm (sa_cons se_nm (sa_cons se_nm sa_nil)))) (sa_cons (se_op so_catF (se_op so_catF (se_sl sl_F se_nm sp_no (sp_some se_nm)) (se_lsf (sa_cons se_nm sa_nil))) (se_sl sl_F se_nm (sp_some se_nm) sp_no)) sa_nil)))) ss_nil)
    (ss_cut (ss_if (st_and (st_test (se_op so_eqS se_nm se_int)) (st_test (se_op so_lt se_nm (se_cb sc_len (sa_cons se_nm sa_nil))))) (ss_ret (se_lsf (sa_cons (se_callX (sa_cons se_nm (sa_cons se_nm sa_nil))) (sa_cons (se_op so_catF (se_sl sl_F se_nm sp_no (sp_some se_nm)) (se_sl sl_F se_nm (sp_some (se_op so_add se_nm se_int)) sp_no)) sa_nil)))) ss_nil)
    (ss_cons (ss_unp sg_tup2 (se_callX (sa_cons se_nm (sa_cons se_nm sa_nil))))
    (ss_cut (ss_if (st_or (st_not (st_val (se_call (sa_cons se_nm sa_nil)))) (st_or (st_not (st_val (se_call (sa_cons se_nm sa_nil)))) (st_test (se_op so_neD (se_call (sa_cons se_nm sa_nil)) (se_sl sl_F se_nm sp_no (sp_some se_nm)))))) (ss_ret (se_lsf (sa_cons se_non (sa_cons (se_lsf (sa_cons se_non sa_nil)) sa_nil)))) ss_nil)
    (ss_cons (ss_if (st_test (se_op so_eqS se_nm se_int)) (ss_ret (se_lsf (sa_cons (se_callX (sa_cons se_nm (sa_cons se_nm sa_nil))) (sa_cons (se_op so_catF (se_sl sl_F se_nm (sp_some se_nm) sp_no) (se_sl sl_F se_nm sp_no (sp_some se_nm))) sa_nil)))) ss_nil)
    (ss_ret (se_lsf (sa_cons (se_callX (sa_cons se_nm (sa_cons se_nm sa_nil))) (sa_cons (se_cb sc_listF (sa_cons se_nm sa_nil)) sa_nil)))))))))))), fun ws M R RX hl h => ?_⟩
  match ws, h with
  | [.r st, .d d, .d (.list xs)], h =>
  obtain ⟨t, rfl, ⟨hM, ht⟩, h2⟩ := h
  have hle := ht.le
  have hsz := ht.toIs.sz
  have el : (xs.map W.d).length = xs.length := List.length_map ..
  simp only [start0, len_c, len_n, map_c, map_n, app_c, app_n, rep_0, rep_s, Nat.reduceAdd, Nat.reduceSub]
  decreasing_trivial_pre_omega
  intro road r0 r1
  decreasing_trivial_pre_omega
  intro at_ a0 a1
  obtain ⟨i, rfl⟩ : ∃ i : Nat, at_ = i := ⟨at_.toNat, by omega⟩
  decreasing_trivial_pre_omega
  intro it hit
  decreasing_trivial_pre_omega
  have htx := gd_txt it hit.2.1
  refine seq_cut (fun ρ' M' => M' = M ∧ ρ' = [some (.r st), some (.d (toD t)), some (.d (.list xs)), some (.d (.int road)), some (.d (.int (i : Int))), some (.d it), none, none]) (fun N hN => ?_) (fun ρ' M' c => ?_)
  · decreasing_trivial_pre_omega
    refine IfB.d (fun c1 => ?_) (fun c1 => ?_)
    · decreasing_trivial_pre_omega
      refine IfB.d (fun c2 => ?_) (fun c2 => ?_)
      · decreasing_trivial_pre_omega
        refine RefT.of ht (seatOk.of (by omega) ⟨fun c => ?_, fun _ _ t' ht' => ?_⟩)
        · exfalso
          rcases c with c | c
          · rw [hit.1] at c; cases c
          · omega
        · have fin := h2 t' _ (isO_ins ht (by omega) (by omega) hit ht')
          decreasing_trivial_pre_omega
          rw [cut_to]
          refine ⟨sz1000 (by rw [List.length_take]; simp; omega), ?_⟩
          decreasing_trivial_pre_omega
          rw [cut_from]
          refine ⟨sz1000 (by rw [List.length_append, List.length_take, List.length_drop]; simp; omega), ?_⟩
          decreasing_trivial_pre_omega
          exact fin
      · decreasing_trivial_pre_omega
        exact hN _ _ ⟨rfl, rfl⟩
    · decreasing_trivial_pre_omega
      exact hN _ _ ⟨rfl, rfl⟩
  · obtain ⟨rfl, rfl⟩ := c
    decreasing_trivial_pre_omega
    refine seq_cut (fun ρ' M2 => M2 = M' ∧ ρ' = [some (.r st), some (.d (toD t)), some (.d (.list xs)), some (.d (.int road)), some (.d (.int (i : Int))), some (.d it), none, none]) (fun N hN => ?_) (fun ρ' M2 c => ?_)
    · decreasing_trivial_pre_omega
      refine IfB.d (fun c1 => ?_) (fun c1 => ?_)
      · decreasing_trivial_pre_omega
        refine IfB.d (fun c2 => ?_) (fun c2 => ?_)
        · decreasing_trivial_pre_omega
          refine RefT.of ht (seatOk.of (by omega) fun t' ht' => ?_)
          have fin := h2 t' _ (isO_out ht (by omega) ht')
          decreasing_trivial_pre_omega
          rw [cut_to, cut_from1]
          refine ⟨sz1000 (by rw [List.length_take, List.length_drop]; omega), ?_⟩
          decreasing_trivial_pre_omega
          exact fin
        · decreasing_trivial_pre_omega
          exact hN _ _ ⟨rfl, rfl⟩
      · decreasing_trivial_pre_omega
        exact hN _ _ ⟨rfl, rfl⟩
    · obtain ⟨rfl, rfl⟩ := c
      decreasing_trivial_pre_omega
      refine RefT.of ht (seatOk.of (by omega) fun p q hp hq => ?_)
      have op := isO_take ht hp
      have oq := isO_drop ht hq
      have xp := op.txt
      have dp := op.dep
      have xq := oq.txt
      have dq := oq.dep
      have ep : evenT (toD p) = true := op.even
      have eq' : evenT (toD q) = true := oq.even
      obtain ⟨m, hm⟩ := Option.isSome_iff_exists.mp op.even
      decreasing_trivial_pre_omega
      have zp := op.toIs.sz
      have zq := oq.toIs.sz
      rw [List.length_take] at zp
      rw [List.length_drop] at zq
      refine seq_cut (fun ρ' M3 => M3 = M2 ∧ ρ' = [some (.r st), some (.d (toD t)), some (.d (.list xs)), some (.d (.int road)), some (.d (.int (i : Int))), some (.d it), some (.d (toD p)), some (.d (toD q))]) (fun N hN => ?_) (fun ρ' M3 c => ?_)
      · have g0 := isO_gks op
        have g1 : gd (.list (xs.take i)) = true := by rw [gd]; exact g0.1
        have e0 : eqOk (.list (xs.take i)) = true := gd_eqOk g1 (by rw [PyData.depth]; have := g0.2.2; omega)
        decreasing_trivial_pre_omega
        refine ⟨⟨dp, 1000, m, hm, by decide⟩, ?_⟩
        decreasing_trivial_pre_omega
        rw [op.items, cut_to]
        refine ⟨⟨e0, e0⟩, ?_⟩
        decreasing_trivial_pre_omega
        refine IfB.t (eqv_self _ (gd_nd _ g1)) ?_
        decreasing_trivial_pre_omega
        exact hN _ _ ⟨rfl, rfl⟩
      · obtain ⟨rfl, rfl⟩ := c
        decreasing_trivial_pre_omega
        refine IfB.d (fun c1 => ?_) (fun c1 => ?_)
        · decreasing_trivial_pre_omega
          refine RefT.of oq (RefT.of op ⟨fun c => ?_, fun _ t' ht' => ?_⟩)
          · exfalso; omega
          · have fin := h2 t' _ (isO_app oq op (by rw [List.length_take, List.length_drop]; omega) ht')
            decreasing_trivial_pre_omega
            rw [cut_from, cut_to]
            refine ⟨sz1000 (by rw [List.length_take, List.length_drop]; omega), ?_⟩
            decreasing_trivial_pre_omega
            exact fin
        · decreasing_trivial_pre_omega
          refine RefT.of op (RefT.of oq ⟨fun c => ?_, fun _ t' ht' => ?_⟩)
          · exfalso; omega
          · have := isO_app op oq (by rw [List.length_take, List.length_drop]; omega) ht'
            rw [List.take_append_drop] at this
            have fin := h2 t' _ this
            decreasing_trivial_pre_omega
            exact fin
end
end Tl

set_option Elab.async false
set_option linter.all false
set_option maxRecDepth 100000
set_option maxHeartbeats 8000000
namespace Tl
open PySem L2 RZ Tie
local macro_rules
  | `(tactic| decreasing_trivial) => `(tactic| ((with_reducible (conv => whnf)); (repeat ((first | (with_reducible refine gTie_i ?_) | (with_reducible refine gTie_n ?_) | (with_reducible refine gTie_4 ?_) | (with_reducible refine gDs_c ?_) | (with_reducible refine gDs_n ?_) | (with_reducible refine gNs_c ?_) | (with_reducible refine gNs_n ?_) | (with_reducible refine gO_i tyAny_lt ?_) | (with_reducible refine gIs_c ?_) | (with_reducible refine gIs_n ?_) | (with_reducible refine gBs_c ?_) | (with_reducible refine gBs_n ?_) | (with_reducible refine gSs_c ?_) | (with_reducible refine gSs_n ?_) | (with_reducible refine gO_i tyIs_int ?_) | (with_reducible refine gO_i tyIs_bool ?_) | (with_reducible refine gO_i tyIs_str ?_) | (with_reducible refine gO_i tyIs_tuple ?_) | (with_reducible refine gO_i tyIs_list ?_) | (with_reducible refine gDs_i ?_) | (with_reducible refine gO_i (Eq.refl _) ?_) | (with_reducible refine gO_i (by assumption) ?_) | (with_reducible refine gO_i at_0 ?_) | (with_reducible refine gO_i at_m0 ?_) | (with_reducible refine gO_i at_1 ?_) | (with_reducible refine gO_i at_m1 ?_) | (with_reducible refine gO_i at_2 ?_) | (with_reducible refine gO_i at_m2 ?_) | (with_reducible refine gO_i at_3 ?_) | (with_reducible refine gO_i at_m3 ?_) | (with_reducible refine gO_i at_4 ?_) | (with_reducible refine gO_i at_m4 ?_) | (with_reducible refine gO_i at_5 ?_) | (with_reducible refine gO_i at_m5 ?_) | (with_reducible refine gO_i at_6 ?_) | (with_reducible refine gO_i at_m6 ?_) | (with_reducible refine gO_i at_7 ?_) | (with_reducible refine gO_i at_m7 ?_) | (with_reducible refine IfB.ngf ?_) | (with_reducible refine IfB.ngt ?_) | (with_reducible refine IfB.not ?_) | (with_reducible refine IfB.nil ?_) | (with_reducible refine IfB.nilT ?_) | (with_reducible refine IfB.f isE_c ?_) | (with_reducible refine IfB.t isE_n ?_) | (with_reducible refine IfB.t ?gha ?_; (case gha => rfl)) | (with_reducible refine IfB.f ?gha ?_; (case gha => rfl)) | (with_reducible refine IfB.t ?gha ?_; (case gha => assumption)) | (with_reducible refine IfB.f ?gha ?_; (case gha => assumption)) | (with_reducible refine IfB.yes (Eq.refl _) ?_) | (with_reducible refine IfB.yes ?gha ?_; (case gha => (first | omega | (simp only [len_c, len_n, List.length_map]; omega)))) | (with_reducible refine IfB.no ?gha ?_; (case gha => (first | omega | (simp only [len_c, len_n, List.length_map]; omega)))) | (with_reducible refine IfB.t ?gha ?_; (case gha => decide +kernel)) | (with_reducible refine IfB.f ?gha ?_; (case gha => decide +kernel))); (with_reducible (conv => whnf))))))
local macro_rules
  | `(tactic| decreasing_trivial_pre_omega) => `(tactic| (decreasing_trivial; (repeat ((first | ((with_reducible refine And.intro ?gha ?_); (case gha => (first | assumption | omega | exact rfl | (exact mset_same) | (exact ⟨_, mset_same⟩) | (exact Exists.intro _ (by first | exact mset_same | assumption | (rw [mset_ne (by assumption)]; first | exact mset_same | assumption))) | (exact sm_of (by omega) (by omega)) | (exact sz1000 (by first | omega | (simp; done) | (simp; omega))) | (exact Or.inl ⟨by decide, by decide⟩) | decide | (simp; done) | (refine ⟨?_, ?_⟩ <;> (first | assumption | omega | exact rfl | (exact mset_same) | (exact ⟨_, mset_same⟩) | (exact Exists.intro _ (by first | exact mset_same | assumption | (rw [mset_ne (by assumption)]; first | exact mset_same | assumption))) | (exact sm_of (by omega) (by omega)) | (exact sz1000 (by first | omega | (simp; done) | (simp; omega))) | (exact Or.inl ⟨by decide, by decide⟩) | decide | (simp; done))) | (refine ⟨?_, ?_, ?_⟩ <;> (first | assumption | omega | exact rfl | (exact mset_same) | (exact ⟨_, mset_same⟩) | (exact Exists.intro _ (by first | exact mset_same | assumption | (rw [mset_ne (by assumption)]; first | exact mset_same | assumption))) | (exact sm_of (by omega) (by omega)) | (exact sz1000 (by first | omega | (simp; done) | (simp; omega))) | (exact Or.inl ⟨by decide, by decide⟩) | decide | (simp; done))) | (refine ⟨?_, ?_, ?_, ?_⟩ <;> (first | assumption | omega | exact rfl | (exact mset_same) | (exact ⟨_, mset_same⟩) | (exact Exists.intro _ (by first | exact mset_same | assumption | (rw [mset_ne (by assumption)]; first | exact mset_same | assumption))) | (exact sm_of (by omega) (by omega)) | (exact sz1000 (by first | omega | (simp; done) | (simp; omega))) | (exact Or.inl ⟨by decide, by decide⟩) | decide | (simp; done)))))) | (with_reducible refine exW (by first | exact mset_same | assumption | (rw [mset_ne (by assumption)]; first | exact mset_same | assumption)) ?_)); decreasing_trivial))))
theorem rg_ok {z : Int} (hz : z ≤ 1000) : ∀ x ∈ rgD 0 z, ItOk1 x := fun x hx => by
  unfold rgD at hx
  obtain ⟨i, hi, rfl⟩ := List.mem_map.mp hx
  have := List.mem_range.mp hi
  exact ⟨rfl, (gk_i (by omega) (by omega)).mono (by decide) (Nat.le_refl _)⟩
theorem isO_txt {xs : List PyData} (h : ∀ x ∈ xs, ItOk1 x) : txtAll xs = true := by
  induction xs with
  | nil => rfl
  | cons a r ih =>
    rw [txtAll, gd_txt a (h a (.head _)).2.1, ih fun x hx => h x (.tail _ hx)]
    rfl
theorem tie_sh {t : Tie} {xs : List PyData} (h : IsO t xs) : ((toD t).hasDict = false ∨ toD t = .dict []) ∧ shOk (toD t) := (GdB.of h.gk (by decide) (by decide)).sh
theorem lst_sh {t : Tie} {xs : List PyData} (h : IsO t xs) : ((PyData.list xs).hasDict = false ∨ PyData.list xs = .dict []) ∧ shOk (.list xs) := (GdB.of ((isO_gks h).lst (m' := 4002003) (by decide)) (by decide) (by decide)).sh
theorem it_sh {x : PyData} (h : ItOk1 x) : (x.hasDict = false ∨ x = .dict []) ∧ shOk x := (GdB.of h.2 (by decide) (by decide)).sh
section
variable {P : Program} {w : World} {K : PySem.W.Frag} {mg : Str → Option Value} {base : Heap}
structure Calls (P : Program) (w : World) (K : PySem.W.Frag) (mg : Str → Option Value) (base : Heap) (A : Cls K mg) where
  j : Nat
  hj : j ≤ 200
  tiedL : UseX P w K mg base "tied" ["items"] j (spD K 1 tfTiedL)
  tiedT : UseX P w K mg base "tied" ["items"] j (spD K 1 tfTiedT)
  items_of : UseX P w K mg base "items_of" ["tie"] j (spD K 1 (tfItemsOf A.c_NoTie))
  item_at : UseX P w K mg base "item_at" ["tie", "at"] j (spD K 2 (tfItemAt A.c_NoTie A.c_NoItem))
  take : Use P w K mg base "_law_take" ["_law_state", "_law_below"] j (spD K 2 (tfNext false))
  item : Use P w K mg base "_law_item" ["_law_state"] j (spD K 1 tfItem)
  made : Use P w K mg base "_law_made" ["_law_state", "_law_items_here"] j (spD K 2 (tfMadeT 25))
  lEven : Use P w K mg base "_law_is_even" ["_law_thing"] j (spD K 1 tfIsEven)
  items : Use P w K mg base "_law_items" ["_law_tie"] j (spD K 1 (tfItems 70))
  deed : Use P w K mg base "_law_deed" ["_law_state", "_law_tie", "_law_items_here"] j (spD K 3 tfDeed)
abbrev sLaw : Stmt := top 52
theorem scLaw : FnScope ["_law_script", "_law_state", "_law_many", "_law_items_here", "_law_tie", "_law_turn", "_law_at", "_law_elder", "_law_kept", "_law_k"] ["_law_script"] (defScope sLaw) := ⟨rfl, rfl, rfl, by decide +kernel, rfl, by decide +kernel, by decide +kernel⟩
theorem ok_law {f : Addr} {fd : FuncData} {s : Shared} {H : Hp} {a : Addr} {ns : List Int} (F : Fun K "law" "law" sLaw f fd) (T : Bl mg) {A : Cls K mg} (U : Calls P w K mg base A) (mMin : mg "min" = none) (hlen : ns.length ≤ 63) (hS : SqL K H a (ns.map V.int)) (e0 : Env0 P w K mg base callerA [] s H) :
    codeAny (model P w) callerA (.call (.ref f) ⟨[.ref a], []⟩) (CR CX0 [] P w H s (fun v _ => v = V.bl true) fun _ _ _ => False) s := by
  obtain ⟨j, hj, UtiedL, UtiedT, Uitems_of, Uitem_at, U_law_take, U_law_item, U_law_made, U_law_is_even, U_law_items, U_law_deed⟩ := U
  refine law_at2 (k := 200) (z := 66) F scLaw hlen hS e0 ⟨rfl, by decide, by decide⟩ (F.binds (ps := ["_law_script"]) fun _ _ _ _ _ _ us hl => match us, hl with | [_], _ => rfl) (by decide) (by decide) fun cdv hgu hr => ?_
  have hun : (callerA.deeper (PyProof.Rows.envOfC "law" (defScope sLaw) s.heap.objs.size f cdv)).units + 200 < cLine := by
    have := hr.un
    omega
  refine ⟨_, _, (pss_cons (ps_set (i := 1) scLaw.nd rfl (.inr rfl) (pe_lst (pa_cons (pv 0) (pa_cons pe_int (pa_cons pe_int (pa_cons pe_int pa_nil))))))
    (pss_cons (ps_set (i := 2) scLaw.nd rfl (.inl rfl) (pe_call U_law_take.ok (hr.mono (by omega)) rfl U_law_take.m U_law_take.kp U_law_take.b .nil pass0 (pa_cons (pv 1) (pa_cons pe_int pa_nil))))
    (pss_cons (ps_if (pt_cmpR op_eq (pe_call U_law_take.ok (hr.mono (by omega)) rfl U_law_take.m U_law_take.kp U_law_take.b .nil pass0 (pa_cons (pv 1) (pa_cons pe_int pa_nil))) pe_int (nomark _)) (pss_one (ps_set (i := 2) scLaw.nd rfl (.inl rfl) (pe_op op_add pe_int (pe_call U_law_take.ok (hr.mono (by omega)) rfl U_law_take.m U_law_take.kp U_law_take.b .nil pass0 (pa_cons (pv 1) (pa_cons pe_int pa_nil)))))) pss_nil)
    (pss_cons (ps_set (i := 3) scLaw.nd rfl (.inl rfl) (pe_op op_cat (pe_lc (own := [("_law_k", 9)]) (g := gName 9) (tt := tYes) (by rfl) scLaw.nd (pi_range1 (by rfl) T.range (pa_cons (pe_callB (call_min2 rfl) (by rfl) mMin PyProof.Rows.boot_min (pa_cons (pv 2) (pa_cons pe_int pa_nil))) pa_nil)) (blkOk_by (N := ["_law_script", "_law_state", "_law_many", "_law_items_here", "_law_tie", "_law_turn", "_law_at", "_law_elder", "_law_kept", "_law_k"]) (sc := defScope sLaw) (own := [("_law_k", 9)]) (by decide +kernel)) (fun _ _ _ _ _ => pg_name (i := 9) scLaw.nd rfl (Or.inl rfl)) (fun _ _ _ _ _ => pts_nil) (fun _ _ _ _ _ => (pe_call U_law_item.ok (hr.mono (by omega)) rfl U_law_item.m U_law_item.kp U_law_item.b .nil pass0 (pa_cons (pv 1) pa_nil)))) (pe_listRg rfl (by rfl) T.list (prg_1 (by rfl) T.range (pe_callB (call_max2 rfl) (by rfl) T.max PyProof.Rows.boot_max (pa_cons pe_int (pa_cons (pe_op op_sub (pv 2) pe_int) pa_nil)))))))
    (pss_cons (ps_set (i := 4) scLaw.nd rfl (.inl rfl) (pe_ix ix_list (pe_lst (pa_cons (pe_callS UtiedL.ok (hr.mono (by omega)) rfl UtiedL.m UtiedL.kp UtiedL.b (fun σ => passAt takes0 σ) (pa_cons (pv 3) pa_nil)) (pa_cons (pe_callS UtiedT.ok (hr.mono (by omega)) rfl UtiedT.m UtiedT.kp UtiedT.b (fun σ => passAt takes0 σ) (pa_cons (pe_callTy call_tuple_of (by rfl) T.tuple PyProof.Rows.boot_tuple (pa_cons (pv 3) pa_nil)) pa_nil)) (pa_cons (pe_call U_law_made.ok (hr.mono (by omega)) rfl U_law_made.m U_law_made.kp U_law_made.b .nil pass0 (pa_cons (pv 1) (pa_cons (pv 3) pa_nil))) pa_nil)))) (pe_call U_law_take.ok (hr.mono (by omega)) rfl U_law_take.m U_law_take.kp U_law_take.b .nil pass0 (pa_cons (pv 1) (pa_cons pe_int pa_nil))) (fun _ _ => rfl)))
    (pss_cons (ps_for PassesOwn.never rfl (pi_range1 (by rfl) T.range (pa_cons (pe_ix ix_list (pe_lst (pa_cons pe_int (pa_cons pe_int pa_nil))) (pe_callTy call_int1 (by rfl) T.int PyProof.Rows.boot_int (pa_cons (pe_cmpR op_gt (pv 2) pe_int (nomark _)) pa_nil)) (fun _ _ => rfl)) pa_nil)) (pg_name (i := 5) scLaw.nd rfl (.inl rfl)) (pss_cons (ps_set (i := 7) scLaw.nd rfl (.inl rfl) (pv 4))
      (pss_cons (ps_set (i := 8) scLaw.nd rfl (.inl rfl) (pe_callB (call_reprD hgu hun) (by rfl) T.repr PyProof.Rows.boot_repr (pa_cons (pv 7) pa_nil)))
      (pss_cons (ps_asg (pe_call U_law_deed.ok (hr.mono (by omega)) rfl U_law_deed.m U_law_deed.kp U_law_deed.b .nil pass0 (pa_cons (pv 1) (pa_cons (pv 7) (pa_cons (pv 3) pa_nil)))) (pg_lst rfl (pgs_cons (pg_name (i := 4) scLaw.nd rfl (.inl rfl)) (pgs_cons (pg_name (i := 3) scLaw.nd rfl (.inl rfl)) pgs_nil))))
      (pss_one (ps_if (PW.pt (pw_or (pt_not (pt_val (pe_call U_law_is_even.ok (hr.mono (by omega)) rfl U_law_is_even.m U_law_is_even.kp U_law_is_even.b .nil pass0 (pa_cons (pv 4) pa_nil)))) (pw_or (pt_cmpR op_ne (pe_callB (call_reprD hgu hun) (by rfl) T.repr PyProof.Rows.boot_repr (pa_cons (pe_call U_law_items.ok (hr.mono (by omega)) rfl U_law_items.m U_law_items.kp U_law_items.b .nil pass0 (pa_cons (pv 4) pa_nil)) pa_nil)) (pe_callB (call_reprD hgu hun) (by rfl) T.repr PyProof.Rows.boot_repr (pa_cons (pv 3) pa_nil)) (nomark _)) (pw_or1 (pt_cmpR op_ne (pe_callB (call_reprD hgu hun) (by rfl) T.repr PyProof.Rows.boot_repr (pa_cons (pv 7) pa_nil)) (pv 8) (nomark _)))))) (pss_one (ps_ret pe_bl)) pss_nil))))))
    (pss_cons (ps_for PassesOwn.never rfl (pi_list (pe_lst (pa_cons pe_int (pa_cons (pe_op op_fdivN (pe_callB call_len_seq (by rfl) T.len PySem.boot_len (pa_cons (pv 3) pa_nil)) pe_int) (pa_cons (pe_op op_sub (pe_callB call_len_seq (by rfl) T.len PySem.boot_len (pa_cons (pv 3) pa_nil)) pe_int) pa_nil))))) (pg_name (i := 6) scLaw.nd rfl (.inl rfl)) (pss_one (ps_if (PW.pt (pw_and (pt_chain op_le op_lt pe_int (pv 6) (pe_callB call_len_seq (by rfl) T.len PySem.boot_len (pa_cons (pv 3) pa_nil))) (pw_and1 (pt_cmpR op_ne (pe_callB (call_reprD hgu hun) (by rfl) T.repr PyProof.Rows.boot_repr (pa_cons (pe_callS Uitem_at.ok (hr.mono (by omega)) rfl Uitem_at.m Uitem_at.kp Uitem_at.b (fun σ => passAt takes0 σ) (pa_cons (pv 4) (pa_cons (pv 6) pa_nil))) pa_nil)) (pe_callB (call_reprD hgu hun) (by rfl) T.repr PyProof.Rows.boot_repr (pa_cons (pe_ix ix_list (pv 3) (pv 6) (fun _ _ => rfl)) pa_nil)) (nomark _))))) (pss_one (ps_ret pe_bl)) pss_nil)))
    (pss_one (ps_ret (pe_cmpR op_eq (pe_callB (call_reprD hgu hun) (by rfl) T.repr PyProof.Rows.boot_repr (pa_cons (pe_callS Uitems_of.ok (hr.mono (by omega)) rfl Uitems_of.m Uitems_of.kp Uitems_of.b (fun σ => passAt takes0 σ) (pa_cons (pv 4) pa_nil)) pa_nil)) (pe_callB (call_reprD hgu hun) (by rfl) T.repr PyProof.Rows.boot_repr (pa_cons (pv 3) pa_nil)) (nomark _))))))))))),
    (ss_cons (ss_set (se_call (sa_cons se_nm (sa_cons se_int sa_nil))))
    (ss_cut (ss_if (st_test (se_op so_eqS (se_call (sa_cons se_nm (sa_cons se_int sa_nil))) se_int)) (ss_set (se_op so_add se_int (se_call (sa_cons se_nm (sa_cons se_int sa_nil))))) ss_nil)
    (ss_cons (ss_set (se_op so_catF (se_lcF (si_r1 (sa_cons (se_cb sc_min2 (sa_cons se_nm (sa_cons se_int sa_nil))) sa_nil)) sg_name st_yes (se_call (sa_cons se_nm sa_nil))) (se_lstRg1 (se_cb sc_max2 (sa_cons se_int (sa_cons (se_op so_sub se_nm se_int) sa_nil))))))
    (ss_cons (ss_set (se_op so_ixL (se_lsf (sa_cons (se_callX (sa_cons se_nm sa_nil)) (sa_cons (se_callX (sa_cons (se_cb sc_tuple (sa_cons se_nm sa_nil)) sa_nil)) (sa_cons (se_call (sa_cons se_nm (sa_cons se_nm sa_nil))) sa_nil)))) (se_call (sa_cons se_nm (sa_cons se_int sa_nil)))))
    (ss_cons (ss_for (si_r1 (sa_cons (se_op so_ixL (se_lsf (sa_cons se_int (sa_cons se_int sa_nil))) (se_cb sc_int (sa_cons (se_op so_gt se_nm se_int) sa_nil))) sa_nil)) sg_name (ss_cons (ss_set se_nm)
      (ss_cons (ss_set (se_cb sc_repr (sa_cons se_nm sa_nil)))
      (ss_cons (ss_unp sg_lst2 (se_call (sa_cons se_nm (sa_cons se_nm (sa_cons se_nm sa_nil)))))
      (ss_if (st_or (st_not (st_val (se_call (sa_cons se_nm sa_nil)))) (st_or (st_test (se_op so_neS (se_cb sc_repr (sa_cons (se_call (sa_cons se_nm sa_nil)) sa_nil)) (se_cb sc_repr (sa_cons se_nm sa_nil)))) (st_test (se_op so_neS (se_cb sc_repr (sa_cons se_nm sa_nil)) se_nm)))) (ss_ret se_bl) ss_nil)))))
    (ss_cons (ss_for (si_lst (se_lsf (sa_cons se_int (sa_cons (se_op so_div (se_cb sc_len (sa_cons se_nm sa_nil)) se_int) (sa_cons (se_op so_sub (se_cb sc_len (sa_cons se_nm sa_nil)) se_int) sa_nil))))) sg_name (ss_if (st_and (st_test (se_chain so_le so_lt se_int se_nm (se_cb sc_len (sa_cons se_nm sa_nil)))) (st_test (se_op so_neS (se_cb sc_repr (sa_cons (se_callX (sa_cons se_nm (sa_cons se_nm sa_nil))) sa_nil)) (se_cb sc_repr (sa_cons (se_op so_ixL se_nm se_nm) sa_nil))))) (ss_ret se_bl) ss_nil))
    (ss_ret (se_op so_eqS (se_cb sc_repr (sa_cons (se_callX (sa_cons se_nm sa_nil)) sa_nil)) (se_cb sc_repr (sa_cons se_nm sa_nil)))))))))), fun st M hM => ?_⟩
  simp only [start0, len_c, len_n, map_c, map_n, app_c, app_n, rep_0, rep_s, Nat.reduceAdd, Nat.reduceSub]
  decreasing_trivial_pre_omega
  intro many m0 m1
  decreasing_trivial_pre_omega
  refine seq_cut (fun ρ' M' => M' = M ∧ ∃ n : Int, 0 ≤ n ∧ n ≤ 1000 ∧ ρ' = [some (.o (.ref a)), some (.r st), some (.d (.int n)), none, none, none, none, none, none, none]) (fun N hN => ?_) (fun ρ' M' c => ?_)
  · decreasing_trivial_pre_omega
    intro q q0 q1
    decreasing_trivial_pre_omega
    refine IfB.d (fun c => ?_) (fun c => ?_)
    · decreasing_trivial_pre_omega
      intro v v0 v1
      decreasing_trivial_pre_omega
      exact hN _ _ ⟨rfl, _, by omega, by omega, rfl⟩
    · decreasing_trivial_pre_omega
      exact hN _ _ ⟨rfl, _, by omega, by omega, rfl⟩
  · obtain ⟨rfl, n, n0, n1, rfl⟩ := c
    decreasing_trivial_pre_omega
    refine lc_any (fun y => ∃ b, y = .d b ∧ ItOk1 b) trivial _ [] (fun row hrow Rk Rn q => ?_) (sz1000 (by simp [rows1, rng]; omega)) (fun ys hy1 hy2 => ?_)
    · obtain ⟨w0, _, rfl⟩ := List.mem_map.mp hrow
      decreasing_trivial_pre_omega
      intro d hd
      exact q _ ⟨d, rfl, hd⟩
    · have hln : ys.length = (min n 40).toNat := by rw [hy1]; simp [rows1, rng]
      obtain ⟨bs, rfl, hbs⟩ : ∃ bs : List PyData, ys = bs.map W.d ∧ ∀ b ∈ bs, ItOk1 b := by
        clear hy1 hln
        induction ys with
        | nil => exact ⟨[], rfl, fun b h => by cases h⟩
        | cons y r ih =>
          obtain ⟨b, rfl, hb⟩ := hy2 y (.head _)
          obtain ⟨bs, rfl, h⟩ := ih fun z hz => hy2 z (.tail _ hz)
          exact ⟨b :: bs, rfl, all1 hb h⟩
      rw [List.length_map] at hln
      rw [List.nil_append]
      have hrl := rgD_len 0 (max 0 (n - 40))
      decreasing_trivial_pre_omega
      have hxs : ∀ x ∈ bs ++ rgD 0 (max 0 (n - 40)), ItOk1 x := fun x hx => (List.mem_append.mp hx).elim (hbs x) fun z => rg_ok (z := max 0 (n - 40)) (by omega) x z
      have hxl : (bs ++ rgD 0 (max 0 (n - 40))).length ≤ 1000 := by rw [List.length_append]; omega
      generalize bs ++ rgD 0 (max 0 (n - 40)) = xs at hxs hxl ⊢
      have hxt := isO_txt hxs
      have hxi : ∀ x ∈ xs, isItem x = true := fun x hx => (hxs x hx).1
      have small : 3 ^ 25 * (xs.length + 1) < 4 ^ 25 := by
        have := pow43 0
        have h5 : 3 ^ 25 * (xs.length + 1) ≤ 3 ^ 25 * 1001 := Nat.mul_le_mul_left _ (by omega)
        rw [Nat.mul_comm _ 1001] at h5
        exact Nat.lt_of_le_of_lt h5 this
      decreasing_trivial_pre_omega
      intro t1 h1
      decreasing_trivial_pre_omega
      intro t2 h2
      decreasing_trivial_pre_omega
      intro t3 h3
      decreasing_trivial_pre_omega
      intro r r0 r1
      refine gO_atD (fun d => ∃ t, d = toD t ∧ IsO t xs) r0 r1 (all1 ⟨t1, rfl, h1, hxs, hxl⟩ (all1 ⟨t2, rfl, h2, hxs, hxl⟩ (all1 ⟨t3, rfl, h3, hxs, hxl⟩ all0))) fun d hd => ?_
      obtain ⟨t, rfl, ht⟩ := hd
      clear hxs hxl hxt hxi small h1 h2 h3
      decreasing_trivial_pre_omega
      refine gO_atD (fun d => ∃ n : Int, d = .int n ∧ 0 ≤ n ∧ n ≤ 20) (by split <;> omega) (by simp only [len_c, len_n]; split <;> omega) (all1 ⟨20, rfl, by decide, by decide⟩ (all1 ⟨5, rfl, by decide, by decide⟩ all0)) fun d hd => ?_
      obtain ⟨z, rfl, z0, z1⟩ := hd
      decreasing_trivial_pre_omega
      refine forR (n := z.toNat) (fun i ρ M1 => M1 = M' ∧ ∃ t ys y5 y7 y8, IsO t ys ∧ ρ = [some (.o (.ref a)), some (.r st), some (.d (.int n)), some (.d (.list ys)), some (.d (toD t)), y5, none, y7, y8, none]) ⟨rfl, t, xs, none, none, none, ht, rfl⟩ (fun _ _ _ _ _ => trivial) (fun i ρ M1 N hi p hN => ?_) (fun ρ M1 p => ?_)
      · obtain ⟨rfl, t, ys, y5, y7, y8, ht, rfl⟩ := p
        have sh := tie_sh ht
        decreasing_trivial_pre_omega
        refine ⟨t, rfl, ⟨hM, ht⟩, fun t' ys' ht' => ?_⟩
        have tx := ht'.txt
        have dp := ht'.dep
        have ev : evenT (toD t') = true := ht'.even
        obtain ⟨m, hm⟩ := Option.isSome_iff_exists.mp ht'.even
        have ls := lst_sh ht'
        decreasing_trivial_pre_omega
        refine ⟨⟨dp, 1000, m, hm, by decide⟩, ?_⟩
        rw [ht'.items]
        decreasing_trivial_pre_omega
        exact hN _ _ ⟨rfl, t', ys', _, _, _, ht', rfl⟩
      · obtain ⟨rfl, t, ys, y5, y7, y8, ht, rfl⟩ := p
        have hyl : (ys.map W.d).length = ys.length := List.length_map ..
        decreasing_trivial_pre_omega
        refine for1 (f := W.d) (xs := [.int 0, .int (((ys.map W.d).length : Int) / 2), .int (((ys.map W.d).length : Int) - 1)]) (fun i2 ρ M' => M' = M1 ∧ ∃ y6, ρ = [some (.o (.ref a)), some (.r st), some (.d (.int n)), some (.d (.list ys)), some (.d (toD t)), y5, y6, y7, y8, none]) ⟨rfl, none, rfl⟩ (fun _ _ _ _ _ => trivial) (fun i2 d ρ M' N2 hd p hN2 => ?_) (fun ρ M' p => ?_)
        · obtain ⟨rfl, y6, rfl⟩ := p
          obtain ⟨z, rfl⟩ : ∃ z : Int, d = .int z := by
            have := List.mem_of_getElem? hd
            simp only [List.mem_cons, List.not_mem_nil, or_false] at this
            rcases this with rfl | rfl | rfl <;> exact ⟨_, rfl⟩
          clear hd
          decreasing_trivial_pre_omega
          refine IfB.d (fun c1 => ?_) (fun c1 => ?_)
          · decreasing_trivial_pre_omega
            refine IfB.d (fun c2 => ?_) (fun c2 => ?_)
            · obtain ⟨i, rfl⟩ : ∃ i : Nat, z = i := ⟨z.toNat, by omega⟩
              have hsz := ht.toIs.sz
              decreasing_trivial_pre_omega
              refine RefT.of ht (seatOk.of (by omega) fun v hv => ?_)
              rw [ht.its] at hv
              have sh := it_sh (ht.ok v (List.mem_of_getElem? hv))
              decreasing_trivial_pre_omega
              refine gO_i (a := W.d v) (atI_nat (by rw [List.getElem?_map, hv]; rfl)) ?_
              decreasing_trivial_pre_omega
              exact hN2 _ _ ⟨rfl, _, rfl⟩
            · decreasing_trivial_pre_omega
              exact hN2 _ _ ⟨rfl, _, rfl⟩
          · decreasing_trivial_pre_omega
            exact hN2 _ _ ⟨rfl, _, rfl⟩
        · obtain ⟨rfl, y6, rfl⟩ := p
          have tx := ht.txt
          have dp := ht.dep
          have ev : evenT (toD t) = true := ht.even
          have ls := lst_sh ht
          decreasing_trivial_pre_omega
          refine ⟨fun _ => ?_, fun c => by rw [ev] at c; cases c⟩
          rw [ht.items]
          decreasing_trivial_pre_omega
          simp [ng]
end
end Tl

set_option Elab.async false
set_option linter.all false
set_option maxRecDepth 100000
set_option maxHeartbeats 16000000
namespace Tl
open PySem L2 RZ
section
variable {P : Program} {w : World} {K : PySem.W.Frag} {mg : Str → Option Value}
structure Defs (K : PySem.W.Frag) (mg : Str → Option Value) where
  d_is_count : At K mg "is_count" sIsCount
  d_is_number : At K mg "is_number" sIsNumber
  d__law_take : At K mg "_law_take" sTake
  d_is_value : At K mg "is_value" sIsVal
  d_is_item : At K mg "is_item" sIsItem
  d_has_tie_form : At K mg "has_tie_form" sTieForm
  d_is_balance : At K mg "is_balance" sBal
  d_room_behind_tie : At K mg "room_behind_tie" sRoomT
  d_is_even : At K mg "is_even" sIsEven
  d_all_in : At K mg "all_in" sAllIn
  d_check_tie : At K mg "check_tie" sChkTie
  d_items_of : At K mg "items_of" sItemsOf
  d__law_items : At K mg "_law_items" sItemsL
  d__law_count : At K mg "_law_count" sCntL
  d__law_is_plain : At K mg "_law_is_plain" sPlain
  d_many_in : At K mg "many_in" sMany
  d_knit : At K mg "knit" sKnit
  d_single : At K mg "single" sSingle
  d_turned_right : At K mg "turned_right" sTurnR
  d_turned_left : At K mg "turned_left" sTurnL
  d_linked : At K mg "linked" sLinked
  d_nth : At K mg "nth" sNth
  d_with_item : At K mg "with_item" sWithI
  d_both_of : At K mg "both_of" sBoth
  d_without_item : At K mg "without_item" sWo
  d_halves : At K mg "halves" sHalves
  d_built : At K mg "built" sBuilt
  d_check_seat : At K mg "check_seat" sSeat
  d_item_at : At K mg "item_at" sItemAt
  d_out_at : At K mg "out_at" sOutAt
  d_parted : At K mg "parted" sParted
  d_put_at : At K mg "put_at" sPutAt
  d_tied_both : At K mg "tied_both" sTBoth
  d__law_is_item : At K mg "_law_is_item" sIsItemL
  d__law_item : At K mg "_law_item" sItem
  d__law_over : At K mg "_law_over" sOver
  d_tied : At K mg "tied" sTied
  d__law_made : At K mg "_law_made" sMade
  d__law_is_even : At K mg "_law_is_even" sIsEvenL
  d__law_deed : At K mg "_law_deed" sDeed
  d_law : At K mg "law" sLaw
def calls (D : Defs K mg) (T : Bl mg) (A : Cls K mg) (mMin : mg "min" = none) (CF : ∃ t, mg "FIELDS" = some (.int 8 t)) (CT : ∃ t, mg "TIED" = some (.int 1000 t)) (base : Heap) : Calls P w K mg base A :=
  let uCount := use (P := P) (w := w) (base := base) D.d_is_count (D.d_is_count.F.binds (ps := ["thing"]) fun _ _ _ _ _ _ us hl => match us, hl with | [_], _ => rfl) (ok_count (k := 0) D.d_is_count.F T)
  let uNumber := use (P := P) (w := w) (base := base) D.d_is_number (D.d_is_number.F.binds (ps := ["thing", "most"]) fun _ _ _ _ _ _ us hl => match us, hl with | [_, _], _ => rfl) (ok_number (k := 1) D.d_is_number.F uCount (by decide) T)
  let uVal := use (P := P) (w := w) (base := base) D.d_is_value (D.d_is_value.F.binds (ps := ["thing"]) fun _ _ _ _ _ _ us hl => match us, hl with | [_], _ => rfl) (ok_isVal (k := 0) D.d_is_value.F T)
  let uItem := use (P := P) (w := w) (base := base) D.d_is_item (D.d_is_item.F.binds (ps := ["thing"]) fun _ _ _ _ _ _ us hl => match us, hl with | [_], _ => rfl) (ok_isItem (k := 1) D.d_is_item.F uVal (by decide) T CF)
  let uTieF := use (P := P) (w := w) (base := base) D.d_has_tie_form (D.d_has_tie_form.F.binds (ps := ["thing"]) fun _ _ _ _ _ _ us hl => match us, hl with | [_], _ => rfl) (ok_tieForm (k := 2) D.d_has_tie_form.F uItem uCount (by decide) (by decide) T)
  let uBal := use (P := P) (w := w) (base := base) D.d_is_balance (D.d_is_balance.F.binds (ps := ["one", "other"]) fun _ _ _ _ _ _ us hl => match us, hl with | [_, _], _ => rfl) (ok_bal (k := 2) D.d_is_balance.F T)
  let uRoomT := use (P := P) (w := w) (base := base) D.d_room_behind_tie (D.d_room_behind_tie.F.binds (ps := ["thing", "room"]) fun _ _ _ _ _ _ us hl => match us, hl with | [_, _], _ => rfl) (ok_roomT (j := 3) D.d_room_behind_tie.F D.d_room_behind_tie.m uTieF uBal T 70)
  let uEven := use (P := P) (w := w) (base := base) D.d_is_even (D.d_is_even.F.binds (ps := ["thing"]) fun _ _ _ _ _ _ us hl => match us, hl with | [_], _ => rfl) (ok_isEven (k := 73) D.d_is_even.F uRoomT (by decide) T CT)
  let uChk := useX (P := P) (w := w) (base := base) D.d_check_tie (D.d_check_tie.F.binds (ps := ["thing"]) fun _ _ _ _ _ _ us hl => match us, hl with | [_], _ => rfl) (ok_chkTie (k := 74) D.d_check_tie.F A.e_NoTie uEven (by decide))
  let uAllIn := use (P := P) (w := w) (base := base) D.d_all_in (D.d_all_in.F.binds (ps := ["tie"]) fun _ _ _ _ _ _ us hl => match us, hl with | [_], _ => rfl) (ok_allIn D.d_all_in.F D.d_all_in.m T 70)
  let uItemsOf := useX (P := P) (w := w) (base := base) D.d_items_of (D.d_items_of.F.binds (ps := ["tie"]) fun _ _ _ _ _ _ us hl => match us, hl with | [_], _ => rfl) (ok_itemsOf (k := 75) D.d_items_of.F uChk uAllIn (by decide) (by decide))
  let uMany := use (P := P) (w := w) (base := base) D.d_many_in (D.d_many_in.F.binds (ps := ["tie"]) fun _ _ _ _ _ _ us hl => match us, hl with | [_], _ => rfl) (ok_many (k := 0) D.d_many_in.F T)
  let uKnit := use (P := P) (w := w) (base := base) D.d_knit (D.d_knit.F.binds (ps := ["left", "item", "right"]) fun _ _ _ _ _ _ us hl => match us, hl with | [_, _, _], _ => rfl) (ok_knit (k := 1) D.d_knit.F uMany (by decide) T)
  let uSingle := use (P := P) (w := w) (base := base) D.d_single (D.d_single.F.binds (ps := ["item"]) fun _ _ _ _ _ _ us hl => match us, hl with | [_], _ => rfl) (ok_single (k := 2) D.d_single.F uKnit (by decide) T)
  let uTurnR := use (P := P) (w := w) (base := base) D.d_turned_right (D.d_turned_right.F.binds (ps := ["heavy", "top"]) fun _ _ _ _ _ _ us hl => match us, hl with | [_, _], _ => rfl) (ok_turnR (j := 3) (k := 3) D.d_turned_right.F (uMany.up (by decide)) (uKnit.up (by decide)) uBal (by decide) T)
  let uTurnL := use (P := P) (w := w) (base := base) D.d_turned_left (D.d_turned_left.F.binds (ps := ["heavy", "top"]) fun _ _ _ _ _ _ us hl => match us, hl with | [_, _], _ => rfl) (ok_turnL (j := 3) (k := 3) D.d_turned_left.F (uMany.up (by decide)) (uKnit.up (by decide)) uBal (by decide) T)
  let uLinked := use (P := P) (w := w) (base := base) D.d_linked (D.d_linked.F.binds (ps := ["left", "item", "right"]) fun _ _ _ _ _ _ us hl => match us, hl with | [_, _, _], _ => rfl) (ok_linked (j := 4) D.d_linked.F D.d_linked.m (uMany.up (by decide)) (uKnit.up (by decide)) uTurnR uTurnL T 60)
  let uNth := use (P := P) (w := w) (base := base) D.d_nth (D.d_nth.F.binds (ps := ["tie", "at"]) fun _ _ _ _ _ _ us hl => match us, hl with | [_, _], _ => rfl) (ok_nth (j := 1) D.d_nth.F D.d_nth.m uMany T 30)
  let uWith := use (P := P) (w := w) (base := base) D.d_with_item (D.d_with_item.F.binds (ps := ["tie", "at", "item"]) fun _ _ _ _ _ _ us hl => match us, hl with | [_, _, _], _ => rfl) (ok_withI (j := 64) D.d_with_item.F D.d_with_item.m (uMany.up (by decide)) (uSingle.up (by decide)) uLinked T 30)
  let uWo := use (P := P) (w := w) (base := base) D.d_without_item (D.d_without_item.F.binds (ps := ["tie", "at"]) fun _ _ _ _ _ _ us hl => match us, hl with | [_, _], _ => rfl) (ok_wo (j := 64) D.d_without_item.F D.d_without_item.m D.d_both_of.F D.d_both_of.m (uNth.up (by decide)) (uMany.up (by decide)) uLinked T 30)
  let uBoth := use (P := P) (w := w) (base := base) D.d_both_of (D.d_both_of.F.binds (ps := ["one", "other"]) fun _ _ _ _ _ _ us hl => match us, hl with | [_, _], _ => rfl) (ok_both1 (j := 124) (n := 30) D.d_both_of.F uWo (uNth.up (by decide)) (uLinked.up (by decide)) T)
  let uHalves := use (P := P) (w := w) (base := base) D.d_halves (D.d_halves.F.binds (ps := ["tie", "at"]) fun _ _ _ _ _ _ us hl => match us, hl with | [_, _], _ => rfl) (ok_halves (j := 64) D.d_halves.F D.d_halves.m (uMany.up (by decide)) uLinked T 30)
  let uBuiltL := use (P := P) (w := w) (base := base) D.d_built (D.d_built.F.binds (ps := ["items"]) fun _ _ _ _ _ _ us hl => match us, hl with | [_], _ => rfl) (ok_builtL (j := 2) D.d_built.F D.d_built.m uKnit T 11)
  let uBuiltT := use (P := P) (w := w) (base := base) D.d_built (D.d_built.F.binds (ps := ["items"]) fun _ _ _ _ _ _ us hl => match us, hl with | [_], _ => rfl) (ok_builtT (j := 2) D.d_built.F D.d_built.m uKnit T 11)
  let uSeat := useX (P := P) (w := w) (base := base) D.d_check_seat (D.d_check_seat.F.binds (ps := ["at", "behind"]) fun _ _ _ _ _ _ us hl => match us, hl with | [_, _], _ => rfl) (ok_seat (k := 2) D.d_check_seat.F A.e_NoItem uNumber (by decide) (by decide))
  let uItemAt := useX (P := P) (w := w) (base := base) D.d_item_at (D.d_item_at.F.binds (ps := ["tie", "at"]) fun _ _ _ _ _ _ us hl => match us, hl with | [_, _], _ => rfl) (ok_itemAt (j := 75) (k := 75) D.d_item_at.F uChk (uSeat.up (by decide)) (uMany.up (by decide)) (uNth.up (by decide)) (by decide))
  let uOutAt := useX (P := P) (w := w) (base := base) D.d_out_at (D.d_out_at.F.binds (ps := ["tie", "at"]) fun _ _ _ _ _ _ us hl => match us, hl with | [_, _], _ => rfl) (ok_outAt (j := 130) (k := 130) D.d_out_at.F (uChk.up (by decide)) (uSeat.up (by decide)) (uMany.up (by decide)) (uWo.up (by decide)) (by decide))
  let uParted := useX (P := P) (w := w) (base := base) D.d_parted (D.d_parted.F.binds (ps := ["tie", "at"]) fun _ _ _ _ _ _ us hl => match us, hl with | [_, _], _ => rfl) (ok_parted (j := 130) (k := 130) D.d_parted.F (uChk.up (by decide)) (uSeat.up (by decide)) (uMany.up (by decide)) (uHalves.up (by decide)) (by decide))
  let uPutAt := useX (P := P) (w := w) (base := base) D.d_put_at (D.d_put_at.F.binds (ps := ["tie", "at", "item"]) fun _ _ _ _ _ _ us hl => match us, hl with | [_, _, _], _ => rfl) (ok_putAt (j := 130) (k := 130) D.d_put_at.F A.e_NoTie (uChk.up (by decide)) (uSeat.up (by decide)) (uMany.up (by decide)) (uItem.up (by decide)) (uWith.up (by decide)) (by decide) CT)
  let uTBoth := useX (P := P) (w := w) (base := base) D.d_tied_both (D.d_tied_both.F.binds (ps := ["one", "other"]) fun _ _ _ _ _ _ us hl => match us, hl with | [_, _], _ => rfl) (ok_tBoth (j := 130) (k := 130) D.d_tied_both.F A.e_NoTie (uChk.up (by decide)) (uMany.up (by decide)) (uBoth.up (by decide)) (by decide) CT)
  let uTiedL := useX (P := P) (w := w) (base := base) D.d_tied (D.d_tied.F.binds (ps := ["items"]) fun _ _ _ _ _ _ us hl => match us, hl with | [_], _ => rfl) (ok_tiedL (j := 13) (k := 13) D.d_tied.F A.e_NoTie (uItem.up (by decide)) uBuiltL (by decide) T CT)
  let uTiedT := useX (P := P) (w := w) (base := base) D.d_tied (D.d_tied.F.binds (ps := ["items"]) fun _ _ _ _ _ _ us hl => match us, hl with | [_], _ => rfl) (ok_tiedT (j := 13) (k := 13) D.d_tied.F A.e_NoTie (uItem.up (by decide)) uBuiltT (by decide) T CT)
  let uItemsL := use (P := P) (w := w) (base := base) D.d__law_items (D.d__law_items.F.binds (ps := ["_law_tie"]) fun _ _ _ _ _ _ us hl => match us, hl with | [_], _ => rfl) (ok_itemsL D.d__law_items.F D.d__law_items.m T 70)
  let uCntL := use (P := P) (w := w) (base := base) D.d__law_count (D.d__law_count.F.binds (ps := ["_law_tie"]) fun _ _ _ _ _ _ us hl => match us, hl with | [_], _ => rfl) (ok_cntL (k := 0) D.d__law_count.F T)
  let uPlain := use (P := P) (w := w) (base := base) D.d__law_is_plain (D.d__law_is_plain.F.binds (ps := ["_law_thing"]) fun _ _ _ _ _ _ us hl => match us, hl with | [_], _ => rfl) (ok_plain (k := 0) D.d__law_is_plain.F T)
  let uTake := use (P := P) (w := w) (base := base) D.d__law_take (D.d__law_take.F.binds (ps := ["_law_state", "_law_below"]) fun _ _ _ _ _ _ us hl => match us, hl with | [_, _], _ => rfl) (ok_take (k := 0) D.d__law_take.F T)
  let uIsItemL := use (P := P) (w := w) (base := base) D.d__law_is_item (D.d__law_is_item.F.binds (ps := ["_law_thing"]) fun _ _ _ _ _ _ us hl => match us, hl with | [_], _ => rfl) (ok_isItemL (k := 1) D.d__law_is_item.F uPlain (by decide) T)
  let uItemL := use (P := P) (w := w) (base := base) D.d__law_item (D.d__law_item.F.binds (ps := ["_law_state"]) fun _ _ _ _ _ _ us hl => match us, hl with | [_], _ => rfl) (ok_item (k := 1) D.d__law_item.F uTake (by decide) T)
  let uOver := use (P := P) (w := w) (base := base) D.d__law_over (D.d__law_over.F.binds (ps := ["_law_left", "_law_item_here", "_law_right"]) fun _ _ _ _ _ _ us hl => match us, hl with | [_, _, _], _ => rfl) (ok_overT (k := 1) D.d__law_over.F uCntL (by decide) T)
  let uMade := use (P := P) (w := w) (base := base) D.d__law_made (D.d__law_made.F.binds (ps := ["_law_state", "_law_items_here"]) fun _ _ _ _ _ _ us hl => match us, hl with | [_, _], _ => rfl) (ok_madeT (j := 2) D.d__law_made.F D.d__law_made.m (uTake.up (by decide)) uOver T 25)
  let uEvenL := use (P := P) (w := w) (base := base) D.d__law_is_even (D.d__law_is_even.F.binds (ps := ["_law_thing"]) fun _ _ _ _ _ _ us hl => match us, hl with | [_], _ => rfl) (ok_isEvenL (j := 2) (k := 2) D.d__law_is_even.F uIsItemL (uCntL.up (by decide)) (by decide) T mMin)
  let uDeed := use (P := P) (w := w) (base := base) D.d__law_deed (D.d__law_deed.F.binds (ps := ["_law_state", "_law_tie", "_law_items_here"]) fun _ _ _ _ _ _ us hl => match us, hl with | [_, _, _], _ => rfl) (ok_deed (j := 131) (k := 131) D.d__law_deed.F (uTake.up (by decide)) (uItemL.up (by decide)) uPutAt uOutAt uParted uTBoth (uEvenL.up (by decide)) (uItemsL.up (by decide)) (by decide) T)
  ⟨200, by decide, uTiedL.up (by decide), uTiedT.up (by decide), uItemsOf.up (by decide), uItemAt.up (by decide), uTake.up (by decide), uItemL.up (by decide), uMade.up (by decide), uEvenL.up (by decide), uItemsL.up (by decide), uDeed.up (by decide)⟩
end
theorem all_mk {P : Program} {w : World} {K : PySem.W.Frag} {h : Heap} {mg : Str → Option Value} {fa : Addr} (X : K.In h) (G : h.Ns mainGlobals mg) (hfa : mg "law" = some (.ref fa)) {t1 t2 : Tok}
    {f1 : Addr} {od1 an1 : Option Addr} {sl1 : Array (Option Value)} {oc1 kV1 dc1 pm1 cd1 ct1 : Value}
    {f2 : Addr} {od2 an2 : Option Addr} {sl2 : Array (Option Value)} {oc2 kV2 dc2 pm2 cd2 ct2 : Value}
    {f3 : Addr} {od3 an3 : Option Addr} {sl3 : Array (Option Value)} {oc3 kV3 dc3 pm3 cd3 ct3 : Value}
    {f4 : Addr} {od4 an4 : Option Addr} {sl4 : Array (Option Value)} {oc4 kV4 dc4 pm4 cd4 ct4 : Value}
    {f5 : Addr} {od5 an5 : Option Addr} {sl5 : Array (Option Value)} {oc5 kV5 dc5 pm5 cd5 ct5 : Value}
    {f6 : Addr} {od6 an6 : Option Addr} {sl6 : Array (Option Value)} {oc6 kV6 dc6 pm6 cd6 ct6 : Value}
    {f7 : Addr} {od7 an7 : Option Addr} {sl7 : Array (Option Value)} {oc7 kV7 dc7 pm7 cd7 ct7 : Value}
    {f8 : Addr} {od8 an8 : Option Addr} {sl8 : Array (Option Value)} {oc8 kV8 dc8 pm8 cd8 ct8 : Value}
    {f9 : Addr} {od9 an9 : Option Addr} {sl9 : Array (Option Value)} {oc9 kV9 dc9 pm9 cd9 ct9 : Value}
    {f10 : Addr} {od10 an10 : Option Addr} {sl10 : Array (Option Value)} {oc10 kV10 dc10 pm10 cd10 ct10 : Value}
    {f11 : Addr} {od11 an11 : Option Addr} {sl11 : Array (Option Value)} {oc11 kV11 dc11 pm11 cd11 ct11 : Value}
    {f12 : Addr} {od12 an12 : Option Addr} {sl12 : Array (Option Value)} {oc12 kV12 dc12 pm12 cd12 ct12 : Value}
    {f13 : Addr} {od13 an13 : Option Addr} {sl13 : Array (Option Value)} {oc13 kV13 dc13 pm13 cd13 ct13 : Value}
    {f14 : Addr} {od14 an14 : Option Addr} {sl14 : Array (Option Value)} {oc14 kV14 dc14 pm14 cd14 ct14 : Value}
    {f15 : Addr} {od15 an15 : Option Addr} {sl15 : Array (Option Value)} {oc15 kV15 dc15 pm15 cd15 ct15 : Value}
    {f16 : Addr} {od16 an16 : Option Addr} {sl16 : Array (Option Value)} {oc16 kV16 dc16 pm16 cd16 ct16 : Value}
    {f17 : Addr} {od17 an17 : Option Addr} {sl17 : Array (Option Value)} {oc17 kV17 dc17 pm17 cd17 ct17 : Value}
    {f18 : Addr} {od18 an18 : Option Addr} {sl18 : Array (Option Value)} {oc18 kV18 dc18 pm18 cd18 ct18 : Value}
    {f19 : Addr} {od19 an19 : Option Addr} {sl19 : Array (Option Value)} {oc19 kV19 dc19 pm19 cd19 ct19 : Value}
    {f20 : Addr} {od20 an20 : Option Addr} {sl20 : Array (Option Value)} {oc20 kV20 dc20 pm20 cd20 ct20 : Value}
    {f21 : Addr} {od21 an21 : Option Addr} {sl21 : Array (Option Value)} {oc21 kV21 dc21 pm21 cd21 ct21 : Value}
    {f22 : Addr} {od22 an22 : Option Addr} {sl22 : Array (Option Value)} {oc22 kV22 dc22 pm22 cd22 ct22 : Value}
    {f23 : Addr} {od23 an23 : Option Addr} {sl23 : Array (Option Value)} {oc23 kV23 dc23 pm23 cd23 ct23 : Value}
    {f24 : Addr} {od24 an24 : Option Addr} {sl24 : Array (Option Value)} {oc24 kV24 dc24 pm24 cd24 ct24 : Value}
    {f25 : Addr} {od25 an25 : Option Addr} {sl25 : Array (Option Value)} {oc25 kV25 dc25 pm25 cd25 ct25 : Value}
    {f26 : Addr} {od26 an26 : Option Addr} {sl26 : Array (Option Value)} {oc26 kV26 dc26 pm26 cd26 ct26 : Value}
    {f27 : Addr} {od27 an27 : Option Addr} {sl27 : Array (Option Value)} {oc27 kV27 dc27 pm27 cd27 ct27 : Value}
    {f28 : Addr} {od28 an28 : Option Addr} {sl28 : Array (Option Value)} {oc28 kV28 dc28 pm28 cd28 ct28 : Value}
    {f29 : Addr} {od29 an29 : Option Addr} {sl29 : Array (Option Value)} {oc29 kV29 dc29 pm29 cd29 ct29 : Value}
    {f30 : Addr} {od30 an30 : Option Addr} {sl30 : Array (Option Value)} {oc30 kV30 dc30 pm30 cd30 ct30 : Value}
    {f31 : Addr} {od31 an31 : Option Addr} {sl31 : Array (Option Value)} {oc31 kV31 dc31 pm31 cd31 ct31 : Value}
    {f32 : Addr} {od32 an32 : Option Addr} {sl32 : Array (Option Value)} {oc32 kV32 dc32 pm32 cd32 ct32 : Value}
    {f33 : Addr} {od33 an33 : Option Addr} {sl33 : Array (Option Value)} {oc33 kV33 dc33 pm33 cd33 ct33 : Value}
    {f34 : Addr} {od34 an34 : Option Addr} {sl34 : Array (Option Value)} {oc34 kV34 dc34 pm34 cd34 ct34 : Value}
    {f35 : Addr} {od35 an35 : Option Addr} {sl35 : Array (Option Value)} {oc35 kV35 dc35 pm35 cd35 ct35 : Value}
    {f36 : Addr} {od36 an36 : Option Addr} {sl36 : Array (Option Value)} {oc36 kV36 dc36 pm36 cd36 ct36 : Value}
    {f37 : Addr} {od37 an37 : Option Addr} {sl37 : Array (Option Value)} {oc37 kV37 dc37 pm37 cd37 ct37 : Value}
    {f38 : Addr} {od38 an38 : Option Addr} {sl38 : Array (Option Value)} {oc38 kV38 dc38 pm38 cd38 ct38 : Value}
    {f39 : Addr} {od39 an39 : Option Addr} {sl39 : Array (Option Value)} {oc39 kV39 dc39 pm39 cd39 ct39 : Value}
    {f40 : Addr} {od40 an40 : Option Addr} {sl40 : Array (Option Value)} {oc40 kV40 dc40 pm40 cd40 ct40 : Value}
    {f41 : Addr} {od41 an41 : Option Addr} {sl41 : Array (Option Value)} {oc41 kV41 dc41 pm41 cd41 ct41 : Value}
    {c_TreeError c_NoThing c_NoFit c_NoTie c_NoItem : Addr}
    {nm_NoItem q_NoItem : Str} {N_NoItem : Addr} {bs_NoItem bm_NoItem : List Value} {sn_NoItem : List Str} {sub_NoItem : List Value} {ab_NoItem : Bool} {col_NoItem : Option Bool} {dd_NoItem : Option Addr} {g0_NoItem g1_NoItem g2_NoItem g3_NoItem g5_NoItem : Option Value}
    {fI_NoItem : Addr} {odI_NoItem anI_NoItem : Option Addr} {slI_NoItem : Array (Option Value)} {ocI_NoItem kVI_NoItem dcI_NoItem pmI_NoItem cdI_NoItem ctI_NoItem : Value}
    (a1 : PySem.W.nsIn K mainGlobals "is_count" = some (some (.ref f1)))
    (l1 : K.lookup f1 = some ⟨oc1, od1, .func (PySem.W.fnOf "is_count" "is_count" (defArgs sIsCount) (defBody sIsCount) (defScope sIsCount) .none kV1 dc1 pm1 an1 cd1 ct1), sl1⟩)
    (c1 : PySem.W.codeIn K cd1 "is_count" = true)
    (k1 : PySem.W.keepIn K (.ref f1) = true)
    (a2 : PySem.W.nsIn K mainGlobals "is_number" = some (some (.ref f2)))
    (l2 : K.lookup f2 = some ⟨oc2, od2, .func (PySem.W.fnOf "is_number" "is_number" (defArgs sIsNumber) (defBody sIsNumber) (defScope sIsNumber) .none kV2 dc2 pm2 an2 cd2 ct2), sl2⟩)
    (c2 : PySem.W.codeIn K cd2 "is_number" = true)
    (k2 : PySem.W.keepIn K (.ref f2) = true)
    (a3 : PySem.W.nsIn K mainGlobals "_law_take" = some (some (.ref f3)))
    (l3 : K.lookup f3 = some ⟨oc3, od3, .func (PySem.W.fnOf "_law_take" "_law_take" (defArgs sTake) (defBody sTake) (defScope sTake) .none kV3 dc3 pm3 an3 cd3 ct3), sl3⟩)
    (c3 : PySem.W.codeIn K cd3 "_law_take" = true)
    (k3 : PySem.W.keepIn K (.ref f3) = true)
    (a4 : PySem.W.nsIn K mainGlobals "is_value" = some (some (.ref f4)))
    (l4 : K.lookup f4 = some ⟨oc4, od4, .func (PySem.W.fnOf "is_value" "is_value" (defArgs sIsVal) (defBody sIsVal) (defScope sIsVal) .none kV4 dc4 pm4 an4 cd4 ct4), sl4⟩)
    (c4 : PySem.W.codeIn K cd4 "is_value" = true)
    (k4 : PySem.W.keepIn K (.ref f4) = true)
    (a5 : PySem.W.nsIn K mainGlobals "is_item" = some (some (.ref f5)))
    (l5 : K.lookup f5 = some ⟨oc5, od5, .func (PySem.W.fnOf "is_item" "is_item" (defArgs sIsItem) (defBody sIsItem) (defScope sIsItem) .none kV5 dc5 pm5 an5 cd5 ct5), sl5⟩)
    (c5 : PySem.W.codeIn K cd5 "is_item" = true)
    (k5 : PySem.W.keepIn K (.ref f5) = true)
    (a6 : PySem.W.nsIn K mainGlobals "has_tie_form" = some (some (.ref f6)))
    (l6 : K.lookup f6 = some ⟨oc6, od6, .func (PySem.W.fnOf "has_tie_form" "has_tie_form" (defArgs sTieForm) (defBody sTieForm) (defScope sTieForm) .none kV6 dc6 pm6 an6 cd6 ct6), sl6⟩)
    (c6 : PySem.W.codeIn K cd6 "has_tie_form" = true)
    (k6 : PySem.W.keepIn K (.ref f6) = true)
    (a7 : PySem.W.nsIn K mainGlobals "is_balance" = some (some (.ref f7)))
    (l7 : K.lookup f7 = some ⟨oc7, od7, .func (PySem.W.fnOf "is_balance" "is_balance" (defArgs sBal) (defBody sBal) (defScope sBal) .none kV7 dc7 pm7 an7 cd7 ct7), sl7⟩)
    (c7 : PySem.W.codeIn K cd7 "is_balance" = true)
    (k7 : PySem.W.keepIn K (.ref f7) = true)
    (a8 : PySem.W.nsIn K mainGlobals "room_behind_tie" = some (some (.ref f8)))
    (l8 : K.lookup f8 = some ⟨oc8, od8, .func (PySem.W.fnOf "room_behind_tie" "room_behind_tie" (defArgs sRoomT) (defBody sRoomT) (defScope sRoomT) .none kV8 dc8 pm8 an8 cd8 ct8), sl8⟩)
    (c8 : PySem.W.codeIn K cd8 "room_behind_tie" = true)
    (k8 : PySem.W.keepIn K (.ref f8) = true)
    (a9 : PySem.W.nsIn K mainGlobals "is_even" = some (some (.ref f9)))
    (l9 : K.lookup f9 = some ⟨oc9, od9, .func (PySem.W.fnOf "is_even" "is_even" (defArgs sIsEven) (defBody sIsEven) (defScope sIsEven) .none kV9 dc9 pm9 an9 cd9 ct9), sl9⟩)
    (c9 : PySem.W.codeIn K cd9 "is_even" = true)
    (k9 : PySem.W.keepIn K (.ref f9) = true)
    (a10 : PySem.W.nsIn K mainGlobals "all_in" = some (some (.ref f10)))
    (l10 : K.lookup f10 = some ⟨oc10, od10, .func (PySem.W.fnOf "all_in" "all_in" (defArgs sAllIn) (defBody sAllIn) (defScope sAllIn) .none kV10 dc10 pm10 an10 cd10 ct10), sl10⟩)
    (c10 : PySem.W.codeIn K cd10 "all_in" = true)
    (k10 : PySem.W.keepIn K (.ref f10) = true)
    (a11 : PySem.W.nsIn K mainGlobals "check_tie" = some (some (.ref f11)))
    (l11 : K.lookup f11 = some ⟨oc11, od11, .func (PySem.W.fnOf "check_tie" "check_tie" (defArgs sChkTie) (defBody sChkTie) (defScope sChkTie) .none kV11 dc11 pm11 an11 cd11 ct11), sl11⟩)
    (c11 : PySem.W.codeIn K cd11 "check_tie" = true)
    (k11 : PySem.W.keepIn K (.ref f11) = true)
    (a12 : PySem.W.nsIn K mainGlobals "items_of" = some (some (.ref f12)))
    (l12 : K.lookup f12 = some ⟨oc12, od12, .func (PySem.W.fnOf "items_of" "items_of" (defArgs sItemsOf) (defBody sItemsOf) (defScope sItemsOf) .none kV12 dc12 pm12 an12 cd12 ct12), sl12⟩)
    (c12 : PySem.W.codeIn K cd12 "items_of" = true)
    (k12 : PySem.W.keepIn K (.ref f12) = true)
    (a13 : PySem.W.nsIn K mainGlobals "_law_items" = some (some (.ref f13)))
    (l13 : K.lookup f13 = some ⟨oc13, od13, .func (PySem.W.fnOf "_law_items" "_law_items" (defArgs sItemsL) (defBody sItemsL) (defScope sItemsL) .none kV13 dc13 pm13 an13 cd13 ct13), sl13⟩)
    (c13 : PySem.W.codeIn K cd13 "_law_items" = true)
    (k13 : PySem.W.keepIn K (.ref f13) = true)
    (a14 : PySem.W.nsIn K mainGlobals "_law_count" = some (some (.ref f14)))
    (l14 : K.lookup f14 = some ⟨oc14, od14, .func (PySem.W.fnOf "_law_count" "_law_count" (defArgs sCntL) (defBody sCntL) (defScope sCntL) .none kV14 dc14 pm14 an14 cd14 ct14), sl14⟩)
    (c14 : PySem.W.codeIn K cd14 "_law_count" = true)
    (k14 : PySem.W.keepIn K (.ref f14) = true)
    (a15 : PySem.W.nsIn K mainGlobals "_law_is_plain" = some (some (.ref f15)))
    (l15 : K.lookup f15 = some ⟨oc15, od15, .func (PySem.W.fnOf "_law_is_plain" "_law_is_plain" (defArgs sPlain) (defBody sPlain) (defScope sPlain) .none kV15 dc15 pm15 an15 cd15 ct15), sl15⟩)
    (c15 : PySem.W.codeIn K cd15 "_law_is_plain" = true)
    (k15 : PySem.W.keepIn K (.ref f15) = true)
    (a16 : PySem.W.nsIn K mainGlobals "many_in" = some (some (.ref f16)))
    (l16 : K.lookup f16 = some ⟨oc16, od16, .func (PySem.W.fnOf "many_in" "many_in" (defArgs sMany) (defBody sMany) (defScope sMany) .none kV16 dc16 pm16 an16 cd16 ct16), sl16⟩)
    (c16 : PySem.W.codeIn K cd16 "many_in" = true)
    (k16 : PySem.W.keepIn K (.ref f16) = true)
    (a17 : PySem.W.nsIn K mainGlobals "knit" = some (some (.ref f17)))
    (l17 : K.lookup f17 = some ⟨oc17, od17, .func (PySem.W.fnOf "knit" "knit" (defArgs sKnit) (defBody sKnit) (defScope sKnit) .none kV17 dc17 pm17 an17 cd17 ct17), sl17⟩)
    (c17 : PySem.W.codeIn K cd17 "knit" = true)
    (k17 : PySem.W.keepIn K (.ref f17) = true)
    (a18 : PySem.W.nsIn K mainGlobals "single" = some (some (.ref f18)))
    (l18 : K.lookup f18 = some ⟨oc18, od18, .func (PySem.W.fnOf "single" "single" (defArgs sSingle) (defBody sSingle) (defScope sSingle) .none kV18 dc18 pm18 an18 cd18 ct18), sl18⟩)
    (c18 : PySem.W.codeIn K cd18 "single" = true)
    (k18 : PySem.W.keepIn K (.ref f18) = true)
    (a19 : PySem.W.nsIn K mainGlobals "turned_right" = some (some (.ref f19)))
    (l19 : K.lookup f19 = some ⟨oc19, od19, .func (PySem.W.fnOf "turned_right" "turned_right" (defArgs sTurnR) (defBody sTurnR) (defScope sTurnR) .none kV19 dc19 pm19 an19 cd19 ct19), sl19⟩)
    (c19 : PySem.W.codeIn K cd19 "turned_right" = true)
    (k19 : PySem.W.keepIn K (.ref f19) = true)
    (a20 : PySem.W.nsIn K mainGlobals "turned_left" = some (some (.ref f20)))
    (l20 : K.lookup f20 = some ⟨oc20, od20, .func (PySem.W.fnOf "turned_left" "turned_left" (defArgs sTurnL) (defBody sTurnL) (defScope sTurnL) .none kV20 dc20 pm20 an20 cd20 ct20), sl20⟩)
    (c20 : PySem.W.codeIn K cd20 "turned_left" = true)
    (k20 : PySem.W.keepIn K (.ref f20) = true)
    (a21 : PySem.W.nsIn K mainGlobals "linked" = some (some (.ref f21)))
    (l21 : K.lookup f21 = some ⟨oc21, od21, .func (PySem.W.fnOf "linked" "linked" (defArgs sLinked) (defBody sLinked) (defScope sLinked) .none kV21 dc21 pm21 an21 cd21 ct21), sl21⟩)
    (c21 : PySem.W.codeIn K cd21 "linked" = true)
    (k21 : PySem.W.keepIn K (.ref f21) = true)
    (a22 : PySem.W.nsIn K mainGlobals "nth" = some (some (.ref f22)))
    (l22 : K.lookup f22 = some ⟨oc22, od22, .func (PySem.W.fnOf "nth" "nth" (defArgs sNth) (defBody sNth) (defScope sNth) .none kV22 dc22 pm22 an22 cd22 ct22), sl22⟩)
    (c22 : PySem.W.codeIn K cd22 "nth" = true)
    (k22 : PySem.W.keepIn K (.ref f22) = true)
    (a23 : PySem.W.nsIn K mainGlobals "with_item" = some (some (.ref f23)))
    (l23 : K.lookup f23 = some ⟨oc23, od23, .func (PySem.W.fnOf "with_item" "with_item" (defArgs sWithI) (defBody sWithI) (defScope sWithI) .none kV23 dc23 pm23 an23 cd23 ct23), sl23⟩)
    (c23 : PySem.W.codeIn K cd23 "with_item" = true)
    (k23 : PySem.W.keepIn K (.ref f23) = true)
    (a24 : PySem.W.nsIn K mainGlobals "both_of" = some (some (.ref f24)))
    (l24 : K.lookup f24 = some ⟨oc24, od24, .func (PySem.W.fnOf "both_of" "both_of" (defArgs sBoth) (defBody sBoth) (defScope sBoth) .none kV24 dc24 pm24 an24 cd24 ct24), sl24⟩)
    (c24 : PySem.W.codeIn K cd24 "both_of" = true)
    (k24 : PySem.W.keepIn K (.ref f24) = true)
    (a25 : PySem.W.nsIn K mainGlobals "without_item" = some (some (.ref f25)))
    (l25 : K.lookup f25 = some ⟨oc25, od25, .func (PySem.W.fnOf "without_item" "without_item" (defArgs sWo) (defBody sWo) (defScope sWo) .none kV25 dc25 pm25 an25 cd25 ct25), sl25⟩)
    (c25 : PySem.W.codeIn K cd25 "without_item" = true)
    (k25 : PySem.W.keepIn K (.ref f25) = true)
    (a26 : PySem.W.nsIn K mainGlobals "halves" = some (some (.ref f26)))
    (l26 : K.lookup f26 = some ⟨oc26, od26, .func (PySem.W.fnOf "halves" "halves" (defArgs sHalves) (defBody sHalves) (defScope sHalves) .none kV26 dc26 pm26 an26 cd26 ct26), sl26⟩)
    (c26 : PySem.W.codeIn K cd26 "halves" = true)
    (k26 : PySem.W.keepIn K (.ref f26) = true)
    (a27 : PySem.W.nsIn K mainGlobals "built" = some (some (.ref f27)))
    (l27 : K.lookup f27 = some ⟨oc27, od27, .func (PySem.W.fnOf "built" "built" (defArgs sBuilt) (defBody sBuilt) (defScope sBuilt) .none kV27 dc27 pm27 an27 cd27 ct27), sl27⟩)
    (c27 : PySem.W.codeIn K cd27 "built" = true)
    (k27 : PySem.W.keepIn K (.ref f27) = true)
    (a28 : PySem.W.nsIn K mainGlobals "check_seat" = some (some (.ref f28)))
    (l28 : K.lookup f28 = some ⟨oc28, od28, .func (PySem.W.fnOf "check_seat" "check_seat" (defArgs sSeat) (defBody sSeat) (defScope sSeat) .none kV28 dc28 pm28 an28 cd28 ct28), sl28⟩)
    (c28 : PySem.W.codeIn K cd28 "check_seat" = true)
    (k28 : PySem.W.keepIn K (.ref f28) = true)
    (a29 : PySem.W.nsIn K mainGlobals "item_at" = some (some (.ref f29)))
    (l29 : K.lookup f29 = some ⟨oc29, od29, .func (PySem.W.fnOf "item_at" "item_at" (defArgs sItemAt) (defBody sItemAt) (defScope sItemAt) .none kV29 dc29 pm29 an29 cd29 ct29), sl29⟩)
    (c29 : PySem.W.codeIn K cd29 "item_at" = true)
    (k29 : PySem.W.keepIn K (.ref f29) = true)
    (a30 : PySem.W.nsIn K mainGlobals "out_at" = some (some (.ref f30)))
    (l30 : K.lookup f30 = some ⟨oc30, od30, .func (PySem.W.fnOf "out_at" "out_at" (defArgs sOutAt) (defBody sOutAt) (defScope sOutAt) .none kV30 dc30 pm30 an30 cd30 ct30), sl30⟩)
    (c30 : PySem.W.codeIn K cd30 "out_at" = true)
    (k30 : PySem.W.keepIn K (.ref f30) = true)
    (a31 : PySem.W.nsIn K mainGlobals "parted" = some (some (.ref f31)))
    (l31 : K.lookup f31 = some ⟨oc31, od31, .func (PySem.W.fnOf "parted" "parted" (defArgs sParted) (defBody sParted) (defScope sParted) .none kV31 dc31 pm31 an31 cd31 ct31), sl31⟩)
    (c31 : PySem.W.codeIn K cd31 "parted" = true)
    (k31 : PySem.W.keepIn K (.ref f31) = true)
    (a32 : PySem.W.nsIn K mainGlobals "put_at" = some (some (.ref f32)))
    (l32 : K.lookup f32 = some ⟨oc32, od32, .func (PySem.W.fnOf "put_at" "put_at" (defArgs sPutAt) (defBody sPutAt) (defScope sPutAt) .none kV32 dc32 pm32 an32 cd32 ct32), sl32⟩)
    (c32 : PySem.W.codeIn K cd32 "put_at" = true)
    (k32 : PySem.W.keepIn K (.ref f32) = true)
    (a33 : PySem.W.nsIn K mainGlobals "tied_both" = some (some (.ref f33)))
    (l33 : K.lookup f33 = some ⟨oc33, od33, .func (PySem.W.fnOf "tied_both" "tied_both" (defArgs sTBoth) (defBody sTBoth) (defScope sTBoth) .none kV33 dc33 pm33 an33 cd33 ct33), sl33⟩)
    (c33 : PySem.W.codeIn K cd33 "tied_both" = true)
    (k33 : PySem.W.keepIn K (.ref f33) = true)
    (a34 : PySem.W.nsIn K mainGlobals "_law_is_item" = some (some (.ref f34)))
    (l34 : K.lookup f34 = some ⟨oc34, od34, .func (PySem.W.fnOf "_law_is_item" "_law_is_item" (defArgs sIsItemL) (defBody sIsItemL) (defScope sIsItemL) .none kV34 dc34 pm34 an34 cd34 ct34), sl34⟩)
    (c34 : PySem.W.codeIn K cd34 "_law_is_item" = true)
    (k34 : PySem.W.keepIn K (.ref f34) = true)
    (a35 : PySem.W.nsIn K mainGlobals "_law_item" = some (some (.ref f35)))
    (l35 : K.lookup f35 = some ⟨oc35, od35, .func (PySem.W.fnOf "_law_item" "_law_item" (defArgs sItem) (defBody sItem) (defScope sItem) .none kV35 dc35 pm35 an35 cd35 ct35), sl35⟩)
    (c35 : PySem.W.codeIn K cd35 "_law_item" = true)
    (k35 : PySem.W.keepIn K (.ref f35) = true)
    (a36 : PySem.W.nsIn K mainGlobals "_law_over" = some (some (.ref f36)))
    (l36 : K.lookup f36 = some ⟨oc36, od36, .func (PySem.W.fnOf "_law_over" "_law_over" (defArgs sOver) (defBody sOver) (defScope sOver) .none kV36 dc36 pm36 an36 cd36 ct36), sl36⟩)
    (c36 : PySem.W.codeIn K cd36 "_law_over" = true)
    (k36 : PySem.W.keepIn K (.ref f36) = true)
    (a37 : PySem.W.nsIn K mainGlobals "tied" = some (some (.ref f37)))
    (l37 : K.lookup f37 = some ⟨oc37, od37, .func (PySem.W.fnOf "tied" "tied" (defArgs sTied) (defBody sTied) (defScope sTied) .none kV37 dc37 pm37 an37 cd37 ct37), sl37⟩)
    (c37 : PySem.W.codeIn K cd37 "tied" = true)
    (k37 : PySem.W.keepIn K (.ref f37) = true)
    (a38 : PySem.W.nsIn K mainGlobals "_law_made" = some (some (.ref f38)))
    (l38 : K.lookup f38 = some ⟨oc38, od38, .func (PySem.W.fnOf "_law_made" "_law_made" (defArgs sMade) (defBody sMade) (defScope sMade) .none kV38 dc38 pm38 an38 cd38 ct38), sl38⟩)
    (c38 : PySem.W.codeIn K cd38 "_law_made" = true)
    (k38 : PySem.W.keepIn K (.ref f38) = true)
    (a39 : PySem.W.nsIn K mainGlobals "_law_is_even" = some (some (.ref f39)))
    (l39 : K.lookup f39 = some ⟨oc39, od39, .func (PySem.W.fnOf "_law_is_even" "_law_is_even" (defArgs sIsEvenL) (defBody sIsEvenL) (defScope sIsEvenL) .none kV39 dc39 pm39 an39 cd39 ct39), sl39⟩)
    (c39 : PySem.W.codeIn K cd39 "_law_is_even" = true)
    (k39 : PySem.W.keepIn K (.ref f39) = true)
    (a40 : PySem.W.nsIn K mainGlobals "_law_deed" = some (some (.ref f40)))
    (l40 : K.lookup f40 = some ⟨oc40, od40, .func (PySem.W.fnOf "_law_deed" "_law_deed" (defArgs sDeed) (defBody sDeed) (defScope sDeed) .none kV40 dc40 pm40 an40 cd40 ct40), sl40⟩)
    (c40 : PySem.W.codeIn K cd40 "_law_deed" = true)
    (k40 : PySem.W.keepIn K (.ref f40) = true)
    (a41 : PySem.W.nsIn K mainGlobals "law" = some (some (.ref f41)))
    (l41 : K.lookup f41 = some ⟨oc41, od41, .func (PySem.W.fnOf "law" "law" (defArgs sLaw) (defBody sLaw) (defScope sLaw) .none kV41 dc41 pm41 an41 cd41 ct41), sl41⟩)
    (c41 : PySem.W.codeIn K cd41 "law" = true)
    (k41 : PySem.W.keepIn K (.ref f41) = true)
    (z1 : PySem.W.nsIn K mainGlobals "isinstance" = some none)
    (z2 : PySem.W.nsIn K mainGlobals "int" = some none)
    (z3 : PySem.W.nsIn K mainGlobals "bool" = some none)
    (z4 : PySem.W.nsIn K mainGlobals "str" = some none)
    (z5 : PySem.W.nsIn K mainGlobals "tuple" = some none)
    (z6 : PySem.W.nsIn K mainGlobals "list" = some none)
    (z7 : PySem.W.nsIn K mainGlobals "len" = some none)
    (z8 : PySem.W.nsIn K mainGlobals "all" = some none)
    (z9 : PySem.W.nsIn K mainGlobals "repr" = some none)
    (z10 : PySem.W.nsIn K mainGlobals "max" = some none)
    (z11 : PySem.W.nsIn K mainGlobals "range" = some none)
    (z12 : PySem.W.nsIn K mainGlobals "enumerate" = some none)
    (z13 : PySem.W.nsIn K mainGlobals "min" = some none)
    (n1 : PySem.W.nsIn K mainGlobals "TIED" = some (some (.int 1000 t1)))
    (n2 : PySem.W.nsIn K mainGlobals "FIELDS" = some (some (.int 8 t2)))
    (y_TreeError : PySem.W.nsIn K mainGlobals "TreeError" = some (some (.ref c_TreeError)))
    (y_NoThing : PySem.W.nsIn K mainGlobals "NoThing" = some (some (.ref c_NoThing)))
    (y_NoFit : PySem.W.nsIn K mainGlobals "NoFit" = some (some (.ref c_NoFit)))
    (y_NoTie : PySem.W.nsIn K mainGlobals "NoTie" = some (some (.ref c_NoTie)))
    (y_NoItem : PySem.W.nsIn K mainGlobals "NoItem" = some (some (.ref c_NoItem)))
    (o1_TreeError : PySem.W.isClsIn K c_TreeError = true)
    (o2_TreeError : PySem.W.typeIn K (.ref c_TreeError) = some (.type "type"))
    (o1_NoThing : PySem.W.isClsIn K c_NoThing = true)
    (o2_NoThing : PySem.W.typeIn K (.ref c_NoThing) = some (.type "type"))
    (o1_NoFit : PySem.W.isClsIn K c_NoFit = true)
    (o2_NoFit : PySem.W.typeIn K (.ref c_NoFit) = some (.type "type"))
    (o1_NoTie : PySem.W.isClsIn K c_NoTie = true)
    (o2_NoTie : PySem.W.typeIn K (.ref c_NoTie) = some (.type "type"))
    (o1_NoItem : PySem.W.isClsIn K c_NoItem = true)
    (o2_NoItem : PySem.W.typeIn K (.ref c_NoItem) = some (.type "type"))
    (b1_NoTie : PySem.W.subIn K (.ref c_NoTie) (.type "BaseException") = some true)
    (b2_NoTie : PySem.W.hasDictIn K c_NoTie = true)
    (hnG : PySem.W.specialIn K (.builtin "object.__class__") "__get__" = some (some (.builtin "getset_descriptor.__get__")))
    (htG : PySem.W.takesIn K (.builtin "object.__class__") = some true)
    (w_NoTieg : PySem.W.findIn K (.ref c_NoTie) "__getattribute__" = some (some (.builtin "BaseException.__getattribute__")))
    (w_NoTiek : PySem.W.findIn K (.ref c_NoTie) "__getattr__" = some none)
    (w_NoTies : PySem.W.subIn K (.ref c_NoTie) (.type "BaseException") = some true)
    (w_NoTied : PySem.W.hasDictIn K c_NoTie = true)
    (w_NoTiea : PySem.W.findIn K (.ref c_NoTie) "__class__" = some (some (.builtin "object.__class__")))
    (w_NoTiem : PySem.W.mroIn K c_NoTie (.type "object") = some true)
    (w_NoTiev : PySem.W.subIn K (.ref c_NoTie) (.type "ValueError") = some true)
    (w_NoTie_TreeError : PySem.W.subIn K (.ref c_NoTie) (.ref c_TreeError) = some true)
    (w_NoTie_NoThing : PySem.W.subIn K (.ref c_NoTie) (.ref c_NoThing) = some true)
    (w_NoTie_NoFit : PySem.W.subIn K (.ref c_NoTie) (.ref c_NoFit) = some false)
    (w_NoTie_NoTie : PySem.W.subIn K (.ref c_NoTie) (.ref c_NoTie) = some true)
    (w_NoTie_NoItem : PySem.W.subIn K (.ref c_NoTie) (.ref c_NoItem) = some false)
    (x1_NoTie : PySem.W.excIn K c_NoTie [.type "ValueError", .type "Exception", .type "BaseException", .type "object"] "ValueError.__new__" = true)
    (x2_NoTie : PySem.W.keepIn K (.ref c_NoTie) = true)
    (w_NoItemg : PySem.W.findIn K (.ref c_NoItem) "__getattribute__" = some (some (.builtin "BaseException.__getattribute__")))
    (w_NoItemk : PySem.W.findIn K (.ref c_NoItem) "__getattr__" = some none)
    (w_NoItems : PySem.W.subIn K (.ref c_NoItem) (.type "BaseException") = some true)
    (w_NoItemd : PySem.W.hasDictIn K c_NoItem = true)
    (w_NoItema : PySem.W.findIn K (.ref c_NoItem) "__class__" = some (some (.builtin "object.__class__")))
    (w_NoItemm : PySem.W.mroIn K c_NoItem (.type "object") = some true)
    (w_NoItemv : PySem.W.subIn K (.ref c_NoItem) (.type "ValueError") = some true)
    (w_NoItem_TreeError : PySem.W.subIn K (.ref c_NoItem) (.ref c_TreeError) = some true)
    (w_NoItem_NoThing : PySem.W.subIn K (.ref c_NoItem) (.ref c_NoThing) = some false)
    (w_NoItem_NoFit : PySem.W.subIn K (.ref c_NoItem) (.ref c_NoFit) = some true)
    (w_NoItem_NoTie : PySem.W.subIn K (.ref c_NoItem) (.ref c_NoTie) = some false)
    (w_NoItem_NoItem : PySem.W.subIn K (.ref c_NoItem) (.ref c_NoItem) = some true)
    (xl1_NoItem : K.lookup c_NoItem = some (excClassObj nm_NoItem q_NoItem c_NoItem N_NoItem bs_NoItem bm_NoItem true sn_NoItem sub_NoItem ab_NoItem col_NoItem dd_NoItem g0_NoItem g1_NoItem g2_NoItem g3_NoItem g5_NoItem "ValueError.__new__"))
    (xl2_NoItem : PySem.HandSPX.refsVE bm_NoItem = true)
    (xl3_NoItem : PySem.W.findIn K (.ref c_NoItem) "__setattr__" = some (some (.builtin "object.__setattr__")))
    (xl4_NoItem : PySem.W.keepIn K (.ref c_NoItem) = true)
    (xl5_NoItem : PySem.W.findIn K (.ref c_NoItem) "__init__" = some (some (.ref fI_NoItem)))
    (xl6_NoItem : PySem.W.typeIn K (.ref fI_NoItem) = some (.type "function"))
    (xl7_NoItem : PySem.W.findIn K (.ref c_NoItem) "at" = some none)
    (lI_NoItem : K.lookup fI_NoItem = some ⟨ocI_NoItem, odI_NoItem, .func (PySem.W.fnOf "__init__" "NoItem.__init__" (defArgs sI_NoItem) (defBody sI_NoItem) (defScope sI_NoItem) .none kVI_NoItem dcI_NoItem pmI_NoItem anI_NoItem cdI_NoItem ctI_NoItem), slI_NoItem⟩)
    (cI_NoItem : PySem.W.codeIn K cdI_NoItem "NoItem.__init__" = true)
    (kI_NoItem : PySem.W.keepIn K (.ref fI_NoItem) = true)
    {s₁ : Shared} {base : Heap} {H : Hp} {a : Addr} {ns : List Int} (hlen : ns.length ≤ 63) (hS : SqL K H a (ns.map V.int)) (e0 : Env0 P w K mg base callerA [] s₁ H) :
    codeAny (model P w) callerA (.call (.ref fa) ⟨[.ref a], []⟩) (CR CX0 [] P w H s₁ (fun v _ => v = V.bl true) fun _ _ _ => False) s₁ := by
  have T : Bl mg := ⟨PySem.W.mg_none_of X G z1, PySem.W.mg_none_of X G z2, PySem.W.mg_none_of X G z3, PySem.W.mg_none_of X G z4, PySem.W.mg_none_of X G z5, PySem.W.mg_none_of X G z6, PySem.W.mg_none_of X G z7, PySem.W.mg_none_of X G z8, PySem.W.mg_none_of X G z9, PySem.W.mg_none_of X G z10, PySem.W.mg_none_of X G z11, PySem.W.mg_none_of X G z12⟩
  have cTIED : ∃ t, mg "TIED" = some (.int 1000 t) := ⟨_, PySem.W.mg_of X G n1⟩
  have cFIELDS : ∃ t, mg "FIELDS" = some (.int 8 t) := ⟨_, PySem.W.mg_of X G n2⟩
  have z_min : mg "min" = none := PySem.W.mg_none_of X G z13
  let A : Cls K mg := ⟨c_TreeError, c_NoThing, c_NoFit, c_NoTie, c_NoItem, PySem.W.mg_of X G y_TreeError, PySem.W.mg_of X G y_NoThing, PySem.W.mg_of X G y_NoFit, PySem.W.mg_of X G y_NoTie, PySem.W.mg_of X G y_NoItem, ⟨PySem.W.mg_of X G y_NoTie, x1_NoTie, x2_NoTie, w_NoTies, o2_NoTie⟩, ⟨w_NoTieg, w_NoTiek, w_NoTies, w_NoTied, w_NoTiea, hnG, htG, w_NoTiem⟩, kit_ve w_NoTiev, kit_sub o1_TreeError o2_TreeError w_NoTie_TreeError, kit_sub o1_NoThing o2_NoThing w_NoTie_NoThing, kit_no o1_NoFit o2_NoFit w_NoTie_NoTie w_NoTie_NoFit, kit_sub o1_NoTie o2_NoTie w_NoTie_NoTie, kit_no o1_NoItem o2_NoItem w_NoTie_NoTie w_NoTie_NoItem, PySem.W.exm_ref b1_NoTie b2_NoTie o2_NoTie w_NoTie_NoTie, ⟨⟨⟨_, _, _, _, _, _, _, _, _, _, _, _, _, _, _, xl1_NoItem, xl2_NoItem⟩, xl3_NoItem, w_NoItems, o2_NoItem, xl4_NoItem⟩, PySem.W.mg_of X G y_NoItem, xl7_NoItem, _, _, xl5_NoItem, xl6_NoItem, fun_mk (st := sI_NoItem) lI_NoItem cI_NoItem kI_NoItem⟩, ⟨w_NoItemg, w_NoItemk, w_NoItems, w_NoItemd, w_NoItema, hnG, htG, w_NoItemm⟩, kit_ve w_NoItemv, kit_sub o1_TreeError o2_TreeError w_NoItem_TreeError, kit_no o1_NoThing o2_NoThing w_NoItem_NoItem w_NoItem_NoThing, kit_sub o1_NoFit o2_NoFit w_NoItem_NoFit, kit_no o1_NoTie o2_NoTie w_NoItem_NoItem w_NoItem_NoTie, kit_sub o1_NoItem o2_NoItem w_NoItem_NoItem, PySem.W.exm_ref b1_NoTie b2_NoTie o2_NoTie w_NoItem_NoTie⟩
  have D : Nonempty (Defs K mg) := ⟨⟨at_mk X G a1 l1 c1 k1, at_mk X G a2 l2 c2 k2, at_mk X G a3 l3 c3 k3, at_mk X G a4 l4 c4 k4, at_mk X G a5 l5 c5 k5, at_mk X G a6 l6 c6 k6, at_mk X G a7 l7 c7 k7, at_mk X G a8 l8 c8 k8, at_mk X G a9 l9 c9 k9, at_mk X G a10 l10 c10 k10, at_mk X G a11 l11 c11 k11, at_mk X G a12 l12 c12 k12, at_mk X G a13 l13 c13 k13, at_mk X G a14 l14 c14 k14, at_mk X G a15 l15 c15 k15, at_mk X G a16 l16 c16 k16, at_mk X G a17 l17 c17 k17, at_mk X G a18 l18 c18 k18, at_mk X G a19 l19 c19 k19, at_mk X G a20 l20 c20 k20, at_mk X G a21 l21 c21 k21, at_mk X G a22 l22 c22 k22, at_mk X G a23 l23 c23 k23, at_mk X G a24 l24 c24 k24, at_mk X G a25 l25 c25 k25, at_mk X G a26 l26 c26 k26, at_mk X G a27 l27 c27 k27, at_mk X G a28 l28 c28 k28, at_mk X G a29 l29 c29 k29, at_mk X G a30 l30 c30 k30, at_mk X G a31 l31 c31 k31, at_mk X G a32 l32 c32 k32, at_mk X G a33 l33 c33 k33, at_mk X G a34 l34 c34 k34, at_mk X G a35 l35 c35 k35, at_mk X G a36 l36 c36 k36, at_mk X G a37 l37 c37 k37, at_mk X G a38 l38 c38 k38, at_mk X G a39 l39 c39 k39, at_mk X G a40 l40 c40 k40, at_mk X G a41 l41 c41 k41⟩⟩
  obtain ⟨D⟩ := D
  have e : D.d_law.f = fa := by
    have := hfa.symm.trans D.d_law.m
    cases this
    rfl
  rw [← e]
  exact ok_law D.d_law.F T (calls D T A z_min cFIELDS cTIED base) z_min hlen hS e0
end Tl

open PySem PySem.W PyProof.Rows
set_option Elab.async false
set_option maxRecDepth 100000 in
set_option maxHeartbeats 0 in
theorem PySem.Challenge.cw_treelore_k66_ties_as_lists_holds : PySem.Challenge.rw_treelore_k66_ties_as_lists.Holds := by
  w_on; o_law; k_head; (case hw => w_witness2)
  k_fill
  refine Tl.walk_at_top (l := PySem.Challenge.rw_treelore_k66_ties_as_lists) (n := 63) rfl (by decide) rfl (fun w h Y => PySem.W.kIn_of Y) ?F
  case F =>
    intro w mg fa h KX G hmg s₁ base H a ns hlen hKb hNb hS e0
    refine' Tl.all_mk KX G hmg ?a1 ?l1 ?c1 ?k1 ?a2 ?l2 ?c2 ?k2 ?a3 ?l3 ?c3 ?k3 ?a4 ?l4 ?c4 ?k4 ?a5 ?l5 ?c5 ?k5 ?a6 ?l6 ?c6 ?k6 ?a7 ?l7 ?c7 ?k7 ?a8 ?l8 ?c8 ?k8 ?a9 ?l9 ?c9 ?k9 ?a10 ?l10 ?c10 ?k10 ?a11 ?l11 ?c11 ?k11 ?a12 ?l12 ?c12 ?k12 ?a13 ?l13 ?c13 ?k13 ?a14 ?l14 ?c14 ?k14 ?a15 ?l15 ?c15 ?k15 ?a16 ?l16 ?c16 ?k16 ?a17 ?l17 ?c17 ?k17 ?a18 ?l18 ?c18 ?k18 ?a19 ?l19 ?c19 ?k19 ?a20 ?l20 ?c20 ?k20 ?a21 ?l21 ?c21 ?k21 ?a22 ?l22 ?c22 ?k22 ?a23 ?l23 ?c23 ?k23 ?a24 ?l24 ?c24 ?k24 ?a25 ?l25 ?c25 ?k25 ?a26 ?l26 ?c26 ?k26 ?a27 ?l27 ?c27 ?k27 ?a28 ?l28 ?c28 ?k28 ?a29 ?l29 ?c29 ?k29 ?a30 ?l30 ?c30 ?k30 ?a31 ?l31 ?c31 ?k31 ?a32 ?l32 ?c32 ?k32 ?a33 ?l33 ?c33 ?k33 ?a34 ?l34 ?c34 ?k34 ?a35 ?l35 ?c35 ?k35 ?a36 ?l36 ?c36 ?k36 ?a37 ?l37 ?c37 ?k37 ?a38 ?l38 ?c38 ?k38 ?a39 ?l39 ?c39 ?k39 ?a40 ?l40 ?c40 ?k40 ?a41 ?l41 ?c41 ?k41 ?z1 ?z2 ?z3 ?z4 ?z5 ?z6 ?z7 ?z8 ?z9 ?z10 ?z11 ?z12 ?z13 ?n1 ?n2 ?y_TreeError ?y_NoThing ?y_NoFit ?y_NoTie ?y_NoItem ?o1_TreeError ?o2_TreeError ?o1_NoThing ?o2_NoThing ?o1_NoFit ?o2_NoFit ?o1_NoTie ?o2_NoTie ?o1_NoItem ?o2_NoItem ?b1_NoTie ?b2_NoTie ?hnG ?htG ?w_NoTieg ?w_NoTiek ?w_NoTies ?w_NoTied ?w_NoTiea ?w_NoTiem ?w_NoTiev ?w_NoTie_TreeError ?w_NoTie_NoThing ?w_NoTie_NoFit ?w_NoTie_NoTie ?w_NoTie_NoItem ?x1_NoTie ?x2_NoTie ?w_NoItemg ?w_NoItemk ?w_NoItems ?w_NoItemd ?w_NoItema ?w_NoItemm ?w_NoItemv ?w_NoItem_TreeError ?w_NoItem_NoThing ?w_NoItem_NoFit ?w_NoItem_NoTie ?w_NoItem_NoItem ?xl1_NoItem ?xl2_NoItem ?xl3_NoItem ?xl4_NoItem ?xl5_NoItem ?xl6_NoItem ?xl7_NoItem ?lI_NoItem ?cI_NoItem ?kI_NoItem hlen hS e0
    (case a1 => k_is)
    (case l1 => k_is)
    (case c1 => k_is)
    (case k1 => k_is)
    (case a2 => k_is)
    (case l2 => k_is)
    (case c2 => k_is)
    (case k2 => k_is)
    (case a3 => k_is)
    (case l3 => k_is)
    (case c3 => k_is)
    (case k3 => k_is)
    (case a4 => k_is)
    (case l4 => k_is)
    (case c4 => k_is)
    (case k4 => k_is)
    (case a5 => k_is)
    (case l5 => k_is)
    (case c5 => k_is)
    (case k5 => k_is)
    (case a6 => k_is)
    (case l6 => k_is)
    (case c6 => k_is)
    (case k6 => k_is)
    (case a7 => k_is)
    (case l7 => k_is)
    (case c7 => k_is)
    (case k7 => k_is)
    (case a8 => k_is)
    (case l8 => k_is)
    (case c8 => k_is)
    (case k8 => k_is)
    (case a9 => k_is)
    (case l9 => k_is)
    (case c9 => k_is)
    (case k9 => k_is)
    (case a10 => k_is)
    (case l10 => k_is)
    (case c10 => k_is)
    (case k10 => k_is)
    (case a11 => k_is)
    (case l11 => k_is)
    (case c11 => k_is)
    (case k11 => k_is)
    (case a12 => k_is)
    (case l12 => k_is)
    (case c12 => k_is)
    (case k12 => k_is)
    (case a13 => k_is)
    (case l13 => k_is)
    (case c13 => k_is)
    (case k13 => k_is)
    (case a14 => k_is)
    (case l14 => k_is)
    (case c14 => k_is)
    (case k14 => k_is)
    (case a15 => k_is)
    (case l15 => k_is)
    (case c15 => k_is)
    (case k15 => k_is)
    (case a16 => k_is)
    (case l16 => k_is)
    (case c16 => k_is)
    (case k16 => k_is)
    (case a17 => k_is)
    (case l17 => k_is)
    (case c17 => k_is)
    (case k17 => k_is)
    (case a18 => k_is)
    (case l18 => k_is)
    (case c18 => k_is)
    (case k18 => k_is)
    (case a19 => k_is)
    (case l19 => k_is)
    (case c19 => k_is)
    (case k19 => k_is)
    (case a20 => k_is)
    (case l20 => k_is)
    (case c20 => k_is)
    (case k20 => k_is)
    (case a21 => k_is)
    (case l21 => k_is)
    (case c21 => k_is)
    (case k21 => k_is)
    (case a22 => k_is)
    (case l22 => k_is)
    (case c22 => k_is)
    (case k22 => k_is)
    (case a23 => k_is)
    (case l23 => k_is)
    (case c23 => k_is)
    (case k23 => k_is)
    (case a24 => k_is)
    (case l24 => k_is)
    (case c24 => k_is)
    (case k24 => k_is)
    (case a25 => k_is)
    (case l25 => k_is)
    (case c25 => k_is)
    (case k25 => k_is)
    (case a26 => k_is)
    (case l26 => k_is)
    (case c26 => k_is)
    (case k26 => k_is)
    (case a27 => k_is)
    (case l27 => k_is)
    (case c27 => k_is)
    (case k27 => k_is)
    (case a28 => k_is)
    (case l28 => k_is)
    (case c28 => k_is)
    (case k28 => k_is)
    (case a29 => k_is)
    (case l29 => k_is)
    (case c29 => k_is)
    (case k29 => k_is)
    (case a30 => k_is)
    (case l30 => k_is)
    (case c30 => k_is)
    (case k30 => k_is)
    (case a31 => k_is)
    (case l31 => k_is)
    (case c31 => k_is)
    (case k31 => k_is)
    (case a32 => k_is)
    (case l32 => k_is)
    (case c32 => k_is)
    (case k32 => k_is)
    (case a33 => k_is)
    (case l33 => k_is)
    (case c33 => k_is)
    (case k33 => k_is)
    (case a34 => k_is)
    (case l34 => k_is)
    (case c34 => k_is)
    (case k34 => k_is)
    (case a35 => k_is)
    (case l35 => k_is)
    (case c35 => k_is)
    (case k35 => k_is)
    (case a36 => k_is)
    (case l36 => k_is)
    (case c36 => k_is)
    (case k36 => k_is)
    (case a37 => k_is)
    (case l37 => k_is)
    (case c37 => k_is)
    (case k37 => k_is)
    (case a38 => k_is)
    (case l38 => k_is)
    (case c38 => k_is)
    (case k38 => k_is)
    (case a39 => k_is)
    (case l39 => k_is)
    (case c39 => k_is)
    (case k39 => k_is)
    (case a40 => k_is)
    (case l40 => k_is)
    (case c40 => k_is)
    (case k40 => k_is)
    (case a41 => k_is)
    (case l41 => k_is)
    (case c41 => k_is)
    (case k41 => k_is)
    (case z1 => k_is)
    (case z2 => k_is)
    (case z3 => k_is)
    (case z4 => k_is)
    (case z5 => k_is)
    (case z6 => k_is)
    (case z7 => k_is)
    (case z8 => k_is)
    (case z9 => k_is)
    (case z10 => k_is)
    (case z11 => k_is)
    (case z12 => k_is)
    (case z13 => k_is)
    (case n1 => k_is)
    (case n2 => k_is)
    (case y_TreeError => k_is)
    (case y_NoThing => k_is)
    (case y_NoFit => k_is)
    (case y_NoTie => k_is)
    (case y_NoItem => k_is)
    (case o1_TreeError => k_is)
    (case o2_TreeError => k_is)
    (case o1_NoThing => k_is)
    (case o2_NoThing => k_is)
    (case o1_NoFit => k_is)
    (case o2_NoFit => k_is)
    (case o1_NoTie => k_is)
    (case o2_NoTie => k_is)
    (case o1_NoItem => k_is)
    (case o2_NoItem => k_is)
    (case b1_NoTie => k_is)
    (case b2_NoTie => k_is)
    (case hnG => k_is)
    (case htG => k_is)
    (case w_NoTieg => k_is)
    (case w_NoTiek => k_is)
    (case w_NoTies => k_is)
    (case w_NoTied => k_is)
    (case w_NoTiea => k_is)
    (case w_NoTiem => k_is)
    (case w_NoTiev => k_is)
    (case w_NoTie_TreeError => first | k_is | rfl)
    (case w_NoTie_NoThing => first | k_is | rfl)
    (case w_NoTie_NoFit => first | k_is | rfl)
    (case w_NoTie_NoTie => first | k_is | rfl)
    (case w_NoTie_NoItem => first | k_is | rfl)
    (case x1_NoTie => k_exc)
    (case x2_NoTie => k_is)
    (case w_NoItemg => k_is)
    (case w_NoItemk => k_is)
    (case w_NoItems => k_is)
    (case w_NoItemd => k_is)
    (case w_NoItema => k_is)
    (case w_NoItemm => k_is)
    (case w_NoItemv => k_is)
    (case w_NoItem_TreeError => first | k_is | rfl)
    (case w_NoItem_NoThing => first | k_is | rfl)
    (case w_NoItem_NoFit => first | k_is | rfl)
    (case w_NoItem_NoTie => first | k_is | rfl)
    (case w_NoItem_NoItem => first | k_is | rfl)
    (case xl1_NoItem => k_is)
    (case xl2_NoItem => first | rfl | decide | k_is)
    (case xl3_NoItem => k_is)
    (case xl4_NoItem => k_is)
    (case xl5_NoItem => k_is)
    (case xl6_NoItem => k_is)
    (case xl7_NoItem => k_is)
    (case lI_NoItem => k_is)
    (case cI_NoItem => k_is)
    (case kI_NoItem => k_is)

