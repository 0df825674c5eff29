import PyProof.Rows.All
import Wide.All
import OpenK.AllK
import Wide.FinOn
import HandS.ForMost
import HandS.IsInst
import HandS.TupAny
import HandS.TupMul
import HandS.Style
import HandS.Flow
import HandS.Walk
import KE.GoesMore
import HandS.FStrTup
import PySem.Challenge.RW_treelore_k01_tags_trees_paths
set_option Elab.async false
set_option linter.all false
set_option maxRecDepth 100000
set_option maxHeartbeats 4000000
/-! Data in the heap, by value: what stays when the heap grows, what isinstance and len answer of it. -/
namespace Tl
open PySem L2

theorem same_new {H : Hp} {p : Addr} {o : HO} (h : H p = none) : Same H (upd H p o) := fun b u q => by
  rw [upd_ne (ne_of_none q h)]
  exact q
/-- what F does not know may change -/
theorem same_mut {F H : Hp} {p : Addr} {o : HO} (e : Same F H) (h : F p = none) : Same F (upd H p o) := fun b u q => by
  rw [upd_ne (ne_of_none q h)]
  exact e b u q
theorem same_rd {H H' : Hp} {a : Addr} {u : HO} (e : Same H H') (h : Rd H a u) : Rd H' a u := by
  rcases h with h | ⟨o, h⟩
  · exact .inl (e a _ h)
  · exact .inr ⟨o, e a _ h⟩
theorem same_t {K : PySem.W.Frag} {H H' : Hp} {a : Addr} {xs : List V} (e : Same H H') (h : SqT K H a xs) : SqT K H' a xs := by
  rcases h with h | h
  · exact .inl (same_rd e h)
  · exact .inr h
theorem same_l {K : PySem.W.Frag} {H H' : Hp} {a : Addr} {xs : List V} (e : Same H H') (h : SqL K H a xs) : SqL K H' a xs := by
  rcases h with h | h
  · exact .inl (same_rd e h)
  · exact .inr h
mutual
theorem dp_mono {K : PySem.W.Frag} {H H' : Hp} (e : Same H H') : ∀ (d : PyData) (v : V), Dp K H v d → Dp K H' v d
  | .none, _, h => by cases h; exact .non
  | .bool b, _, h => by cases h; exact .bl b
  | .int i, _, h => by cases h; exact .int i
  | .str x, _, h => by cases h; exact .str x
  | .list ds, _, h => by
    cases h with
    | lst hs ha => exact .lst (same_l e hs) (dpAll_mono e ds _ ha)
  | .tuple ds, _, h => by
    cases h with
    | tup hs ha => exact .tup (same_t e hs) (dpAll_mono e ds _ ha)
  | .dict _, _, h => by cases h
theorem dpAll_mono {K : PySem.W.Frag} {H H' : Hp} (e : Same H H') : ∀ (ds : List PyData) (vs : List V), DpAll K H vs ds → DpAll K H' vs ds
  | [], _, h => by cases h; exact .nil
  | d :: ds, _, h => by
    cases h with
    | cons h1 h2 => exact .cons (dp_mono e d _ h1) (dpAll_mono e ds _ h2)
end
/-- a thing of the law: data, or the empty dict -/
inductive Dt (K : PySem.W.Frag) (H : Hp) : V → PyData → Prop
  | d {v : V} {d : PyData} : Dp K H v d → Dt K H v d
  | e {a : Addr} : H a = some (.dK []) → Dt K H (.ref a) (.dict [])
theorem Dt.mono {K : PySem.W.Frag} {H H' : Hp} {v : V} {d : PyData} (e : Same H H') (h : Dt K H v d) : Dt K H' v d := by
  cases h with
  | d h => exact .d (dp_mono e _ _ h)
  | e h => exact .e (e _ _ h)
theorem DpAll.len {K : PySem.W.Frag} {H : Hp} : ∀ {vs : List V} {ds : List PyData}, DpAll K H vs ds → vs.length = ds.length
  | _, _, .nil => rfl
  | _, _, .cons _ h => by rw [List.length_cons, List.length_cons, DpAll.len h]
theorem DpAll.get {K : PySem.W.Frag} {H : Hp} : ∀ {vs : List V} {ds : List PyData} {i : Nat} {v : V}, DpAll K H vs ds → vs[i]? = some v → ∃ d, ds[i]? = some d ∧ Dp K H v d
  | _, _, _, _, .nil, e => by simp at e
  | _, _, 0, _, .cons h _, e => by simp at e; subst e; exact ⟨_, rfl, h⟩
  | _, _, i + 1, v, .cons _ h, e => by
    obtain ⟨d, h1, h2⟩ := DpAll.get (i := i) (v := v) h (by simpa using e)
    exact ⟨d, by simpa using h1, h2⟩
theorem DpAll.got {K : PySem.W.Frag} {H : Hp} : ∀ {vs : List V} {ds : List PyData} {i : Nat} {d : PyData}, DpAll K H vs ds → ds[i]? = some d → ∃ v, vs[i]? = some v ∧ Dp K H v d
  | _, _, _, _, .nil, e => by simp at e
  | _, _, 0, _, .cons h _, e => by simp at e; subst e; exact ⟨_, rfl, h⟩
  | _, _, i + 1, d, .cons _ h, e => by
    obtain ⟨v, h1, h2⟩ := DpAll.got (i := i) (d := d) h (by simpa using e)
    exact ⟨v, by simpa using h1, h2⟩
theorem DpAll.app {K : PySem.W.Frag} {H : Hp} : ∀ {vs ws : List V} {ds es : List PyData}, DpAll K H vs ds → DpAll K H ws es → DpAll K H (vs ++ ws) (ds ++ es)
  | _, _, _, _, .nil, h => h
  | _, _, _, _, .cons a b, h => .cons a (DpAll.app b h)
theorem DpAll.take {K : PySem.W.Frag} {H : Hp} : ∀ {vs : List V} {ds : List PyData} (n : Nat), DpAll K H vs ds → DpAll K H (vs.take n) (ds.take n)
  | _, _, 0, _ => .nil
  | _, _, _ + 1, .nil => .nil
  | _, _, n + 1, .cons a b => .cons a (DpAll.take n b)
theorem DpAll.drop {K : PySem.W.Frag} {H : Hp} : ∀ {vs : List V} {ds : List PyData} (n : Nat), DpAll K H vs ds → DpAll K H (vs.drop n) (ds.drop n)
  | _, _, 0, h => h
  | _, _, _ + 1, .nil => .nil
  | _, _, n + 1, .cons a b => DpAll.drop n b
theorem DpAll.rev {K : PySem.W.Frag} {H : Hp} : ∀ {vs : List V} {ds : List PyData}, DpAll K H vs ds → DpAll K H vs.reverse ds.reverse
  | _, _, .nil => .nil
  | _, _, .cons a b => by rw [List.reverse_cons, List.reverse_cons]; exact DpAll.app (DpAll.rev b) (.cons a .nil)
theorem DpAll.rep {K : PySem.W.Frag} {H : Hp} {vs : List V} {ds : List PyData} (h : DpAll K H vs ds) : ∀ n : Nat, DpAll K H (List.replicate n vs).flatten (List.replicate n ds).flatten
  | 0 => .nil
  | n + 1 => by
    rw [List.replicate_succ, List.replicate_succ, List.flatten_cons, List.flatten_cons]
    exact DpAll.app h (DpAll.rep h n)

theorem DpAll.two {K : PySem.W.Frag} {H : Hp} : ∀ {vs : List V} {ds : List PyData}, DpAll K H vs ds → vs.length = 2 → ∃ x y a b, vs = [x, y] ∧ ds = [a, b] ∧ Dp K H x a ∧ Dp K H y b
  | _, _, .nil, e => by simp at e
  | _, _, .cons _ .nil, e => by simp at e
  | _, _, .cons h1 (.cons h2 .nil), _ => ⟨_, _, _, _, rfl, rfl, h1, h2⟩
  | _, _, .cons _ (.cons _ (.cons _ _)), e => by simp at e

/-! ### what isinstance answers -/
def tyName : PyData → String
  | .none => "NoneType"
  | .bool _ => "bool"
  | .int _ => "int"
  | .str _ => "str"
  | .list _ => "list"
  | .tuple _ => "tuple"
  | .dict _ => "dict"
def isStr : PyData → Bool
  | .str _ => true
  | _ => false
def isTup : PyData → Bool
  | .tuple _ => true
  | _ => false
def isInt : PyData → Bool
  | .int _ => true
  | .bool _ => true
  | _ => false
def isBl : PyData → Bool
  | .bool _ => true
  | _ => false
theorem kit_str (d : PyData) : kitB (tyName d) "str" = some (isStr d) := by cases d <;> (simp only [tyName, isStr]; decide +kernel)
theorem kit_tup (d : PyData) : kitB (tyName d) "tuple" = some (isTup d) := by cases d <;> (simp only [tyName, isTup]; decide +kernel)
theorem kit_int (d : PyData) : kitB (tyName d) "int" = some (isInt d) := by cases d <;> (simp only [tyName, isInt]; decide +kernel)
theorem kit_bl (d : PyData) : kitB (tyName d) "bool" = some (isBl d) := by cases d <;> (simp only [tyName, isBl]; decide +kernel)
theorem ty_data {K : PySem.W.Frag} {H : Hp} {v : V} {d : PyData} (h : Dt K H v d) : TyX K H v (.type (tyName d)) := by
  cases h with
  | e h => exact .base (.dK h)
  | d h =>
    cases h with
    | non => exact .base .non
    | bl b => exact .base (.bl b)
    | int i => exact .base (.int i)
    | str x => exact .base (.str x)
    | lst hs _ =>
      rcases hs with (h | ⟨o, h⟩) | ⟨o, its, n, h1, h2, _⟩
      · exact .base (.lst h)
      · exact .base (.frz h)
      · exact .kList h1 h2
    | tup hs _ =>
      rcases hs with (h | ⟨o, h⟩) | ⟨o, its, n, h1, h2, _⟩
      · exact .base (.tup h)
      · exact .fTuple h
      · exact .kTuple h1 h2
theorem isi_d {K : PySem.W.Frag} {H : Hp} {v : V} {d : PyData} {T : String} {b : Bool} {Q : VK} (h : Dt K H v d) (e : kitB (tyName d) T = some b) (q : Q (.bl b) H) : rIsi K [v, .ty T] H Q :=
  ⟨v, .ty T, _, _, b, rfl, .ty T, ty_data h, kit_ty e, q⟩

/-! ### texts within are short -/
mutual
def txt : PyData → Bool
  | .str s => decide (s.length ≤ 1000) && PyData.strOk s
  | .list ds => txtAll ds
  | .tuple ds => txtAll ds
  | _ => true
def txtAll : List PyData → Bool
  | [] => true
  | d :: ds => txt d && txtAll ds
end
theorem txtAll_get : ∀ {ds : List PyData} {i : Nat} {d : PyData}, txtAll ds = true → ds[i]? = some d → txt d = true
  | [], _, _, _, e => by simp at e
  | a :: r, 0, d, h, e => by
    rw [txtAll, Bool.and_eq_true] at h
    simp at e
    subst e
    exact h.1
  | a :: r, i + 1, d, h, e => by
    rw [txtAll, Bool.and_eq_true] at h
    exact txtAll_get h.2 (by simpa using e)
theorem txtAll_app : ∀ {ds es : List PyData}, txtAll ds = true → txtAll es = true → txtAll (ds ++ es) = true
  | [], es, _, h => h
  | a :: r, es, h, h2 => by
    rw [txtAll, Bool.and_eq_true] at h
    rw [List.cons_append, txtAll, Bool.and_eq_true]
    exact ⟨h.1, txtAll_app h.2 h2⟩
theorem txtAll_rep {ds : List PyData} (h : txtAll ds = true) : ∀ n, txtAll (List.replicate n ds).flatten = true
  | 0 => rfl
  | n + 1 => by
    rw [List.replicate_succ, List.flatten_cons]
    exact txtAll_app h (txtAll_rep h n)
theorem txt_str {s : Str} (h : txt (.str s) = true) : s.length ≤ 1000 ∧ PyData.strOk s = true := by
  rw [txt, Bool.and_eq_true] at h
  exact ⟨of_decide_eq_true h.1, h.2⟩
/-- a list of plain values can be compared -/
def flatD : PyData → Bool
  | .none => true
  | .bool _ => true
  | .int _ => true
  | .str s => PyData.strOk s
  | _ => false
theorem flat_all : ∀ ds : List PyData, ds.all flatD = true → PyData.canLayAll0 ds = true ∧ PyData.depthAll ds = 0
  | [], _ => ⟨rfl, rfl⟩
  | d :: r, h => by
    rw [List.all_cons, Bool.and_eq_true] at h
    obtain ⟨h1, h2⟩ := flat_all r h.2
    have h0 := h.1
    rw [PyData.canLayAll0, PyData.depthAll, h1, h2]
    cases d with
    | none => exact ⟨rfl, rfl⟩
    | bool b => exact ⟨rfl, rfl⟩
    | int b => exact ⟨rfl, rfl⟩
    | str b =>
      rw [flatD] at h0
      rw [PyData.canLay0, PyData.depth, h0]
      exact ⟨rfl, rfl⟩
    | list b => exact Bool.noConfusion h0
    | tuple b => exact Bool.noConfusion h0
    | dict b => exact Bool.noConfusion h0
theorem flat_shaped {ds : List PyData} (h : ds.all flatD = true) : SeqAt.shaped (.list ds) = true := by
  obtain ⟨h1, h2⟩ := flat_all ds h
  unfold SeqAt.shaped
  rw [PyData.canLay0, PyData.depth, h1, h2]
  rfl
theorem sz1000 {n : Nat} (h : n ≤ 1000) : n ≤ sizeLine := Nat.le_of_lt (small1000 h)
/-- the built-in names that are still the built-in's -/
structure Bl (mg : Str → Option Value) : Prop where
  isi : mg "isinstance" = none
  int : mg "int" = none
  bool : mg "bool" = none
  str : mg "str" = none
  tuple : mg "tuple" = none
  list : mg "list" = none
  len : mg "len" = none
  all : mg "all" = none
  repr : mg "repr" = none
  max : mg "max" = none
  range : mg "range" = none
  enum : mg "enumerate" = none
section
variable {X : Cx}
theorem b_int (T : Bl X.mg) {p : Pos} (hg : Gl X "int" := by rfl) : PE X (.Name "int" p) (tC (.ty "int")) := pe_bltn hg T.int PyProof.Rows.boot_int rfl
theorem b_bool (T : Bl X.mg) {p : Pos} (hg : Gl X "bool" := by rfl) : PE X (.Name "bool" p) (tC (.ty "bool")) := pe_bltn hg T.bool PyProof.Rows.boot_bool rfl
theorem b_str (T : Bl X.mg) {p : Pos} (hg : Gl X "str" := by rfl) : PE X (.Name "str" p) (tC (.ty "str")) := pe_bltn hg T.str PyProof.Rows.boot_str rfl
theorem b_tuple (T : Bl X.mg) {p : Pos} (hg : Gl X "tuple" := by rfl) : PE X (.Name "tuple" p) (tC (.ty "tuple")) := pe_bltn hg T.tuple PyProof.Rows.boot_tuple rfl
end
theorem iteD {p A B : Prop} [Decidable p] (h1 : p → A) (h2 : ¬ p → B) : if decide p = true then A else B := by
  by_cases h : p
  · rw [if_pos (decide_eq_true h)]
    exact h1 h
  · rw [if_neg (by rw [decide_eq_false h]; exact Bool.false_ne_true)]
    exact h2 h
theorem iteN {p A B : Prop} [Decidable p] (h1 : ¬ p → A) (h2 : p → B) : if (!decide p) = true then A else B := by
  by_cases h : p
  · rw [if_neg (by rw [decide_eq_true h]; exact Bool.false_ne_true)]
    exact h2 h
  · rw [if_pos (by rw [decide_eq_false h]; rfl)]
    exact h1 h
theorem iteB {b : Bool} {A B : Prop} (h1 : b = true → A) (h2 : b = false → B) : if b = true then A else B := by
  cases b with
  | true => exact h1 rfl
  | false => rw [if_neg Bool.false_ne_true]; exact h2 rfl
/-! ### comprehensions whose parts leave all as it was -/
section
variable {K : PySem.W.Frag} {a : Addr} {xs : List V}
theorem fn_list : Walk (Itl K a) xs.length (fun H => SqL K H a xs) (YFn fun i => xs.getD i .non) :=
  walk_list.mono (fun _ h => h) fun i H x H' hi _ y => ⟨y.1, by show x = xs.getD i .non; rw [List.getD_eq_getElem?_getD, y.2]; rfl⟩
theorem fn_tup : Walk (Itt K a) xs.length (fun H => SqT K H a xs) (YFn fun i => xs.getD i .non) :=
  walk_tup.mono (fun _ h => h) fun i H x H' hi _ y => ⟨y.1, by show x = xs.getD i .non; rw [List.getD_eq_getElem?_getD, y.2]; rfl⟩
theorem fn_str {z : Str} : Walk (Its z) z.cps.toList.length (fun _ => True) (YFn fun i => .str ⟨#[z.cps.toList.getD i 0]⟩) :=
  walk_str.mono (fun _ h => h) fun i H x H' hi _ y => by
    obtain ⟨e, c, hc, rfl⟩ := y
    refine ⟨e, ?_⟩
    show V.str ⟨#[c]⟩ = V.str ⟨#[z.cps.toList.getD i 0]⟩
    rw [List.getD_eq_getElem?_getD, Array.getElem?_toList, hc]
    rfl
end
def picked {α : Type} (n : Nat) (f : Nat → Bool) (v : Nat → α) : List α := ((List.range n).filter f).map v
theorem picked_yes {α : Type} {n : Nat} {f : Nat → Bool} {v : Nat → α} (h : f n = true) : picked (n + 1) f v = picked n f v ++ [v n] := by
  unfold picked
  rw [List.range_succ, List.filter_append, List.map_append]
  simp [h]
theorem picked_no {α : Type} {n : Nat} {f : Nat → Bool} {v : Nat → α} (h : f n = false) : picked (n + 1) f v = picked n f v := by
  unfold picked
  rw [List.range_succ, List.filter_append, List.map_append]
  simp [h]
theorem picked_len {α : Type} (n : Nat) (f : Nat → Bool) (v : Nat → α) : (picked n f v).length ≤ n := by
  unfold picked
  rw [List.length_map]
  exact Nat.le_trans (List.length_filter_le _ _) (by rw [List.length_range]; exact Nat.le_refl n)
theorem picked_all {α β : Type} (xs : List α) (d : α) (g : α → β) : picked xs.length (fun _ => true) (fun i => g (xs.getD i d)) = xs.map g := by
  unfold picked
  rw [List.filter_eq_self.mpr (fun _ _ => rfl)]
  apply List.ext_getElem
  · simp
  · intro i h1 h2
    simp at h1 h2 ⊢
    rw [List.getElem?_eq_getElem h2]
    rfl
theorem picked_some {α β : Type} (xs : List α) (d : α) (p : α → Bool) (g : α → β) : picked xs.length (fun i => p (xs.getD i d)) (fun i => g (xs.getD i d)) = (xs.filter p).map g := by
  have h := picked_all xs d id
  unfold picked at h ⊢
  rw [List.filter_eq_self.mpr (fun _ _ => rfl), List.map_id] at h
  have e : (List.range xs.length).map (fun i => xs.getD i d) = xs := by simpa using h
  conv => rhs; rw [← e]
  rw [List.filter_map, List.map_map]
  rfl
theorem lc_pure {J : It} {n j : Nat} {G : Hp → Prop} {Xi : Nat → V} {tt : TT} {te : TE} {vs : List Nat} {σ : L2.St} {H1 : Hp} {D : Addr} {Qd : Hp → Prop} (wk : Walk J n G (YFn Xi)) (f : Nat → Bool) (v : Nat → V)
    (hG : ∀ H, Same H1 H → G H) (hn : n ≤ 1000000) (hw : ∀ x, wipe ((wipe σ vs).set j (some x)) vs = wipe σ vs) (hD : H1 D = none)
    (ht : ∀ i H, i < n → Same H1 H → ∀ Qt : Bool → Hp → Prop, (∀ H3, Same H H3 → Qt (f i) H3) → tt ((wipe σ vs).set j (some (Xi i))) H Qt)
    (he : ∀ i H, i < n → f i = true → Same H1 H → ∀ Qe : VK, (∀ H3, Same H H3 → Qe (v i) H3) → te ((wipe σ vs).set j (some (Xi i))) H Qe)
    (q : ∀ H2, Same H1 H2 → H2 D = some (.lst (picked n f v)) → Qd H2) :
    ∃ W : Nat → Nat → Hp → Prop, (∃ m, W 0 m (upd H1 D (.lst []))) ∧ ∀ i m H, W i m H →
      (J.stop i H ∧ Qd H) ∨ (J.go i H ∧ ∃ Nx : Hp → Prop, (∀ H', Nx H' → ∃ m', m' < m ∧ W (i + 1) m' H') ∧ ∀ x H', J.yld i H x H' → gName j x (wipe σ vs) H' fun σ2 H2 => wipe σ2 vs = wipe σ vs ∧ tt σ2 H2 fun b H3 =>
        if b = true then te σ2 H3 fun y H4 => ∃ acc, H4 D = some (.lst acc) ∧ acc.length < sizeLine ∧ Nx (upd H4 D (.lst (acc ++ [y]))) else Nx H3) := by
  refine lc_it wk (fun i H => Same H1 H ∧ H D = some (.lst (picked i f v))) ⟨same_new hD, upd_same⟩ (fun i H _ p => hG H p.1) (fun i x H H' hi p y => ?_) (fun H p => q H p.1 p.2)
  obtain ⟨rfl, rfl⟩ := y
  obtain ⟨p1, p2⟩ := p
  refine ⟨hw _, ht i _ hi p1 _ fun H3 e3 => ?_⟩
  refine ite2 (fun c => ?_) (fun c => ?_)
  · refine he i H3 hi c (p1.trans e3) _ fun H4 e4 => ?_
    refine ⟨_, e4 _ _ (e3 _ _ p2), ?_, ?_⟩
    · exact Nat.lt_of_le_of_lt (picked_len i f v) (Nat.lt_of_lt_of_le (Nat.lt_of_lt_of_le hi hn) (by decide))
    · exact ⟨same_mut ((p1.trans e3).trans e4) hD, by rw [upd_same, picked_yes c]⟩
  · have c' : f i = false := Bool.eq_false_iff.mpr c
    exact ⟨p1.trans e3, by rw [picked_no c']; exact e3 _ _ p2⟩
/-- a def of the program that is called: where it stands, and what it promises -/
structure Use (P : Program) (w : World) (K : PySem.W.Frag) (mg : Str → Option Value) (base : Heap) (x : Str) (ps : List Str) (k : Nat) (sp : Sp) where
  f : Addr
  fd : FuncData
  ok : FnOk P w K mg base CX0 k f fd ps sp
  m : mg x = some (.ref f)
  kp : PySem.W.keepIn K (.ref f) = true
  b : Binds K fd ps []
end Tl

set_option Elab.async false
set_option linter.all false
set_option maxRecDepth 100000
set_option maxHeartbeats 4000000
namespace Tl
open PySem L2
def top (i : Nat) : Stmt := PySem.Challenge.pw_treelore_k01_tags_trees_paths.main.body.getD i (.Pass ⟨0, 0, 0, 0⟩)
abbrev sIsCount : Stmt := top 4
abbrev sIsNumber : Stmt := top 5
abbrev sIsTag : Stmt := top 6
abbrev sIsPath : Stmt := top 7
abbrev sIsTree : Stmt := top 8
abbrev sRoom : Stmt := top 9
abbrev sTagKids : Stmt := top 10
/-! ### what they answer -/
def isCount : PyData → Bool
  | .int i => decide (0 ≤ i)
  | _ => false
def isNum (m : Int) : PyData → Bool
  | .int i => decide (0 ≤ i) && decide (i ≤ m)
  | _ => false
def small (c : Nat) : Bool := decide (97 ≤ c) && decide (c ≤ 122)
def isTag : PyData → Bool
  | .str s => decide (1 ≤ s.length) && decide (s.length ≤ 8) && s.cps.toList.all small
  | _ => false
def isPath : PyData → Bool
  | .tuple ds => decide (ds.length < 12) && ds.all (isNum 59)
  | _ => false
def tagKids : PyData → Bool
  | .tuple [a, b] => isTag a && isTup b
  | _ => false
def spB (K : PySem.W.Frag) (f : PyData → Bool) : Sp := fun vs H Q _ => ∃ (v : V) (d : PyData), vs = [v] ∧ Dt K H v d ∧ txt d = true ∧ ∀ H', Same H H' → Q (.bl (f d)) H'
def spB2 (K : PySem.W.Frag) (f : Int → PyData → Bool) : Sp := fun vs H Q _ => ∃ (v : V) (d : PyData) (m : Int), vs = [v, .int m] ∧ Dt K H v d ∧ txt d = true ∧ ∀ H', Same H H' → Q (.bl (f m d)) H'
/-- the program's own numbers -/
structure Cs (mg : Str → Option Value) : Prop where
  SIZE : ∃ t, mg "SIZE" = some (.int 60 t)
  DEPTH : ∃ t, mg "DEPTH" = some (.int 12 t)
  SIGNS : ∃ t, mg "SIGNS" = some (.int 8 t)
theorem c_SIZE {X : Cx} (C : Cs X.mg) {p : Pos} (hg : Gl X "SIZE" := by rfl) : PE X (.Name "SIZE" p) (tC (.int 60)) := by
  obtain ⟨t, e⟩ := C.SIZE
  exact pe_glob hg e ⟨t, rfl⟩
theorem c_DEPTH {X : Cx} (C : Cs X.mg) {p : Pos} (hg : Gl X "DEPTH" := by rfl) : PE X (.Name "DEPTH" p) (tC (.int 12)) := by
  obtain ⟨t, e⟩ := C.DEPTH
  exact pe_glob hg e ⟨t, rfl⟩
theorem c_SIGNS {X : Cx} (C : Cs X.mg) {p : Pos} (hg : Gl X "SIGNS" := by rfl) : PE X (.Name "SIGNS" p) (tC (.int 8)) := by
  obtain ⟨t, e⟩ := C.SIGNS
  exact pe_glob hg e ⟨t, rfl⟩
section
variable {P : Program} {w : World} {K : PySem.W.Frag} {mg : Str → Option Value} {base : Heap}
theorem scCount : FnScope ["thing"] ["thing"] (defScope sIsCount) := ⟨rfl, rfl, rfl, by decide +kernel, rfl, by decide +kernel, by decide +kernel⟩
theorem ok_count {f : Addr} {fd : FuncData} {k : Nat} (F : Fun K "is_count" "is_count" sIsCount f fd) (T : Bl mg) : FnOk P w K mg base CX0 (k + 1) f fd ["thing"] (spB K isCount) := by
  refine F.ok scCount (fun vs H Q E h => ?_) (fun cdv A outer s H vs Q E hr h => ?_)
  · obtain ⟨v, d, rfl, _⟩ := h
    rfl
  obtain ⟨v, d, rfl, hv, _, q⟩ := h
  refine ⟨_, (pss_one (ps_ret (pe_and (pe_callB call_isi (by rfl) T.isi PyProof.Rows.boot_isinstance (pa_cons (pv 0) (pa_cons (b_int T) pa_nil))) (pe_and (pe_not (pe_callB call_isi (by rfl) T.isi PyProof.Rows.boot_isinstance (pa_cons (pv 0) (pa_cons (b_bool T) pa_nil)))) (pe_one (pe_cmpR op_ge (pv 0) pe_int (nomark _))))))), ?_⟩
  refine ⟨v, rfl, v, .ty "int", _, _, _, rfl, .ty "int", ty_data hv, kit_ty (kit_int d), _, rfl, ?_⟩
  have q' := q H (Same.refl H)
  cases d with
  | int i =>
    cases hv with
    | d hv =>
      cases hv
      refine ⟨_, rfl, _, .ty "bool", _, _, _, rfl, .ty "bool", ty_data (.d (.int i)), kit_ty (kit_bl _), _, rfl, _, rfl, ?_⟩
      exact ⟨_, rfl, i, 0, rfl, rfl, q'⟩
  | bool b =>
    refine ⟨v, rfl, v, .ty "bool", _, _, _, rfl, .ty "bool", ty_data hv, kit_ty (kit_bl _), _, rfl, _, rfl, ?_⟩
    exact q'
  | none => exact q'
  | str s => exact q'
  | list s => exact q'
  | tuple s => exact q'
  | dict s => exact q'
theorem scNumber : FnScope ["thing", "most"] ["thing", "most"] (defScope sIsNumber) := ⟨rfl, rfl, rfl, by decide +kernel, rfl, by decide +kernel, by decide +kernel⟩
theorem ok_number {f : Addr} {fd : FuncData} {k j : Nat} (F : Fun K "is_number" "is_number" sIsNumber f fd) (Uis_count : Use P w K mg base "is_count" ["thing"] j (spB K isCount)) (hj : j ≤ k) (T : Bl mg) : FnOk P w K mg base CX0 (k + 1) f fd ["thing", "most"] (spB2 K isNum) := by
  refine F.ok scNumber (fun vs H Q E h => ?_) (fun cdv A outer s H vs Q E hr h => ?_)
  · obtain ⟨v, d, m, rfl, _⟩ := h
    rfl
  obtain ⟨v, d, m, rfl, hv, ht, q⟩ := h
  refine ⟨_, (pss_one (ps_ret (pe_and (pe_call Uis_count.ok (hr.mono (by omega)) rfl Uis_count.m Uis_count.kp Uis_count.b .nil pass0 (pa_cons (pv 0) pa_nil)) (pe_one (pe_cmpR op_le (pv 0) (pv 1) (nomark _)))))), ?_⟩
  refine ⟨v, rfl, v, d, rfl, hv, ht, fun H' e => ⟨_, rfl, ?_⟩⟩
  have q' := q H' e
  cases d with
  | int i =>
    cases hv with
    | d hv =>
      cases hv
      refine ite2 (fun c => ?_) (fun c => ?_)
      · refine ⟨_, rfl, _, rfl, i, m, rfl, rfl, ?_⟩
        simp only [isNum] at q'
        rw [show decide (0 ≤ i) = true from c, Bool.true_and] at q'
        exact q'
      · have c' : decide (0 ≤ i) = false := Bool.eq_false_iff.mpr c
        simp only [isNum] at q'
        rw [c', Bool.false_and] at q'
        exact q'
  | bool b => exact q'
  | none => exact q'
  | str s => exact q'
  | list s => exact q'
  | tuple s => exact q'
  | dict s => exact q'
theorem lex1 (a b : Nat) : ([a] : List Nat) < [b] ↔ a < b := by
  constructor
  · intro h
    cases h with
    | rel h => exact h
    | cons h => cases h
  · intro h
    exact List.Lex.rel h
theorem le_a (c : Nat) : (!decide ((⟨#[c]⟩ : Str).cps.toList < ("a" : Str).cps.toList)) = decide (97 ≤ c) := by
  show (!decide ([c] < [97])) = _
  rw [decide_eq_decide.mpr (lex1 c 97)]
  by_cases h : c < 97
  · rw [decide_eq_true h, decide_eq_false (by omega)]; rfl
  · rw [decide_eq_false h, decide_eq_true (by omega)]; rfl
theorem le_z (c : Nat) : (!decide (("z" : Str).cps.toList < (⟨#[c]⟩ : Str).cps.toList)) = decide (c ≤ 122) := by
  show (!decide ([122] < [c])) = _
  rw [decide_eq_decide.mpr (lex1 122 c)]
  by_cases h : 122 < c
  · rw [decide_eq_true h, decide_eq_false (by omega)]; rfl
  · rw [decide_eq_false h, decide_eq_true (by omega)]; rfl
theorem scTag : FnScope ["thing", "sign"] ["thing"] (defScope sIsTag) := ⟨rfl, rfl, rfl, by decide +kernel, rfl, by decide +kernel, by decide +kernel⟩
theorem ok_tag {f : Addr} {fd : FuncData} {k : Nat} (F : Fun K "is_tag" "is_tag" sIsTag f fd) (T : Bl mg) (C : Cs mg) : FnOk P w K mg base CX0 (k + 1) f fd ["thing"] (spB K isTag) := by
  refine F.ok scTag (fun vs H Q E h => ?_) (fun cdv A outer s H vs Q E hr h => ?_)
  · obtain ⟨v, d, rfl, _⟩ := h
    rfl
  obtain ⟨v, d, rfl, hv, ht, q⟩ := h
  refine ⟨_, (pss_cons (ps_if (PW.pt (pw_or (pt_not (pt_val (pe_callB call_isi (by rfl) T.isi PyProof.Rows.boot_isinstance (pa_cons (pv 0) (pa_cons (b_str T) pa_nil))))) (pw_or1 (pt_not (pt_chain op_le op_le pe_int (pe_callB call_len_str (by rfl) T.len PySem.boot_len (pa_cons (pv 0) pa_nil)) (c_SIGNS C)))))) (pss_one (ps_ret pe_bl)) pss_nil)
    (pss_one (ps_ret (pe_callB (cr_all rfl) (by rfl) T.all PyProof.Rows.boot_all (pa_cons (pe_lc (own := [("sign", 1)]) (g := gName 1) (tt := tYes) (by rfl) scTag.nd (pi_str (pv 0)) (blkOk_by (N := ["thing", "sign"]) (sc := defScope sIsTag) (own := [("sign", 1)]) (by decide +kernel)) (fun _ _ _ _ _ => pg_name (i := 1) scTag.nd rfl (Or.inl rfl)) (fun _ _ _ _ _ => pts_nil) (fun _ _ _ _ _ => (pe_chain op_le_str op_le_str pe_str (pv 1) pe_str))) pa_nil))))), ?_⟩
  refine ⟨v, rfl, v, .ty "str", _, _, _, rfl, .ty "str", ty_data hv, kit_ty (kit_str d), _, rfl, ?_⟩
  cases d with
  | str z =>
    cases hv with
    | d hv =>
      cases hv
      have hz : z.length ≤ 1000 := (txt_str ht).1
      refine ⟨_, rfl, z, rfl, sz1000 hz, 1, _, rfl, rfl, _, rfl, ?_⟩
      have hl : z.length = z.cps.toList.length := rfl
      have key : ∀ H', Same H H' → (1 ≤ z.length → z.length ≤ 8 → Q (.bl (z.cps.toList.all small)) H') ∧ (¬ (1 ≤ z.length ∧ z.length ≤ 8) → Q (.bl false) H') := fun H' e => by
        have q' := q H' e
        rw [isTag] at q'
        refine ⟨fun h1 h2 => ?_, fun h1 => ?_⟩
        · rw [decide_eq_true h1, decide_eq_true h2] at q'
          exact q'
        · by_cases c : 1 ≤ z.length
          · rw [decide_eq_false (p := z.length ≤ 8) (fun c2 => h1 ⟨c, c2⟩), Bool.and_false, Bool.false_and] at q'
            exact q'
          · rw [decide_eq_false c, Bool.false_and, Bool.false_and] at q'
            exact q'
      have tail : ∀ H', Same H H' → 1 ≤ z.length → z.length ≤ 8 → tRet (tCB (rAll K) (tCons (tLc (iStr (tVar 0)) (gName 1) tYes (tChain (fun x y H Q => ∃ i j, x = V.str i ∧ y = V.str j ∧ Q (V.bl (!decide (j.cps.toList < i.cps.toList))) H) (fun x y H Q => ∃ i j, x = V.str i ∧ y = V.str j ∧ Q (V.bl (!decide (j.cps.toList < i.cps.toList))) H) (tC (.str "a")) (tVar 1) (tC (.str "z"))) [1]) tNil)) { nx := fun _ H' => Q .non H', rt := Q } [some (.str z), none] H' := fun H' e h1 h2 => by
        refine ⟨_, rfl, z, rfl, fun D hD => ?_⟩
        refine lc_pure (n := z.cps.toList.length) (G := fun _ => True) fn_str (fun _ => true) (fun i => .bl (small (z.cps.toList.getD i 0))) (fun _ _ => True.intro) (by omega) (fun x => rfl) hD (fun i H3 _ _ Qt k => k H3 (Same.refl _)) (fun i H3 hi _ e3 Qe k => ?_) (fun H2 e2 h2' => ?_)
        · generalize z.cps.toList.getD i 0 = c at k ⊢
          refine ⟨.str ⟨#[c]⟩, rfl, _, _, rfl, rfl, _, rfl, ?_⟩
          have k' := k H3 (Same.refl _)
          rw [small] at k'
          rw [le_a]
          refine ite2 (fun c1 => ?_) (fun c1 => ?_)
          · refine ⟨_, _, rfl, rfl, ?_⟩
            rw [le_z]
            rw [c1, Bool.true_and] at k'
            exact k'
          · rw [Bool.eq_false_iff.mpr c1, Bool.false_and] at k'
            exact k'
        · rw [picked_all z.cps.toList 0 (fun c => V.bl (small c))] at h2'
          refine ⟨D, z.cps.toList.map small, rfl, .inl (.inl (by rw [List.map_map]; exact h2')), ?_⟩
          have q' := (key H2 (e.trans e2)).1 h1 h2
          rw [List.all_map]
          exact q'
      refine iteD (fun c1 => ?_) (fun c1 => ?_)
      · refine ⟨_, _, rfl, rfl, _, rfl, ?_⟩
        refine iteN (fun c2 => ?_) (fun c2 => ?_)
        · exact (key H (Same.refl H)).2 fun h => c2 (by omega)
        · exact tail H (Same.refl H) (by omega) (by omega)
      · refine ⟨_, rfl, ?_⟩
        exact (key H (Same.refl H)).2 fun h => c1 (by omega)
  | bool b => exact q H (Same.refl H)
  | int b => exact q H (Same.refl H)
  | none => exact q H (Same.refl H)
  | list s => exact q H (Same.refl H)
  | tuple s => exact q H (Same.refl H)
  | dict s => exact q H (Same.refl H)
theorem scPath : FnScope ["thing", "step"] ["thing"] (defScope sIsPath) := ⟨rfl, rfl, rfl, by decide +kernel, rfl, by decide +kernel, by decide +kernel⟩
theorem ok_path {f : Addr} {fd : FuncData} {k j : Nat} (F : Fun K "is_path" "is_path" sIsPath f fd) (Uis_number : Use P w K mg base "is_number" ["thing", "most"] j (spB2 K isNum)) (hj : j ≤ k) (T : Bl mg) (C : Cs mg) : FnOk P w K mg base CX0 (k + 1) f fd ["thing"] (spB K isPath) := by
  refine F.ok scPath (fun vs H Q E h => ?_) (fun cdv A outer s H vs Q E hr h => ?_)
  · obtain ⟨v, d, rfl, _⟩ := h
    rfl
  obtain ⟨v, d, rfl, hv, ht, q⟩ := h
  refine ⟨_, (pss_cons (ps_if (PW.pt (pw_or (pt_not (pt_val (pe_callB call_isi (by rfl) T.isi PyProof.Rows.boot_isinstance (pa_cons (pv 0) (pa_cons (b_tuple T) pa_nil))))) (pw_or1 (pt_cmpR op_ge (pe_callB call_len_seq (by rfl) T.len PySem.boot_len (pa_cons (pv 0) pa_nil)) (c_DEPTH C) (nomark _))))) (pss_one (ps_ret pe_bl)) pss_nil)
    (pss_one (ps_ret (pe_callB (cr_all rfl) (by rfl) T.all PyProof.Rows.boot_all (pa_cons (pe_lc (own := [("step", 1)]) (g := gName 1) (tt := tYes) (by rfl) scPath.nd (pi_tup (pv 0)) (blkOk_by (N := ["thing", "step"]) (sc := defScope sIsPath) (own := [("step", 1)]) (by decide +kernel)) (fun _ _ _ _ _ => pg_name (i := 1) scPath.nd rfl (Or.inl rfl)) (fun _ _ _ _ _ => pts_nil) (fun _ _ _ _ _ => (pe_call Uis_number.ok (hr.mono (by omega)) rfl Uis_number.m Uis_number.kp Uis_number.b .nil pass0 (pa_cons (pv 1) (pa_cons (pe_op op_sub (c_SIZE C) pe_int) pa_nil))))) pa_nil))))), ?_⟩
  refine ⟨v, rfl, v, .ty "tuple", _, _, _, rfl, .ty "tuple", ty_data hv, kit_ty (kit_tup d), _, rfl, ?_⟩
  cases d with
  | tuple ds =>
    cases hv with
    | d hv =>
      cases hv with
      | @tup a xs _ hs hx =>
      have hl : xs.length = ds.length := DpAll.len hx
      rw [txt] at ht
      refine ⟨_, rfl, a, xs, rfl, .inr hs, _, _, rfl, rfl, _, rfl, ?_⟩
      refine iteD (fun c => ?_) (fun c => ?_)
      · have q' := q H (Same.refl H)
        rw [isPath, decide_eq_false (by omega), Bool.false_and] at q'
        exact q'
      · refine ⟨_, rfl, a, rfl, ⟨_, hs⟩, fun D hD => ?_⟩
        refine lc_pure (n := xs.length) (G := fun H => SqT K H a xs) fn_tup (fun _ => true) (fun i => .bl (isNum 59 (ds.getD i .none))) (fun _ e => same_t e hs) (by omega) (fun x => rfl) hD (fun i H3 _ _ Qt k => k H3 (Same.refl _)) (fun i H3 hi _ e3 Qe k => ?_) (fun H2 e2 h2' => ?_)
        · obtain ⟨d', h1, h2⟩ := DpAll.get hx (List.getElem?_eq_getElem hi)
          have e1 : xs.getD i .non = xs[i] := by rw [List.getD_eq_getElem?_getD, List.getElem?_eq_getElem hi]; rfl
          have e2 : ds.getD i .none = d' := by rw [List.getD_eq_getElem?_getD, h1]; rfl
          rw [e1]
          rw [e2] at k
          exact ⟨_, rfl, _, _, rfl, rfl, _, d', 59, rfl, .d (dp_mono e3 _ _ h2), txtAll_get ht h1, fun H' e' => k H' e'⟩
        · rw [hl, picked_all ds .none (fun d => V.bl (isNum 59 d))] at h2'
          refine ⟨D, ds.map (isNum 59), rfl, .inl (.inl (by rw [List.map_map]; exact h2')), ?_⟩
          have q' := q H2 e2
          rw [isPath, decide_eq_true (by omega), Bool.true_and] at q'
          rw [List.all_map]
          exact q'
  | str z => exact q H (Same.refl H)
  | bool b => exact q H (Same.refl H)
  | int b => exact q H (Same.refl H)
  | none => exact q H (Same.refl H)
  | list s => exact q H (Same.refl H)
  | dict s => exact q H (Same.refl H)
theorem scTagKids : FnScope ["thing"] ["thing"] (defScope sTagKids) := ⟨rfl, rfl, rfl, by decide +kernel, rfl, by decide +kernel, by decide +kernel⟩
theorem ok_tagKids {f : Addr} {fd : FuncData} {k j : Nat} (F : Fun K "is_tag_and_kids" "is_tag_and_kids" sTagKids f fd) (Uis_tag : Use P w K mg base "is_tag" ["thing"] j (spB K isTag)) (hj : j ≤ k) (T : Bl mg) : FnOk P w K mg base CX0 (k + 1) f fd ["thing"] (spB K tagKids) := by
  refine F.ok scTagKids (fun vs H Q E h => ?_) (fun cdv A outer s H vs Q E hr h => ?_)
  · obtain ⟨v, d, rfl, _⟩ := h
    rfl
  obtain ⟨v, d, rfl, hv, ht, q⟩ := h
  refine ⟨_, (pss_one (ps_ret (pe_and (pe_callB call_isi (by rfl) T.isi PyProof.Rows.boot_isinstance (pa_cons (pv 0) (pa_cons (b_tuple T) pa_nil))) (pe_and (pe_cmpR op_eq (pe_callB call_len_seq (by rfl) T.len PySem.boot_len (pa_cons (pv 0) pa_nil)) pe_int (nomark _)) (pe_and (pe_call Uis_tag.ok (hr.mono (by omega)) rfl Uis_tag.m Uis_tag.kp Uis_tag.b .nil pass0 (pa_cons (pe_ix ix_tup (pv 0) pe_int (fun _ _ => rfl)) pa_nil)) (pe_one (pe_callB call_isi (by rfl) T.isi PyProof.Rows.boot_isinstance (pa_cons (pe_ix ix_tup (pv 0) pe_int (fun _ _ => rfl)) (pa_cons (b_tuple T) pa_nil))))))))), ?_⟩
  refine ⟨v, rfl, v, .ty "tuple", _, _, _, rfl, .ty "tuple", ty_data hv, kit_ty (kit_tup d), _, rfl, ?_⟩
  cases d with
  | tuple ds =>
    cases hv with
    | d hv =>
      cases hv with
      | @tup a xs _ hs hx =>
      have hl : xs.length = ds.length := DpAll.len hx
      rw [txt] at ht
      refine ⟨_, rfl, a, xs, rfl, .inr hs, rfl, _, rfl, ?_⟩
      refine iteD (fun c => ?_) (fun c => ?_)
      · have c' : xs.length = 2 := by have := V.int.inj c; omega
        obtain ⟨x0, y0, a0, b0, rfl, rfl, h1, h2⟩ := DpAll.two hx c'
        refine ⟨_, rfl, a, _, 0, _, rfl, rfl, hs, atI_nat (j := 0) rfl, _, a0, rfl, .d h1, txtAll_get (i := 0) ht rfl, fun H' e => ⟨_, rfl, ?_⟩⟩
        have q' := q H' e
        rw [tagKids] at q'
        refine iteB (fun c1 => ?_) (fun c1 => ?_)
        · refine ⟨_, rfl, a, _, 1, _, rfl, rfl, same_t e hs, atI_nat (j := 1) rfl, y0, .ty "tuple", _, _, _, rfl, .ty "tuple", ty_data (.d (dp_mono e _ _ h2)), kit_ty (kit_tup b0), ?_⟩
          rw [c1, Bool.true_and] at q'
          exact q'
        · rw [c1, Bool.false_and] at q'
          exact q'
      · have q' := q H (Same.refl H)
        have e : tagKids (.tuple ds) = false := by
          unfold tagKids
          split
          · rename_i h
            cases h
            rw [hl] at c
            exact absurd rfl c
          · rfl
        rw [e] at q'
        exact q'
  | str z => exact q H (Same.refl H)
  | bool b => exact q H (Same.refl H)
  | int b => exact q H (Same.refl H)
  | none => exact q H (Same.refl H)
  | list s => exact q H (Same.refl H)
  | dict s => exact q H (Same.refl H)
end
end Tl

set_option Elab.async false
set_option linter.all false
set_option maxRecDepth 100000
set_option maxHeartbeats 4000000
namespace Tl
open PySem L2
def kidsD : PyData → List PyData
  | .tuple [_, .tuple ks] => ks
  | _ => []
/-- the room behind a tree, its kids one behind another -/
def roomB : Nat → PyData → Nat → Option Nat
  | 0, _, _ => none
  | _ + 1, _, 0 => none
  | l + 1, d, r + 1 => if tagKids d = true then (kidsD d).foldl (fun o kd => o.bind (roomB l kd)) (some r) else none
def optV : Option Nat → V
  | none => .non
  | some n => .int n
def isTreeD (d : PyData) : Bool := (roomB 12 d 60).isSome
theorem fold_none {α : Type} (f : α → Nat → Option Nat) : ∀ ks : List α, ks.foldl (fun o kd => o.bind (f kd)) none = none
  | [] => rfl
  | _ :: r => by rw [List.foldl_cons]; exact fold_none f r
theorem fold_take {α : Type} (f : α → Nat → Option Nat) {ks : List α} {i : Nat} {kd : α} (h : ks[i]? = some kd) (o : Option Nat) :
    (ks.take (i + 1)).foldl (fun o kd => o.bind (f kd)) o = ((ks.take i).foldl (fun o kd => o.bind (f kd)) o).bind (f kd) := by
  rw [List.take_add_one, h, List.foldl_append]
  rfl
theorem fold_stop {α : Type} (f : α → Nat → Option Nat) {ks : List α} {i : Nat} {o : Option Nat} (h : (ks.take i).foldl (fun o kd => o.bind (f kd)) o = none) : ks.foldl (fun o kd => o.bind (f kd)) o = none := by
  rw [← List.take_append_drop i ks, List.foldl_append, h]
  exact fold_none f _
def spRoom (K : PySem.W.Frag) (n : Nat) : Sp := fun vs H Q _ => ∃ (v : V) (d : PyData) (l r : Nat), vs = [v, .int (l : Nat), .int (r : Nat)] ∧ Dt K H v d ∧ txt d = true ∧ l < n ∧ ∀ H', Same H H' → Q (optV (roomB l d r)) H'
section
variable {P : Program} {w : World} {K : PySem.W.Frag} {mg : Str → Option Value} {base : Heap}
theorem scRoom : FnScope ["thing", "levels", "room", "left", "kid"] ["thing", "levels", "room"] (defScope sRoom) := ⟨rfl, rfl, rfl, by decide +kernel, rfl, by decide +kernel, by decide +kernel⟩
theorem ok_room1 {f : Addr} {fd : FuncData} {n j : Nat} (F : Fun K "room_behind" "room_behind" sRoom f fd) (Uroom_behind : Use P w K mg base "room_behind" ["thing", "levels", "room"] (2 + n) (spRoom K n)) (Uis_tag_and_kids : Use P w K mg base "is_tag_and_kids" ["thing"] j (spB K tagKids)) (hj : j ≤ 2) (T : Bl mg) :
    FnOk P w K mg base CX0 (2 + n + 1) f fd ["thing", "levels", "room"] (spRoom K (n + 1)) := by
  refine F.ok scRoom (fun vs H Q E h => ?_) (fun cdv A outer s H vs Q E hr h => ?_)
  · obtain ⟨v, d, l, r, rfl, _⟩ := h
    rfl
  obtain ⟨v, d, l, r, rfl, hv, ht, hl, q⟩ := h
  refine ⟨_, (pss_cons (ps_if (PW.pt (pw_or (pt_cmpR op_eq (pv 1) pe_int (nomark _)) (pw_or (pt_cmpR op_eq (pv 2) pe_int (nomark _)) (pw_or1 (pt_not (pt_val (pe_call Uis_tag_and_kids.ok (hr.mono (by omega)) rfl Uis_tag_and_kids.m Uis_tag_and_kids.kp Uis_tag_and_kids.b .nil pass0 (pa_cons (pv 0) pa_nil)))))))) (pss_one (ps_ret pe_non)) pss_nil)
    (pss_cons (ps_set (i := 3) scRoom.nd rfl (.inl rfl) (pe_op op_sub (pv 2) pe_int))
    (pss_cons (ps_for PassesOwn.never rfl (pi_tup (pe_ix ix_tup (pv 0) pe_int (fun _ _ => rfl))) (pg_name (i := 4) scRoom.nd rfl (.inl rfl)) (pss_cons (ps_set (i := 3) scRoom.nd rfl (.inl rfl) (pe_call Uroom_behind.ok (hr.mono (by omega)) rfl Uroom_behind.m Uroom_behind.kp Uroom_behind.b .nil pass0 (pa_cons (pv 4) (pa_cons (pe_op op_sub (pv 1) pe_int) (pa_cons (pv 3) pa_nil)))))
      (pss_one (ps_if (pt_cmpR op_isN (pv 3) pe_non (nomark _)) (pss_one (ps_ret pe_non)) pss_nil))))
    (pss_one (ps_ret (pv 3)))))), ?_⟩
  refine ⟨_, rfl, rfl, _, rfl, ?_⟩
  refine iteD (fun c => ?_) (fun c => ?_)
  · have e : l = 0 := by have := V.int.inj c; omega
    subst e
    exact q H (Same.refl H)
  obtain ⟨l, rfl⟩ : ∃ l', l = l' + 1 := ⟨l - 1, by
    have : ¬ l = 0 := fun e => c (by rw [e]; rfl)
    omega⟩
  refine ⟨_, rfl, rfl, _, rfl, ?_⟩
  refine iteD (fun c2 => ?_) (fun c2 => ?_)
  · have e : r = 0 := by have := V.int.inj c2; omega
    subst e
    exact q H (Same.refl H)
  obtain ⟨r, rfl⟩ : ∃ r', r = r' + 1 := ⟨r - 1, by
    have : ¬ r = 0 := fun e => c2 (by rw [e]; rfl)
    omega⟩
  refine ⟨_, rfl, v, d, rfl, hv, ht, fun H1 e1 => ⟨_, rfl, ?_⟩⟩
  cases c3 : tagKids d with
  | false =>
    have q' := q H1 e1
    rw [roomB, c3] at q'
    exact q'
  | true =>
    obtain ⟨a0, ks, rfl⟩ : ∃ a0 ks, d = .tuple [a0, .tuple ks] := by
      unfold tagKids at c3
      split at c3
      · rename_i a b
        cases b with
        | tuple ks => exact ⟨a, ks, rfl⟩
        | _ => simp [isTup] at c3
      · cases c3
    cases hv with
    | d hv =>
      cases hv with
      | @tup a xs _ hs hx =>
      obtain ⟨x0, y0, _, _, rfl, h00, h1, h2⟩ := DpAll.two hx (DpAll.len hx)
      cases h00
      cases h2 with
      | @tup b ys _ hs2 hy =>
      have hly : ys.length = ks.length := DpAll.len hy
      have ht2 : txtAll ks = true := by
        rw [txt, txtAll, txtAll, txt] at ht
        simp only [Bool.and_eq_true] at ht
        exact ht.2.1
      have Qr : ∀ H', Same H H' → Q (optV (ks.foldl (fun o kd => o.bind (roomB l kd)) (some r))) H' := fun H' e => by
        have q' := q H' e
        rw [roomB, if_pos c3] at q'
        exact q'
      refine ⟨_, rfl, _, _, rfl, rfl, ?_⟩
      refine ⟨_, rfl, a, _, 1, _, rfl, rfl, same_t e1 hs, atI_nat (j := 1) rfl, b, rfl, ⟨_, same_t e1 hs2⟩, ?_⟩
      refine for_tup (xs := ys) (fun i σ H2 => ∃ (m : Nat) (y : Option V), σ = [some (.ref a), some (.int ((l + 1 : Nat) : Int)), some (.int ((r + 1 : Nat) : Int)), some (.int (m : Int)), y] ∧ Same H H2 ∧ (ks.take i).foldl (fun o kd => o.bind (roomB l kd)) (some r) = some m)
        ⟨r, none, by show [_, _, _, some (V.int (((r + 1 : Nat) : Int) - 1)), _] = _; rw [show (((r + 1 : Nat) : Int) - 1) = (r : Int) by omega], e1, rfl⟩ (fun i σ H2 _ p => ?_) (fun i x σ H2 hx2 p => ?_) (fun σ H2 p => ?_)
      · obtain ⟨m, y, _, e2, _⟩ := p
        exact same_t e2 hs2
      · obtain ⟨m, y, rfl, e2, hm⟩ := p
        obtain ⟨kd, hk, hkd⟩ := DpAll.get hy hx2
        have hf := fold_take (fun kd => roomB l kd) hk (some r)
        rw [hm] at hf
        refine ⟨_, rfl, _, rfl, _, _, rfl, rfl, _, rfl, x, kd, l, m, ?_, .d (dp_mono e2 _ _ hkd), txtAll_get ht2 hk, by omega, fun H3 e3 => ?_⟩
        · show [x, V.int (((l + 1 : Nat) : Int) - 1), V.int (m : Int)] = _
          rw [show (((l + 1 : Nat) : Int) - 1) = (l : Int) by omega]
        · cases hr2 : roomB l kd m with
          | none =>
            refine ⟨_, rfl, rfl, _, rfl, ?_⟩
            have q' := Qr H3 (e2.trans e3)
            have hf' : (ks.take (i + 1)).foldl (fun o kd => o.bind (roomB l kd)) (some r) = none := by rw [hf]; exact hr2
            rw [fold_stop (fun kd => roomB l kd) hf'] at q'
            exact q'
          | some m' =>
            refine ⟨_, rfl, rfl, _, rfl, ?_⟩
            refine ⟨m', _, rfl, e2.trans e3, ?_⟩
            rw [hf]
            exact hr2
      · obtain ⟨m, y, rfl, e2, hm⟩ := p
        refine ⟨_, rfl, ?_⟩
        have q' := Qr H2 e2
        rw [hly, List.take_length] at hm
        rw [hm] at q'
        exact q'
theorem ok_room {f : Addr} {fd : FuncData} {j : Nat} (F : Fun K "room_behind" "room_behind" sRoom f fd) (mF : mg "room_behind" = some (.ref f)) (Uis_tag_and_kids : Use P w K mg base "is_tag_and_kids" ["thing"] j (spB K tagKids)) (hj : j ≤ 2) (T : Bl mg) :
    ∀ n, FnOk P w K mg base CX0 (2 + n) f fd ["thing", "levels", "room"] (spRoom K n)
  | 0 => by
    have no : ∀ vs H Q E, ¬ spRoom K 0 vs H Q E := fun vs H Q E h => by
      obtain ⟨_, _, _, _, _, _, _, h, _⟩ := h
      omega
    exact ⟨fun vs H Q E h => absurd h (no vs H Q E), fun A outer s H args us vs Q E _ _ _ _ h => absurd h (no vs H Q E)⟩
  | n + 1 => ok_room1 F ⟨f, fd, ok_room F mF Uis_tag_and_kids hj T n, mF, F.kp, F.binds (ps := ["thing", "levels", "room"]) fun _ _ _ _ _ _ us hl => match us, hl with | [_, _, _], _ => rfl⟩ Uis_tag_and_kids hj T
theorem scTree : FnScope ["thing"] ["thing"] (defScope sIsTree) := ⟨rfl, rfl, rfl, by decide +kernel, rfl, by decide +kernel, by decide +kernel⟩
theorem ok_tree {f : Addr} {fd : FuncData} {k j : Nat} (F : Fun K "is_tree" "is_tree" sIsTree f fd) (Uroom_behind : Use P w K mg base "room_behind" ["thing", "levels", "room"] j (spRoom K 13)) (hj : j ≤ k) (C : Cs mg) : FnOk P w K mg base CX0 (k + 1) f fd ["thing"] (spB K isTreeD) := by
  refine F.ok scTree (fun vs H Q E h => ?_) (fun cdv A outer s H vs Q E hr h => ?_)
  · obtain ⟨v, d, rfl, _⟩ := h
    rfl
  obtain ⟨v, d, rfl, hv, ht, q⟩ := h
  refine ⟨_, (pss_one (ps_ret (pe_cmpR op_notN (pe_call Uroom_behind.ok (hr.mono (by omega)) rfl Uroom_behind.m Uroom_behind.kp Uroom_behind.b .nil pass0 (pa_cons (pv 0) (pa_cons (c_DEPTH C) (pa_cons (c_SIZE C) pa_nil)))) pe_non (nomark _)))), ?_⟩
  refine ⟨_, rfl, v, d, 12, 60, rfl, hv, ht, by omega, fun H' e => ⟨rfl, ?_⟩⟩
  have q' := q H' e
  unfold isTreeD at q'
  cases hr : roomB 12 d 60 with
  | none =>
    rw [hr] at q'
    exact q'
  | some m =>
    rw [hr] at q'
    exact q'
end
end Tl

set_option Elab.async false
set_option linter.all false
set_option maxRecDepth 100000
set_option maxHeartbeats 4000000
namespace Tl
open PySem L2
abbrev sState : Stmt := top 12
abbrev sNext : Stmt := top 13
abbrev sWhole : Stmt := top 14
abbrev sLTag : Stmt := top 18
abbrev sLCount : Stmt := top 19
abbrev sLPath : Stmt := top 20
/-- the law's own source of numbers stands at st -/
def StA (H : Hp) (st c : Addr) : Prop := ∃ (cs : List Int) (i p z : Int), H st = some (.lst [.ref c, .int i, .int p, .int z]) ∧ H c = some (.lst (cs.map V.int)) ∧ c ≠ st ∧ 0 < cs.length ∧ cs.length ≤ 63 ∧ 0 ≤ i ∧ 0 ≤ p ∧ 0 ≤ z ∧ z < 2147483647
theorem StA.mono {H H' : Hp} {st c : Addr} (e : Same H H') (h : StA H st c) : StA H' st c := by
  obtain ⟨cs, i, p, z, h1, h2, r⟩ := h
  exact ⟨cs, i, p, z, e _ _ h1, e _ _ h2, r⟩
def spNext : Sp := fun vs H Q _ => ∃ (st c : Addr) (m : Int), vs = [.ref st, .int m] ∧ StA H st c ∧ 1 ≤ m ∧ m ≤ 100000 ∧ ∀ (r : Int) (o : HO), 0 ≤ r → r < m → StA (upd H st o) st c → Q (.int r) (upd H st o)
def spState (K : PySem.W.Frag) : Sp := fun vs H Q _ => ∃ (a : Addr) (ns : List Int), vs = [.ref a] ∧ SqL K H a (ns.map V.int) ∧ ∀ (st c : Addr) (H' : Hp), Same H H' → H st = none → StA H' st c → Q (.ref st) H'
section
variable {P : Program} {w : World} {K : PySem.W.Frag} {mg : Str → Option Value} {base : Heap}
theorem fm_pos (x : Int) {m : Int} (h : 0 < m) : 0 ≤ x.fmod m ∧ x.fmod m < m := ⟨Int.fmod_nonneg_of_pos x h, Int.fmod_lt_of_pos x h⟩
theorem fd_pos {x m : Int} (hx : 0 ≤ x) (h : 0 < m) : 0 ≤ x.fdiv m := by
  rw [Int.fdiv_eq_ediv_of_nonneg _ (Int.le_of_lt h)]
  exact Int.ediv_nonneg hx (Int.le_of_lt h)
theorem cut63 (ns : List Int) : cutV (ns.map V.int) none (some 63) = (ns.take 63).map V.int := by
  unfold cutV
  rw [HT.sIx_none, show HT.sIx (ns.map V.int).length (ns.map V.int).length (some 63) = min 63 (ns.map V.int).length from HT.sIx_nat (ns.map V.int).length (ns.map V.int).length 63, List.length_map]
  rw [Nat.sub_zero, List.drop_zero, List.map_take]
  by_cases h : 63 ≤ ns.length
  · rw [Nat.min_eq_left h]
  · rw [Nat.min_eq_right (by omega), List.take_of_length_le (by simp), List.take_of_length_le (by simp; omega)]
theorem scState : FnScope ["_law_script", "_law_cells"] ["_law_script"] (defScope sState) := ⟨rfl, rfl, rfl, by decide +kernel, rfl, by decide +kernel, by decide +kernel⟩
theorem ok_state {f : Addr} {fd : FuncData} {k : Nat} (F : Fun K "_law_state" "_law_state" sState f fd) (T : Bl mg) : FnOk P w K mg base CX0 (k + 1) f fd ["_law_script"] (spState K) := by
  refine F.ok scState (fun vs H Q E h => ?_) (fun cdv A outer s H vs Q E hr h => ?_)
  · obtain ⟨a, ns, rfl, _⟩ := h
    rfl
  obtain ⟨a, ns, rfl, hS, q⟩ := h
  refine ⟨_, (pss_cons (ps_set (i := 1) scState.nd rfl (.inl rfl) (pe_callTy call_list_of (by rfl) T.list PyProof.Rows.boot_list (pa_cons (pe_slice sl_list (pv 0) po_none (po_some pe_int)) pa_nil)))
    (pss_cons (ps_if (pt_cmpR op_eq (pe_callB call_len_seq (by rfl) T.len PySem.boot_len (pa_cons (pv 1) pa_nil)) pe_int (nomark _)) (pss_one (ps_set (i := 1) scState.nd rfl (.inl rfl) (pe_lst (pa_cons pe_int pa_nil)))) pss_nil)
    (pss_one (ps_ret (pe_lst (pa_cons (pv 1) (pa_cons pe_int (pa_cons pe_int (pa_cons pe_int pa_nil))))))))), ?_⟩
  refine ⟨_, rfl, 63, rfl, a, _, rfl, hS, fun p hp => ?_⟩
  have e1 : Same H (upd H p (.lst (cutV (ns.map V.int) none (some 63)))) := same_new hp
  refine ⟨p, _, rfl, .inl (SqL.of upd_same), fun l hl => ?_⟩
  rw [cut63]
  rw [cut63] at hl e1
  generalize hcs : ns.take 63 = cs at hl e1 ⊢
  have hc63 : cs.length ≤ 63 := by rw [← hcs, List.length_take]; omega
  generalize upd H p (.lst (cs.map V.int)) = H1 at hl e1 ⊢
  have e2 : Same H (upd H1 l (.lst (cs.map V.int))) := e1.trans (same_new hl)
  refine ⟨_, rfl, l, _, rfl, .inl (SqL.of upd_same), rfl, _, rfl, ?_⟩
  refine iteD (fun c => ?_) (fun c => ?_)
  · refine ⟨by show 1 ≤ sizeLine; decide, fun p2 hp2 => ?_⟩
    refine ⟨_, rfl, by show 4 ≤ sizeLine; decide, fun p3 hp3 => ?_⟩
    have n23 : p2 ≠ p3 := ne_of_none upd_same hp3
    refine q p3 p2 _ ((e2.trans (same_new hp2)).trans (same_new hp3)) ((e2.trans (same_new hp2)).free hp3) ⟨[0], 0, 0, 91, upd_same, ?_, n23, by decide, by decide, by decide, by decide, by decide, by decide⟩
    rw [upd_ne n23]
    exact upd_same
  · refine ⟨_, rfl, by show 4 ≤ sizeLine; decide, fun p3 hp3 => ?_⟩
    have n23 : l ≠ p3 := ne_of_none upd_same hp3
    refine q p3 l _ (e2.trans (same_new hp3)) (e2.free hp3) ⟨cs, 0, 0, 91, upd_same, ?_, n23, ?_, hc63, by decide, by decide, by decide, by decide⟩
    · rw [upd_ne n23]
      exact upd_same
    · rcases Nat.eq_zero_or_pos cs.length with z | z
      · exact absurd (show V.int ((cs.map V.int).length : Nat) = V.int 0 by rw [List.length_map, z]; rfl) c
      · exact z
theorem nz29 : (2147483629 : Int) ≠ 0 := by decide
theorem nz47 : (2147483647 : Int) ≠ 0 := by decide
theorem at4 {c : Addr} {i p z : Int} : atI [V.ref c, .int i, .int p, .int z] 0 = some (.ref c) ∧ atI [V.ref c, .int i, .int p, .int z] 1 = some (.int i) ∧ atI [V.ref c, .int i, .int p, .int z] 2 = some (.int p) ∧ atI [V.ref c, .int i, .int p, .int z] 3 = some (.int z) :=
  ⟨atI_nat (j := 0) rfl, atI_nat (j := 1) rfl, atI_nat (j := 2) rfl, atI_nat (j := 3) rfl⟩
theorem scNext : FnScope ["_law_state_here", "_law_below", "_law_cells", "_law_cell", "_law_found"] ["_law_state_here", "_law_below"] (defScope sNext) := ⟨rfl, rfl, rfl, by decide +kernel, rfl, by decide +kernel, by decide +kernel⟩
theorem ok_next {f : Addr} {fd : FuncData} {k : Nat} (F : Fun K "_law_next" "_law_next" sNext f fd) (T : Bl mg) : FnOk P w K mg base CX0 (k + 1) f fd ["_law_state_here", "_law_below"] spNext := by
  refine F.ok scNext (fun vs H Q E h => ?_) (fun cdv A outer s H vs Q E hr h => ?_)
  · obtain ⟨_, _, _, rfl, _⟩ := h
    rfl
  obtain ⟨st, c, m, rfl, ⟨cs, i, p, z, h1, h2, hc, hl0, hl, hi, hp, hz0, hz1⟩, hm0, hm1, q⟩ := h
  refine ⟨_, (pss_cons (ps_if (pt_cmpR op_gt (pe_ix ix_list (pv 0) pe_int (fun _ _ => rfl)) pe_int (nomark _)) (pss_cons (ps_set (i := 4) scNext.nd rfl (.inl rfl) (pe_op op_modN (pe_ix ix_list (pv 0) pe_int (fun _ _ => rfl)) (pv 1)))
      (pss_cons (ps_asg (pe_op op_fdivN (pe_ix ix_list (pv 0) pe_int (fun _ _ => rfl)) (pv 1)) (pg_sub (pv 0) pe_int set_list))
      (pss_one (ps_ret (pv 4))))) pss_nil)
    (pss_cons (ps_set (i := 2) scNext.nd rfl (.inl rfl) (pe_ix ix_list (pv 0) pe_int (fun _ _ => rfl)))
    (pss_cons (ps_set (i := 3) scNext.nd rfl (.inl rfl) (pe_ix ix_list (pv 2) (pe_op op_modN (pe_ix ix_list (pv 0) pe_int (fun _ _ => rfl)) (pe_callB call_len_seq (by rfl) T.len PySem.boot_len (pa_cons (pv 2) pa_nil))) (fun _ _ => rfl)))
    (pss_cons (ps_asg (pe_op op_add (pe_ix ix_list (pv 0) pe_int (fun _ _ => rfl)) pe_int) (pg_sub (pv 0) pe_int set_list))
    (pss_cons (ps_if (PW.pt (pw_and (pt_cmpR op_ge (pv 3) (pe_op op_pow pe_int pe_int) (nomark _)) (pw_and1 (pt_cmpR op_le (pe_ix ix_list (pv 0) pe_int (fun _ _ => rfl)) (pe_callB call_len_seq (by rfl) T.len PySem.boot_len (pa_cons (pv 2) pa_nil)) (nomark _))))) (pss_cons (ps_asg (pe_op op_fdivN (pv 3) (pv 1)) (pg_sub (pv 0) pe_int set_list))
      (pss_one (ps_ret (pe_op op_modN (pv 3) (pv 1))))) pss_nil)
    (pss_cons (ps_asg (pe_op op_modN (pe_op op_add (pe_op op_add (pe_op op_mul (pe_ix ix_list (pv 0) pe_int (fun _ _ => rfl)) pe_int) (pe_op op_modN (pv 3) pe_int)) (pe_op op_mul pe_int (pe_ix ix_list (pv 0) pe_int (fun _ _ => rfl)))) pe_int) (pg_sub (pv 0) pe_int set_list))
    (pss_one (ps_ret (pe_op op_modN (pe_op op_fdivN (pe_op op_modN (pe_op op_mul (pe_ix ix_list (pv 0) pe_int (fun _ _ => rfl)) pe_int) pe_int) pe_int) (pv 1)))))))))), ?_⟩
  have hm30 : m ≠ 0 ∧ m.natAbs < 1073741824 := ⟨by omega, by omega⟩
  refine ⟨_, rfl, st, _, 2, _, rfl, rfl, SqL.of h1, at4.2.2.1, p, 0, rfl, rfl, _, rfl, ?_⟩
  refine iteD (fun cc => ?_) (fun cc => ?_)
  · refine ⟨_, rfl, st, _, 2, _, rfl, rfl, SqL.of h1, at4.2.2.1, _, rfl, p, m, rfl, rfl, hm30.1, ?_⟩
    refine ⟨_, rfl, st, _, 2, _, rfl, rfl, SqL.of h1, at4.2.2.1, _, rfl, p, m, rfl, rfl, hm30, ?_⟩
    refine ⟨_, rfl, st, _, 2, 2, rfl, rfl, h1, rfl, ?_⟩
    refine ⟨_, rfl, ?_⟩
    refine q _ _ (fm_pos p (by omega)).1 (fm_pos p (by omega)).2 ⟨cs, i, p.fdiv m, z, upd_same, ?_, hc, hl0, hl, hi, fd_pos hp (by omega), hz0, hz1⟩
    rw [upd_ne hc]
    exact h2
  · refine ⟨_, rfl, st, _, 0, _, rfl, rfl, SqL.of h1, at4.1, ?_⟩
    have hlen : (cs.map V.int).length = cs.length := List.length_map _
    have hf := fm_pos i (m := ((cs.map V.int).length : Nat)) (by rw [hlen]; omega)
    obtain ⟨j, ej⟩ : ∃ j : Nat, i.fmod ((cs.map V.int).length : Nat) = (j : Int) := ⟨(i.fmod ((cs.map V.int).length : Nat)).toNat, by omega⟩
    have hj : j < cs.length := by rw [hlen] at hf; rw [hlen] at ej; omega
    have hat : atI (cs.map V.int) (i.fmod ((cs.map V.int).length : Nat)) = some (.int cs[j]) := by
      rw [ej]
      exact atI_nat (by rw [List.getElem?_map, List.getElem?_eq_getElem hj]; rfl)
    generalize cs[j] = x at hat
    refine ⟨_, rfl, _, rfl, st, _, 1, _, rfl, rfl, SqL.of h1, at4.2.1, _, rfl, c, _, rfl, .inl (SqL.of h2), i, _, rfl, rfl, by rw [hlen]; omega, c, _, _, _, rfl, rfl, SqL.of h2, hat, ?_⟩
    refine ⟨_, rfl, st, _, 1, _, rfl, rfl, SqL.of h1, at4.2.1, i, 1, rfl, rfl, _, rfl, st, _, 1, 1, rfl, rfl, h1, rfl, ?_⟩
    have h1' : (upd H st (.lst [V.ref c, .int (i + 1), .int p, .int z])) st = some (.lst [V.ref c, .int (i + 1), .int p, .int z]) := upd_same
    have h2' : (upd H st (.lst [V.ref c, .int (i + 1), .int p, .int z])) c = some (.lst (cs.map V.int)) := by rw [upd_ne hc]; exact h2
    have fin2 : ∀ (r p' z' : Int), 0 ≤ r → r < m → 0 ≤ p' → 0 ≤ z' → z' < 2147483647 → Q (.int r) (upd (upd H st (.lst [V.ref c, .int (i + 1), .int p, .int z])) st (.lst [V.ref c, .int (i + 1), .int p', .int z'])) := fun r p' z' g1 g2 g3 g4 g5 => by
      rw [upd_upd]
      exact q _ _ g1 g2 ⟨cs, i + 1, p', z', upd_same, by rw [upd_ne hc]; exact h2, hc, hl0, hl, by omega, g3, g4, g5⟩
    refine ⟨_, rfl, 10, 18, rfl, rfl, ⟨by decide, by decide, by decide⟩, x, _, rfl, rfl, _, rfl, ?_⟩
    refine iteD (fun c1 => ?_) (fun c1 => ?_)
    · refine ⟨_, rfl, st, _, 1, _, rfl, rfl, SqL.of h1', at4.2.1, _, rfl, c, _, rfl, .inl (SqL.of h2'), _, _, rfl, rfl, _, rfl, ?_⟩
      refine iteD (fun c2 => ?_) (fun c2 => ?_)
      · refine ⟨_, rfl, _, rfl, x, m, rfl, rfl, hm30, _, rfl, st, _, 2, 2, rfl, rfl, h1', rfl, ?_⟩
        refine ⟨_, rfl, _, rfl, x, m, rfl, rfl, hm30.1, ?_⟩
        exact fin2 _ _ _ (fm_pos x (by omega)).1 (fm_pos x (by omega)).2 (fd_pos (Int.le_trans (by decide) c1) (by omega)) hz0 hz1
      · skip
        refine ⟨_, rfl, st, _, 3, _, rfl, rfl, SqL.of h1', at4.2.2.2, z, 48271, rfl, rfl, .inl ⟨by omega, by omega⟩, _, rfl, x, 2147483629, rfl, rfl, nz29, _, _, rfl, rfl, _, rfl, st, _, 1, _, rfl, rfl, SqL.of h1', at4.2.1, 7, _, rfl, rfl, .inl ⟨by decide, by decide⟩, _, _, rfl, rfl, _, 2147483647, rfl, rfl, nz47, _, rfl, st, _, 3, 3, rfl, rfl, h1', rfl, ?_⟩
        have hb := fm_pos (z * 48271 + x.fmod 2147483629 + 7 * (i + 1)) (m := 2147483647) (by decide)
        refine ⟨_, rfl, st, _, 3, _, rfl, rfl, SqL.of upd_same, at4.2.2.2, _, 69621, rfl, rfl, .inl ⟨by omega, by omega⟩, _, 2147483629, rfl, rfl, nz29, _, 64, rfl, rfl, ⟨by decide, by decide⟩, _, rfl, _, m, rfl, rfl, hm30.1, ?_⟩
        exact fin2 _ _ _ (fm_pos _ (by omega)).1 (fm_pos _ (by omega)).2 hp hb.1 hb.2
    · skip
      refine ⟨_, rfl, st, _, 3, _, rfl, rfl, SqL.of h1', at4.2.2.2, z, 48271, rfl, rfl, .inl ⟨by omega, by omega⟩, _, rfl, x, 2147483629, rfl, rfl, nz29, _, _, rfl, rfl, _, rfl, st, _, 1, _, rfl, rfl, SqL.of h1', at4.2.1, 7, _, rfl, rfl, .inl ⟨by decide, by decide⟩, _, _, rfl, rfl, _, 2147483647, rfl, rfl, nz47, _, rfl, st, _, 3, 3, rfl, rfl, h1', rfl, ?_⟩
      have hb := fm_pos (z * 48271 + x.fmod 2147483629 + 7 * (i + 1)) (m := 2147483647) (by decide)
      refine ⟨_, rfl, st, _, 3, _, rfl, rfl, SqL.of upd_same, at4.2.2.2, _, 69621, rfl, rfl, .inl ⟨by omega, by omega⟩, _, 2147483629, rfl, rfl, nz29, _, 64, rfl, rfl, ⟨by decide, by decide⟩, _, rfl, _, m, rfl, rfl, hm30.1, ?_⟩
      exact fin2 _ _ _ (fm_pos _ (by omega)).1 (fm_pos _ (by omega)).2 hp hb.1 hb.2
def isWhole : PyData → Bool
  | .int _ => true
  | _ => false
theorem scWhole : FnScope ["_law_found"] ["_law_found"] (defScope sWhole) := ⟨rfl, rfl, rfl, by decide +kernel, rfl, by decide +kernel, by decide +kernel⟩
theorem ok_whole {f : Addr} {fd : FuncData} {k : Nat} (F : Fun K "_law_whole" "_law_whole" sWhole f fd) (T : Bl mg) : FnOk P w K mg base CX0 (k + 1) f fd ["_law_found"] (spB K isWhole) := by
  refine F.ok scWhole (fun vs H Q E h => ?_) (fun cdv A outer s H vs Q E hr h => ?_)
  · obtain ⟨v, d, rfl, _⟩ := h
    rfl
  obtain ⟨v, d, rfl, hv, _, q⟩ := h
  refine ⟨_, (pss_one (ps_ret (pe_and (pe_callB call_isi (by rfl) T.isi PyProof.Rows.boot_isinstance (pa_cons (pv 0) (pa_cons (b_int T) pa_nil))) (pe_one (pe_not (pe_callB call_isi (by rfl) T.isi PyProof.Rows.boot_isinstance (pa_cons (pv 0) (pa_cons (b_bool T) pa_nil)))))))), ?_⟩
  refine ⟨v, rfl, v, .ty "int", _, _, _, rfl, .ty "int", ty_data hv, kit_ty (kit_int d), _, rfl, ?_⟩
  have q' := q H (Same.refl H)
  cases d with
  | int i => exact ⟨v, rfl, v, .ty "bool", _, _, _, rfl, .ty "bool", ty_data hv, kit_ty (kit_bl _), _, rfl, q'⟩
  | bool b => exact ⟨v, rfl, v, .ty "bool", _, _, _, rfl, .ty "bool", ty_data hv, kit_ty (kit_bl _), _, rfl, q'⟩
  | none => exact q'
  | str s => exact q'
  | list s => exact q'
  | tuple s => exact q'
  | dict s => exact q'
theorem small_in (c : Nat) : decide (c ∈ ("abcdefghijklmnopqrstuvwxyz" : Str).cps.toList) = small c := by
  have e : ("abcdefghijklmnopqrstuvwxyz" : Str).cps.toList = (List.range 26).map (· + 97) := by decide +kernel
  rw [e, small, ← Bool.decide_and]
  apply decide_eq_decide.mpr
  simp only [List.mem_map, List.mem_range]
  constructor
  · rintro ⟨a, h, rfl⟩
    omega
  · intro h
    exact ⟨c - 97, by omega, by omega⟩
theorem eqv_nil (ds : List PyData) : PyData.eqv (.list ds) (.list []) = ds.isEmpty := by
  cases ds with
  | nil => simp [PyData.eqv, PyData.eqvAll]
  | cons a r => simp [PyData.eqv, PyData.eqvAll]
theorem scLTag : FnScope ["_law_thing", "_law_sign"] ["_law_thing"] (defScope sLTag) := ⟨rfl, rfl, rfl, by decide +kernel, rfl, by decide +kernel, by decide +kernel⟩
theorem ok_ltag {f : Addr} {fd : FuncData} {k : Nat} (F : Fun K "_law_is_tag" "_law_is_tag" sLTag f fd) (T : Bl mg) : FnOk P w K mg base CX0 (k + 1) f fd ["_law_thing"] (spB K isTag) := by
  refine F.ok scLTag (fun vs H Q E h => ?_) (fun cdv A outer s H vs Q E hr h => ?_)
  · obtain ⟨v, d, rfl, _⟩ := h
    rfl
  obtain ⟨v, d, rfl, hv, ht, q⟩ := h
  refine ⟨_, (pss_cons (ps_if (PW.pt (pw_or (pt_not (pt_val (pe_callB call_isi (by rfl) T.isi PyProof.Rows.boot_isinstance (pa_cons (pv 0) (pa_cons (b_str T) pa_nil))))) (pw_or (pt_cmpR op_lt (pe_callB call_len_str (by rfl) T.len PySem.boot_len (pa_cons (pv 0) pa_nil)) pe_int (nomark _)) (pw_or1 (pt_cmpR op_gt (pe_callB call_len_str (by rfl) T.len PySem.boot_len (pa_cons (pv 0) pa_nil)) pe_int (nomark _)))))) (pss_one (ps_ret pe_bl)) pss_nil)
    (pss_one (ps_ret (pe_cmpR (op_eqD hr.units) (pe_lc (own := [("_law_sign", 1)]) (g := gName 1) (by rfl) scLTag.nd (pi_str (pv 0)) (blkOk_by (N := ["_law_thing", "_law_sign"]) (sc := defScope sLTag) (own := [("_law_sign", 1)]) (by decide +kernel)) (fun _ _ _ _ _ => pg_name (i := 1) scLTag.nd rfl (Or.inl rfl)) (fun _ _ _ _ _ => (pts_one (pt_cmpR op_notIn_sign (pv 1) pe_str (by rfl)))) (fun _ _ _ _ _ => (pv 1))) (pe_lst pa_nil) (nomark _))))), ?_⟩
  refine ⟨v, rfl, v, .ty "str", _, _, _, rfl, .ty "str", ty_data hv, kit_ty (kit_str d), _, rfl, ?_⟩
  cases d with
  | str z =>
    cases hv with
    | d hv =>
      cases hv
      have hz : z.length ≤ 1000 := (txt_str ht).1
      have key : ∀ H', Same H H' → (1 ≤ z.length → z.length ≤ 8 → Q (.bl (z.cps.toList.all small)) H') ∧ (¬ (1 ≤ z.length ∧ z.length ≤ 8) → Q (.bl false) H') := fun H' e => by
        have q' := q H' e
        rw [isTag] at q'
        refine ⟨fun h1 h2 => ?_, fun h1 => ?_⟩
        · rw [decide_eq_true h1, decide_eq_true h2] at q'
          exact q'
        · by_cases c : 1 ≤ z.length
          · rw [decide_eq_false (p := z.length ≤ 8) (fun c2 => h1 ⟨c, c2⟩), Bool.and_false, Bool.false_and] at q'
            exact q'
          · rw [decide_eq_false c, Bool.false_and, Bool.false_and] at q'
            exact q'
      refine ⟨_, rfl, z, rfl, sz1000 hz, _, _, rfl, rfl, _, rfl, ?_⟩
      refine iteD (fun c1 => ?_) (fun c1 => ?_)
      · exact (key H (Same.refl H)).2 fun h => absurd c1 (by omega)
      refine ⟨_, rfl, z, rfl, sz1000 hz, _, _, rfl, rfl, _, rfl, ?_⟩
      refine iteD (fun c2 => ?_) (fun c2 => ?_)
      · exact (key H (Same.refl H)).2 fun h => absurd c2 (by omega)
      have hl : z.length = z.cps.toList.length := rfl
      refine ⟨_, rfl, z, rfl, fun D hD => ?_⟩
      refine lc_pure (n := z.cps.toList.length) (G := fun _ => True) fn_str (fun i => !small (z.cps.toList.getD i 0)) (fun i => .str ⟨#[z.cps.toList.getD i 0]⟩) (fun _ _ => True.intro) (by omega) (fun x => rfl) hD (fun i H3 _ _ Qt k => ?_) (fun i H3 hi _ e3 Qe k => ?_) (fun H2 e2 h2' => ?_)
      · generalize z.cps.toList.getD i 0 = c at k ⊢
        refine ⟨_, rfl, c, _, rfl, rfl, _, rfl, ?_⟩
        rw [small_in]
        exact k H3 (Same.refl _)
      · exact ⟨_, rfl, k H3 (Same.refl _)⟩
      · rw [picked_some z.cps.toList 0 (fun c => !small c) (fun c => V.str ⟨#[c]⟩)] at h2'
        generalize hys : z.cps.toList.filter (fun c => !small c) = ys at h2'
        refine ⟨by show 0 ≤ sizeLine; decide, fun p hp => ?_⟩
        have nD : D ≠ p := ne_of_none h2' hp
        refine ⟨.list (ys.map fun c => .str ⟨#[c]⟩), .list [], .lst (SqL.of (xs := ys.map fun c => V.str ⟨#[c]⟩) (by rw [upd_ne nD]; exact h2')) ?_, .lst (SqL.of upd_same) .nil, ?_, rfl, ?_⟩
        · clear hys h2' hp
          induction ys with
          | nil => exact .nil
          | cons c r ih => exact .cons (.str _) ih
        · refine flat_shaped (List.all_eq_true.mpr fun d hd => ?_)
          obtain ⟨c, hc, rfl⟩ := List.mem_map.mp hd
          rw [← hys] at hc
          have h3 := (txt_str ht).2
          rw [PyData.strOk, ← Array.all_toList, List.all_eq_true] at h3
          have h4 := h3 c (List.mem_filter.mp hc).1
          rw [flatD, PyData.strOk, ← Array.all_toList]
          show ([c] : List Nat).all _ = true
          rw [List.all_cons, h4]
          rfl
        · have q' := (key _ (e2.trans (same_new (o := .lst []) hp))).1 (by omega) (by omega)
          rw [eqv_nil, List.isEmpty_map]
          have e : ys.isEmpty = z.cps.toList.all small := by
            rw [← hys]
            generalize z.cps.toList = l
            induction l with
            | nil => rfl
            | cons c r ih =>
              rw [List.filter_cons, List.all_cons]
              cases hc : small c with
              | true => simp [ih]
              | false => simp
          rw [e]
          exact q'
  | bool b => exact q H (Same.refl H)
  | int b => exact q H (Same.refl H)
  | none => exact q H (Same.refl H)
  | list s => exact q H (Same.refl H)
  | tuple s => exact q H (Same.refl H)
  | dict s => exact q H (Same.refl H)
end
end Tl

set_option Elab.async false
set_option linter.all false
set_option maxRecDepth 100000
set_option maxHeartbeats 4000000
namespace Tl
open PySem L2
/-- the law's own count: 999 where it is none -/
def cntK (f : PyData → Int) : List PyData → Int → Int
  | [], n => n
  | d :: r, n => if n + f d > 60 then n + f d else cntK f r (n + f d)
def cntB : Nat → PyData → Int
  | 0, _ => 999
  | l + 1, d => if tagKids d = true then cntK (cntB l) (kidsD d) 1 else 999
theorem cntK_ge (f : PyData → Int) (hf : ∀ d, 1 ≤ f d) : ∀ ds n, n ≤ cntK f ds n
  | [], n => Int.le_refl n
  | d :: r, n => by
    have h := hf d
    rw [cntK]
    by_cases c : n + f d > 60
    · rw [if_pos c]
      omega
    · rw [if_neg c]
      have := cntK_ge f hf r (n + f d)
      omega
theorem cntB_pos : ∀ l d, 1 ≤ cntB l d
  | 0, _ => by show (1 : Int) ≤ 999; decide
  | l + 1, d => by
    rw [cntB]
    by_cases c : tagKids d = true
    · rw [if_pos c]
      exact cntK_ge _ (cntB_pos l) _ _
    · rw [if_neg c]
      decide
theorem fold_cnt (l : Nat) (ih : ∀ d (r : Nat), r ≤ 60 → (cntB l d ≤ r → roomB l d r = some ((r : Int) - cntB l d).toNat) ∧ ((r : Int) < cntB l d → roomB l d r = none)) :
    ∀ (ds : List PyData) (n R : Nat), n ≤ R → R ≤ 60 → (cntK (cntB l) ds n ≤ R → ds.foldl (fun o kd => o.bind (roomB l kd)) (some (R - n)) = some ((R : Int) - cntK (cntB l) ds n).toNat) ∧
      ((R : Int) < cntK (cntB l) ds n → ds.foldl (fun o kd => o.bind (roomB l kd)) (some (R - n)) = none)
  | [], n, R, h1, h2 => by
    rw [cntK, List.foldl_nil]
    exact ⟨fun _ => by congr 1; omega, fun h => by omega⟩
  | d :: ds, n, R, h1, h2 => by
    have hp := cntB_pos l d
    obtain ⟨i1, i2⟩ := ih d (R - n) (by omega)
    have hge := cntK_ge _ (cntB_pos l) ds (n + cntB l d)
    rw [cntK, List.foldl_cons]
    show (_ → ds.foldl (fun o kd => o.bind (roomB l kd)) (roomB l d (R - n)) = _) ∧ (_ → ds.foldl (fun o kd => o.bind (roomB l kd)) (roomB l d (R - n)) = _)
    by_cases c : (n : Int) + cntB l d > R
    · rw [i2 (by omega), fold_none]
      by_cases c2 : (n : Int) + cntB l d > 60
      · rw [if_pos c2]
        exact ⟨fun h => by omega, fun _ => rfl⟩
      · rw [if_neg c2]
        exact ⟨fun h => by omega, fun _ => rfl⟩
    · rw [if_neg (by omega), i1 (by omega)]
      obtain ⟨m, hm⟩ : ∃ m : Nat, (m : Int) = n + cntB l d := ⟨(n + cntB l d).toNat, by omega⟩
      have e : ((R - n : Nat) - cntB l d : Int).toNat = R - m := by omega
      rw [e, ← hm]
      exact fold_cnt l ih ds m R (by omega) h2
theorem room_cnt : ∀ l d (r : Nat), r ≤ 60 → (cntB l d ≤ r → roomB l d r = some ((r : Int) - cntB l d).toNat) ∧ ((r : Int) < cntB l d → roomB l d r = none)
  | 0, d, r, h => by
    rw [cntB, roomB]
    exact ⟨fun h2 => by omega, fun _ => rfl⟩
  | l + 1, d, 0, h => by
    have := cntB_pos (l + 1) d
    rw [roomB]
    exact ⟨fun h2 => by omega, fun _ => rfl⟩
  | l + 1, d, r + 1, h => by
    rw [cntB, roomB]
    by_cases c : tagKids d = true
    · rw [if_pos c, if_pos c]
      have q := fold_cnt l (room_cnt l) (kidsD d) 1 (r + 1) (by omega) h
      exact q
    · rw [if_neg c, if_neg c]
      exact ⟨fun h2 => by omega, fun _ => rfl⟩
theorem tree_cnt (d : PyData) : isTreeD d = decide (cntB 12 d ≤ 60) := by
  unfold isTreeD
  obtain ⟨h1, h2⟩ := room_cnt 12 d 60 (Nat.le_refl 60)
  by_cases c : cntB 12 d ≤ 60
  · rw [h1 c, decide_eq_true c]
    rfl
  · rw [h2 (by omega), decide_eq_false c]
    rfl
def spCnt (K : PySem.W.Frag) (n : Nat) : Sp := fun vs H Q _ => ∃ (v : V) (d : PyData) (l : Nat), vs = [v, .int (13 - (l : Nat))] ∧ Dt K H v d ∧ txt d = true ∧ l < n ∧ l ≤ 12 ∧ ∀ H', Same H H' → Q (.int (cntB l d)) H'
theorem cnt_take (f : PyData → Int) : ∀ {ks : List PyData} {i : Nat} {n m : Int}, cntK f (ks.drop i) m = cntK f ks n → ∀ {kd : PyData}, ks[i]? = some kd → (m + f kd > 60 → cntK f ks n = m + f kd) ∧ (¬ m + f kd > 60 → cntK f (ks.drop (i + 1)) (m + f kd) = cntK f ks n) := by
  intro ks i n m h kd hk
  obtain ⟨hi, rfl⟩ := List.getElem?_eq_some_iff.mp hk
  rw [List.drop_eq_getElem_cons hi, cntK] at h
  refine ⟨fun c => ?_, fun c => ?_⟩
  · rw [if_pos c] at h
    exact h.symm
  · rw [if_neg c] at h
    exact h
section
variable {P : Program} {w : World} {K : PySem.W.Frag} {mg : Str → Option Value} {base : Heap}
theorem scLCount : FnScope ["_law_thing", "_law_level", "_law_found", "_law_kid"] ["_law_thing", "_law_level"] (defScope sLCount) := ⟨rfl, rfl, rfl, by decide +kernel, rfl, by decide +kernel, by decide +kernel⟩
theorem ok_lcount1 {f : Addr} {fd : FuncData} {n j : Nat} (F : Fun K "_law_count" "_law_count" sLCount f fd) (U_law_count : Use P w K mg base "_law_count" ["_law_thing", "_law_level"] (2 + n) (spCnt K n)) (U_law_is_tag : Use P w K mg base "_law_is_tag" ["_law_thing"] j (spB K isTag)) (hj : j ≤ 2) (T : Bl mg) :
    FnOk P w K mg base CX0 (2 + n + 1) f fd ["_law_thing", "_law_level"] (spCnt K (n + 1)) := by
  refine F.ok scLCount (fun vs H Q E h => ?_) (fun cdv A outer s H vs Q E hr h => ?_)
  · obtain ⟨v, d, l, rfl, _⟩ := h
    rfl
  obtain ⟨v, d, l, rfl, hv, ht, hl, hl2, q⟩ := h
  refine ⟨_, (pss_cons (ps_if (PW.pt (pw_or (pt_cmpR op_gt (pv 1) pe_int (nomark _)) (pw_or (pt_not (pt_val (pe_callB call_isi (by rfl) T.isi PyProof.Rows.boot_isinstance (pa_cons (pv 0) (pa_cons (b_tuple T) pa_nil))))) (pw_or (pt_cmpR op_ne (pe_callB call_len_seq (by rfl) T.len PySem.boot_len (pa_cons (pv 0) pa_nil)) pe_int (nomark _)) (pw_or1 (pt_not (pt_val (pe_call U_law_is_tag.ok (hr.mono (by omega)) rfl U_law_is_tag.m U_law_is_tag.kp U_law_is_tag.b .nil pass0 (pa_cons (pe_ix ix_tup (pv 0) pe_int (fun _ _ => rfl)) pa_nil))))))))) (pss_one (ps_ret pe_int)) pss_nil)
    (pss_cons (ps_if (pt_not (pt_val (pe_callB call_isi (by rfl) T.isi PyProof.Rows.boot_isinstance (pa_cons (pe_ix ix_tup (pv 0) pe_int (fun _ _ => rfl)) (pa_cons (b_tuple T) pa_nil))))) (pss_one (ps_ret pe_int)) pss_nil)
    (pss_cons (ps_set (i := 2) scLCount.nd rfl (.inl rfl) pe_int)
    (pss_cons (ps_for PassesOwn.never rfl (pi_tup (pe_ix ix_tup (pv 0) pe_int (fun _ _ => rfl))) (pg_name (i := 3) scLCount.nd rfl (.inl rfl)) (pss_cons (ps_set (i := 2) scLCount.nd rfl (.inl rfl) (pe_op op_add (pv 2) (pe_call U_law_count.ok (hr.mono (by omega)) rfl U_law_count.m U_law_count.kp U_law_count.b .nil pass0 (pa_cons (pv 3) (pa_cons (pe_op op_add (pv 1) pe_int) pa_nil)))))
      (pss_one (ps_if (pt_cmpR op_gt (pv 2) pe_int (nomark _)) (pss_one (ps_ret (pv 2))) pss_nil))))
    (pss_one (ps_ret (pv 2))))))), ?_⟩
  refine ⟨_, rfl, _, _, rfl, rfl, _, rfl, ?_⟩
  refine iteD (fun c => ?_) (fun c => ?_)
  · have e : l = 0 := by omega
    subst e
    exact q H (Same.refl H)
  obtain ⟨l, rfl⟩ : ∃ l', l = l' + 1 := ⟨l - 1, by omega⟩
  have none_ : tagKids d = false → ∀ H', Same H H' → Q (.int 999) H' := fun h H' e => by
    have q' := q H' e
    rw [cntB, h] at q'
    exact q'
  refine ⟨v, rfl, v, .ty "tuple", _, _, _, rfl, .ty "tuple", ty_data hv, kit_ty (kit_tup d), _, rfl, ?_⟩
  cases d with
  | tuple ds =>
    cases hv with
    | d hv =>
      cases hv with
      | @tup a xs _ hs hx =>
      have hlx : xs.length = ds.length := DpAll.len hx
      refine ⟨_, rfl, a, xs, rfl, .inr hs, rfl, _, rfl, ?_⟩
      refine iteN (fun c2 => ?_) (fun c2 => ?_)
      · refine none_ ?_ H (Same.refl H)
        unfold tagKids
        split
        · rename_i h
          cases h
          rw [hlx] at c2
          exact absurd rfl c2
        · rfl
      · have c' : xs.length = 2 := by have := V.int.inj c2; omega
        obtain ⟨x0, y0, a0, b0, rfl, rfl, h1, h2⟩ := DpAll.two hx c'
        rw [txt] at ht
        refine ⟨_, rfl, a, _, 0, _, rfl, rfl, hs, atI_nat (j := 0) rfl, _, a0, rfl, .d h1, txtAll_get (i := 0) ht rfl, fun H1 e1 => ⟨_, rfl, ?_⟩⟩
        cases c3 : isTag a0 with
        | false =>
          refine none_ ?_ H1 e1
          rw [tagKids, c3]
          rfl
        | true =>
          refine ⟨_, rfl, a, _, 1, _, rfl, rfl, same_t e1 hs, atI_nat (j := 1) rfl, y0, .ty "tuple", _, _, _, rfl, .ty "tuple", ty_data (.d (dp_mono e1 _ _ h2)), kit_ty (kit_tup b0), _, rfl, ?_⟩
          cases h2 with
          | @tup b ys ks hs2 hy =>
            have hly : ys.length = ks.length := DpAll.len hy
            have ht2 : txtAll ks = true := by
              have h3 := txtAll_get (i := 1) ht rfl
              rw [txt] at h3
              exact h3
            have c4 : tagKids (.tuple [a0, .tuple ks]) = true := by rw [tagKids, c3]; rfl
            have Qr : ∀ H', Same H H' → Q (.int (cntK (cntB l) ks 1)) H' := fun H' e => by
              have q' := q H' e
              rw [cntB, if_pos c4] at q'
              exact q'
            refine ⟨_, rfl, a, _, 1, _, rfl, rfl, same_t e1 hs, atI_nat (j := 1) rfl, b, rfl, ⟨_, same_t e1 hs2⟩, ?_⟩
            refine for_tup (xs := ys) (fun i σ H2 => ∃ (m : Int) (y : Option V), σ = [some (.ref a), some (.int (13 - ((l + 1 : Nat) : Int))), some (.int m), y] ∧ Same H H2 ∧ cntK (cntB l) (ks.drop i) m = cntK (cntB l) ks 1)
              ⟨1, none, rfl, e1, rfl⟩ (fun i σ H2 _ p => ?_) (fun i x σ H2 hx2 p => ?_) (fun σ H2 p => ?_)
            · obtain ⟨m, y, _, e2, _⟩ := p
              exact same_t e2 hs2
            · obtain ⟨m, y, rfl, e2, hm⟩ := p
              obtain ⟨kd, hk, hkd⟩ := DpAll.get hy hx2
              obtain ⟨g1, g2⟩ := cnt_take (cntB l) hm hk
              refine ⟨_, rfl, _, rfl, _, rfl, _, _, rfl, rfl, x, kd, l, ?_, .d (dp_mono e2 _ _ hkd), txtAll_get ht2 hk, by omega, by omega, fun H3 e3 => ?_⟩
              · show [x, V.int (13 - ((l + 1 : Nat) : Int) + 1)] = _
                rw [show (13 - ((l + 1 : Nat) : Int) + 1) = 13 - (l : Int) by omega]
              · refine ⟨_, _, rfl, rfl, ?_⟩
                refine ⟨_, rfl, _, _, rfl, rfl, _, rfl, ?_⟩
                refine iteD (fun c5 => ?_) (fun c5 => ?_)
                · refine ⟨_, rfl, ?_⟩
                  have q' := Qr H3 (e2.trans e3)
                  rw [g1 c5] at q'
                  exact q'
                · exact ⟨m + cntB l kd, _, rfl, e2.trans e3, g2 c5⟩
            · obtain ⟨m, y, rfl, e2, hm⟩ := p
              refine ⟨_, rfl, ?_⟩
              rw [hly, List.drop_length, cntK] at hm
              have q' := Qr H2 e2
              rw [← hm] at q'
              exact q'
          | non => exact none_ (by rw [tagKids, c3]; rfl) H1 e1
          | bl _ => exact none_ (by rw [tagKids, c3]; rfl) H1 e1
          | int _ => exact none_ (by rw [tagKids, c3]; rfl) H1 e1
          | str _ => exact none_ (by rw [tagKids, c3]; rfl) H1 e1
          | lst _ _ => exact none_ (by rw [tagKids, c3]; rfl) H1 e1
  | str z => exact none_ rfl H (Same.refl H)
  | bool b => exact none_ rfl H (Same.refl H)
  | int b => exact none_ rfl H (Same.refl H)
  | none => exact none_ rfl H (Same.refl H)
  | list s => exact none_ rfl H (Same.refl H)
  | dict s => exact none_ rfl H (Same.refl H)
theorem ok_lcount {f : Addr} {fd : FuncData} {j : Nat} (F : Fun K "_law_count" "_law_count" sLCount f fd) (mF : mg "_law_count" = some (.ref f)) (U_law_is_tag : Use P w K mg base "_law_is_tag" ["_law_thing"] j (spB K isTag)) (hj : j ≤ 2) (T : Bl mg) :
    ∀ n, FnOk P w K mg base CX0 (2 + n) f fd ["_law_thing", "_law_level"] (spCnt K n)
  | 0 => by
    have no : ∀ vs H Q E, ¬ spCnt K 0 vs H Q E := fun vs H Q E h => by
      obtain ⟨_, _, _, _, _, _, h, _⟩ := h
      omega
    exact ⟨fun vs H Q E h => absurd h (no vs H Q E), fun A outer s H args us vs Q E _ _ _ _ h => absurd h (no vs H Q E)⟩
  | n + 1 => ok_lcount1 F ⟨f, fd, ok_lcount F mF U_law_is_tag hj T n, mF, F.kp, F.binds (ps := ["_law_thing", "_law_level"]) fun _ _ _ _ _ _ us hl => match us, hl with | [_, _], _ => rfl⟩ U_law_is_tag hj T
theorem fil_all {α : Type} (p : α → Bool) : ∀ l : List α, (l.filter (fun c => !p c)).isEmpty = l.all p
  | [] => rfl
  | c :: r => by
    rw [List.filter_cons, List.all_cons]
    cases hc : p c with
    | true => simp [fil_all p r]
    | false => simp
theorem scLPath : FnScope ["_law_thing", "_law_number"] ["_law_thing"] (defScope sLPath) := ⟨rfl, rfl, rfl, by decide +kernel, rfl, by decide +kernel, by decide +kernel⟩
theorem ok_lpath {f : Addr} {fd : FuncData} {k j : Nat} (F : Fun K "_law_is_path" "_law_is_path" sLPath f fd) (U_law_whole : Use P w K mg base "_law_whole" ["_law_found"] j (spB K isWhole)) (hj : j ≤ k) (T : Bl mg) : FnOk P w K mg base CX0 (k + 1) f fd ["_law_thing"] (spB K isPath) := by
  refine F.ok scLPath (fun vs H Q E h => ?_) (fun cdv A outer s H vs Q E hr h => ?_)
  · obtain ⟨v, d, rfl, _⟩ := h
    rfl
  obtain ⟨v, d, rfl, hv, ht, q⟩ := h
  refine ⟨_, (pss_cons (ps_if (PW.pt (pw_or (pt_not (pt_val (pe_callB call_isi (by rfl) T.isi PyProof.Rows.boot_isinstance (pa_cons (pv 0) (pa_cons (b_tuple T) pa_nil))))) (pw_or1 (pt_cmpR op_gt (pe_callB call_len_seq (by rfl) T.len PySem.boot_len (pa_cons (pv 0) pa_nil)) pe_int (nomark _))))) (pss_one (ps_ret pe_bl)) pss_nil)
    (pss_one (ps_ret (pe_cmpR (op_eqD hr.units) (pe_lc (own := [("_law_number", 1)]) (g := gName 1) (by rfl) scLPath.nd (pi_tup (pv 0)) (blkOk_by (N := ["_law_thing", "_law_number"]) (sc := defScope sLPath) (own := [("_law_number", 1)]) (by decide +kernel)) (fun _ _ _ _ _ => pg_name (i := 1) scLPath.nd rfl (Or.inl rfl)) (fun _ _ _ _ _ => (pts_one (PW.pt (pw_or (pt_not (pt_val (pe_call U_law_whole.ok (hr.mono (by omega)) rfl U_law_whole.m U_law_whole.kp U_law_whole.b .nil pass0 (pa_cons (pv 1) pa_nil)))) (pw_or1 (pt_not (pt_chain op_le op_le pe_int (pv 1) pe_int))))))) (fun _ _ _ _ _ => pe_int)) (pe_lst pa_nil) (nomark _))))), ?_⟩
  refine ⟨v, rfl, v, .ty "tuple", _, _, _, rfl, .ty "tuple", ty_data hv, kit_ty (kit_tup d), _, rfl, ?_⟩
  cases d with
  | tuple ds =>
    cases hv with
    | d hv =>
      cases hv with
      | @tup a xs _ hs hx =>
      have hl : xs.length = ds.length := DpAll.len hx
      rw [txt] at ht
      refine ⟨_, rfl, a, xs, rfl, .inr hs, _, _, rfl, rfl, _, rfl, ?_⟩
      refine iteD (fun c => ?_) (fun c => ?_)
      · have q' := q H (Same.refl H)
        rw [isPath, decide_eq_false (by omega), Bool.false_and] at q'
        exact q'
      · refine ⟨_, rfl, a, rfl, ⟨_, hs⟩, fun D hD => ?_⟩
        refine lc_pure (n := xs.length) (G := fun H => SqT K H a xs) fn_tup (fun i => !isNum 59 (ds.getD i .none)) (fun i => .int 1) (fun _ e => same_t e hs) (by omega) (fun x => rfl) hD (fun i H3 hi e3 Qt k => ?_) (fun i H3 hi _ e3 Qe k => k H3 (Same.refl _)) (fun H2 e2 h2' => ?_)
        · obtain ⟨d', h1, h2⟩ := DpAll.get hx (List.getElem?_eq_getElem hi)
          have e1 : xs.getD i .non = xs[i] := by rw [List.getD_eq_getElem?_getD, List.getElem?_eq_getElem hi]; rfl
          have e2 : ds.getD i .none = d' := by rw [List.getD_eq_getElem?_getD, h1]; rfl
          rw [e1]
          rw [e2] at k
          generalize xs[i] = x at h2 ⊢
          refine ⟨_, rfl, x, d', rfl, .d (dp_mono e3 _ _ h2), txtAll_get ht h1, fun H4 e4 => ⟨_, rfl, ?_⟩⟩
          cases h2 with
          | int i' =>
            refine ⟨_, rfl, _, _, rfl, rfl, _, rfl, ?_⟩
            have k' := k H4 e4
            rw [isNum] at k'
            refine iteD (fun c1 => ?_) (fun c1 => ?_)
            · refine ⟨_, _, rfl, rfl, _, rfl, ?_⟩
              rw [decide_eq_true c1, Bool.true_and] at k'
              exact k'
            · refine ⟨_, rfl, ?_⟩
              rw [decide_eq_false c1, Bool.false_and] at k'
              exact k'
          | non => exact k H4 e4
          | bl _ => exact k H4 e4
          | str _ => exact k H4 e4
          | lst _ _ => exact k H4 e4
          | tup _ _ => exact k H4 e4
        · rw [hl, picked_some ds .none (fun d => !isNum 59 d) (fun _ => V.int 1)] at h2'
          generalize hys : ds.filter (fun d => !isNum 59 d) = ys at h2'
          refine ⟨by show 0 ≤ sizeLine; decide, fun p hp => ?_⟩
          have nD : D ≠ p := ne_of_none h2' hp
          refine ⟨.list (ys.map fun _ => .int 1), .list [], .lst (SqL.of (xs := ys.map fun _ => V.int 1) (by rw [upd_ne nD]; exact h2')) ?_, .lst (SqL.of upd_same) .nil, ?_, rfl, ?_⟩
          · clear hys h2' hp
            induction ys with
            | nil => exact .nil
            | cons c r ih => exact .cons (.int _) ih
          · refine flat_shaped (List.all_eq_true.mpr fun d hd => ?_)
            obtain ⟨c, hc, rfl⟩ := List.mem_map.mp hd
            rfl
          · have q' := q _ (e2.trans (same_new (o := .lst []) hp))
            rw [isPath, decide_eq_true (by omega), Bool.true_and] at q'
            rw [eqv_nil, List.isEmpty_map, ← hys, fil_all]
            exact q'
  | str z => exact q H (Same.refl H)
  | bool b => exact q H (Same.refl H)
  | int b => exact q H (Same.refl H)
  | none => exact q H (Same.refl H)
  | list s => exact q H (Same.refl H)
  | dict s => exact q H (Same.refl H)
end
end Tl

set_option Elab.async false
set_option linter.all false
set_option maxRecDepth 100000
set_option maxHeartbeats 4000000
/-! Rules of our own: tuple * int of any small count, text * int, enumerate of a tuple, repr of data. -/
namespace Tl
open PySem PySem.Spec PyProof.Rows L2
open AutoSeq1 (wpAny_loadPart')
/-- one way through tuple.__mul__ where the tuple itself comes back -/
theorem mulSame (l : Addr) (items : Array Value) (n : Nat) (dd : Option Addr) (sl : Array (Option Value)) (x : Int) (u : Tok)
    (c0 : (decide (x < -(2 ^ 63)) || decide (x ≥ 2 ^ 63)) = false) (c1 : (items.isEmpty || x == 1) = true) :
    Meets (Builtin.«tuple.__mul__» ⟨[.ref l, .int x u], []⟩) (fun _ R s =>
      s.heap.get? l = some { cls := .type "tuple", dict := dd, data := .seq items n, slots := sl } ∧
        R (.ok (.ret (Value.ref l))) s) :=
  .of_wp fun prog w A R s h => by
    obtain ⟨hp, g, d, tk, os⟩ := s
    obtain ⟨hl, h⟩ := h
    have f1 := AutoSeq1.idx_int
    wp_walk using wpAny_loadPart' hl
    refine wpAny_ite_false (decide_eq_false (by rw [c0]; exact Bool.false_ne_true)) ?_
    wp_walk using wpAny_loadPart' hl
    exact ⟨_, rfl, h⟩
theorem mulNone (l : Addr) (items : Array Value) (n : Nat) (dd : Option Addr) (sl : Array (Option Value)) (x : Int) (u : Tok)
    (c0 : (decide (x < -(2 ^ 63)) || decide (x ≥ 2 ^ 63)) = false) (c1 : (items.isEmpty || x == 1) = false) (c2 : (decide (x ≤ 0) || items.isEmpty) = true) :
    Meets (Builtin.«tuple.__mul__» ⟨[.ref l, .int x u], []⟩) (fun _ R s =>
      s.heap.get? l = some { cls := .type "tuple", dict := dd, data := .seq items n, slots := sl } ∧
        R (.ok (.ret (Value.ref s.heap.objs.size))) { s with heap := s.heap.push { cls := Value.type "tuple", data := Data.seq #[] }, toks := s.toks }) :=
  .of_wp fun prog w A R s h => by
    obtain ⟨hp, g, d, tk, os⟩ := s
    obtain ⟨hl, h⟩ := h
    have f1 := AutoSeq1.idx_int
    wp_walk using wpAny_loadPart' hl
    refine wpAny_ite_false (decide_eq_false (by rw [c0]; exact Bool.false_ne_true)) ?_
    wp_walk using wpAny_loadPart' hl
    exact ⟨_, rfl, h⟩
def rRepA (K : PySem.W.Frag) : R2 := fun x y H Q => ∃ l k xs, x = .ref l ∧ y = .int k ∧ SqT K H l xs ∧ 0 ≤ k ∧ k ≤ 1000 ∧ xs.length ≤ 1000 ∧ (xs = [] ∨ k = 1 → Q (.ref l) H) ∧
  (¬ (xs = [] ∨ k = 1) → ∀ p, H p = none → Q (.ref p) (upd H p (.tup (List.replicate k.toNat xs).flatten)))
theorem op_repA {X : Cx} : OpR X (binaryOp .Mult) (rRepA X.K) := by
  intro pins s σ H x y v u Q I rx ry h
  obtain ⟨l, k, xs, rfl, rfl, hT, h1, h2, hz, q0, q1⟩ := h
  by_cases hc : xs = [] ∨ k = 1
  · cases rx
    obtain ⟨t, rfl⟩ := ry
    obtain ⟨its, r, ⟨⟨cls, dd, data, sl⟩, ho, hcl, n, hd⟩, hs⟩ := I.tuple hT
    simp only at hcl hd
    subst hcl hd
    have c0 : (decide (k < -(2 ^ 63)) || decide (k ≥ 2 ^ 63)) = false := by
      rw [decide_eq_false (by omega), decide_eq_false (by omega)]
      rfl
    have c1 : (its.toArray.isEmpty || k == 1) = true := by
      rcases hc with e | e
      · subst e
        cases r
        rfl
      · rw [e, Bool.or_eq_true]
        exact .inr rfl
    refine wpAny_binaryOp_repeat_ref (T := "tuple") (U := "int") (by decide) ⟨_, ho, rfl⟩ (fun s' => typeIs_int s' k t)
      noFill_tuple_mul F.fills_int_mul F.slot_int_rmul repeat_tuple F.slot_int_index.lookup
      (call_meets F.slot_int_rmul (typeIs_int s k t) F.entry_int_rmul (F.args_int_rmul_2 _ _)
        (int_rmul_tuple k t l its.toArray n dd sl) ⟨ho, rfl, ⟨_, ho, rfl⟩, call_meets F.slot_tuple_mul ⟨_, ho, rfl⟩ F.entry_tuple_mul (F.args_tuple_mul_2 _ _) (mulSame l its.toArray n dd sl k t c0 c1) ⟨ho, ?_⟩⟩)
    exact ⟨.ref l, H, I, rfl, q0 hc⟩
  · by_cases hk : 2 ≤ k
    · exact op_repT pins s σ H _ _ v u Q I rx ry ⟨l, k, xs, rfl, rfl, hT, fun e => hc (.inl e), hk, h2, hz, q1 hc⟩
    · have hk0 : k = 0 := by
        have : ¬ k = 1 := fun e => hc (.inr e)
        omega
      subst hk0
      cases rx
      obtain ⟨t, rfl⟩ := ry
      obtain ⟨its, r, ⟨⟨cls, dd, data, sl⟩, ho, hcl, n, hd⟩, hs⟩ := I.tuple hT
      simp only at hcl hd
      subst hcl hd
      have hi : its.toArray.isEmpty = false := by
        cases r with
        | nil => exact absurd (.inl rfl) hc
        | cons a b => rfl
      have c1 : (its.toArray.isEmpty || (0 : Int) == 1) = false := by rw [hi]; rfl
      refine wpAny_binaryOp_repeat_ref (T := "tuple") (U := "int") (by decide) ⟨_, ho, rfl⟩ (fun s' => typeIs_int s' 0 t)
        noFill_tuple_mul F.fills_int_mul F.slot_int_rmul repeat_tuple F.slot_int_index.lookup
        (call_meets F.slot_int_rmul (typeIs_int s 0 t) F.entry_int_rmul (F.args_int_rmul_2 _ _)
          (int_rmul_tuple 0 t l its.toArray n dd sl) ⟨ho, rfl, ⟨_, ho, rfl⟩, call_meets F.slot_tuple_mul ⟨_, ho, rfl⟩ F.entry_tuple_mul (F.args_tuple_mul_2 _ _) (mulNone l its.toArray n dd sl 0 t (by decide) c1 (by rfl)) ⟨ho, ?_⟩⟩)
      refine ⟨.ref s.heap.objs.size, _, I.laid (t' := s.toks) (o := .tup []) (fun b ob q => Heap.get?_push_of_some _ q) (Nat.le_refl _) ?_, rfl, q1 hc _ (I.hok.fresh (Nat.le_refl _))⟩
      exact ⟨Nat.zero_le _, [], .nil, IsTup.new _ _⟩
/-- text * int -/
def repS (x : Str) (n : Nat) : Str := ⟨(List.replicate n x.cps.toList).flatten.toArray⟩
theorem fold_rep (x : Array Nat) : ∀ (n : Nat) (a : Array Nat), (List.replicate n x).foldl (· ++ ·) a = a ++ (List.replicate n x.toList).flatten.toArray
  | 0, a => by simp
  | n + 1, a => by
    rw [List.replicate_succ, List.foldl_cons, fold_rep x n, List.replicate_succ, List.flatten_cons, Array.append_assoc]
    congr 1
    simp
theorem repS_len (a : Str) (n : Nat) : (repS a n).length = n * a.length := by
  show ((List.replicate n a.cps.toList).flatten.toArray).size = n * a.cps.size
  rw [List.size_toArray, PyProof.Rows.lm_len_rep_flat]
  rfl
theorem op_rep_str {X : Cx} : OpR X (binaryOp .Mult) (fun x y H Q => ∃ (a : Str) (n : Int), x = .str a ∧ y = .int n ∧ a.length = 1 ∧ 0 ≤ n ∧ n ≤ 1000 ∧ Q (.str (repS a n.toNat)) H) := by
  intro pins s σ H x y v u Q I rx ry h
  obtain ⟨a, n, rfl, rfl, ha, h0, h1, q⟩ := h
  obtain ⟨t, rfl⟩ := rx
  obtain ⟨t', rfl⟩ := ry
  refine PySem.P.mul_str ?_ (fun _ _ => ?_) (fun _ _ => ?_) ?_
  · rw [decide_eq_false (by omega), decide_eq_false (by omega)]
    rfl
  · rw [ha]
    rename_i hn _
    have h5 : (2 ^ 63 - 1 : Int) / 1000 ≤ (2 ^ 63 - 1) / n := by
      apply (Int.le_ediv_iff_mul_le (by omega)).mpr
      have h6 : (2 ^ 63 - 1 : Int) / 1000 = 9223372036854775 := by decide
      rw [h6]
      omega
    have h7 : (2 ^ 63 - 1 : Int) / 1000 = 9223372036854775 := by decide
    omega
  · rw [ha, Nat.one_mul]
    unfold Builtin.Str.tooLong
    rw [sizeLine_eq]
    exact decide_eq_false (by omega)
  · have done : ∀ (t2 : Tok) (k2 : Nat), EP X pins σ Q (.str (repS a n.toNat) t2) { s with toks := k2 } := fun t2 k2 => ⟨.str _, H, I.tok k2, ⟨t2, rfl⟩, q⟩
    by_cases c1 : n < 1
    · rw [if_pos c1]
      have e : n.toNat = 0 := by omega
      have e2 : repS a n.toNat = Str.empty := by rw [e]; rfl
      rw [e2] at done
      exact ⟨by decide, done _ _⟩
    · rw [if_neg c1]
      by_cases c2 : (n == 1 || a.length == 0) = true
      · rw [if_pos c2]
        have e : n = 1 := by
          rw [Bool.or_eq_true, ha] at c2
          rcases c2 with c2 | c2
          · exact eq_of_beq c2
          · exact absurd c2 (by decide)
        have e2 : repS a n.toNat = a := by
          rw [e]
          unfold repS
          simp
        rw [e2] at done
        exact done t s.toks
      · rw [if_neg c2]
        have e2 : (⟨(List.replicate n.toNat a.cps).foldl (· ++ ·) #[]⟩ : Str) = repS a n.toNat := by
          unfold repS
          rw [fold_rep]
          simp
        rw [e2]
        refine ⟨?_, done _ _⟩
        rw [repS_len, ha, sizeLine_eq]
        omega
/-! ### enumerate(t), t a tuple -/
set_option maxHeartbeats 4000000 in
theorem enumNew {v : Value} {o : Obj} {Hh : Heap → Prop} (B : Begins v o Hh) :
    Meets (Builtin.«enumerate.__new__» ⟨[.type "enumerate", v], []⟩) (fun _ R s => Hh s.heap ∧
      R (.ok (.ret (.ref (s.heap.push o).objs.size)))
        { s with heap := (s.heap.push o).push { cls := .type "enumerate", data := .fields #[.none, .bool false, .ref s.heap.objs.size, rawInt 0, .none, .none] } }) :=
  .of_wp fun prog w A R s h => by
    obtain ⟨hp, g, d, tk, os⟩ := s
    obtain ⟨h1, h⟩ := h
    have hsub := sub_enumerate
    have it : ∀ {A' : Around} {E : Value → Shared → Prop} {Q : Value → Shared → Prop}, Q (.ref hp.objs.size) ⟨hp.push o, g, d, tk, os⟩ →
        wpAny (model prog w) A' (pyIter v) Q E ⟨hp, g, d, tk, os⟩ := fun q => B.iter prog w _ _ ⟨hp, g, d, tk, os⟩ _ h1 q
    wp_walk using it
    refine wpAny_stack_any fun st => wpAny_pure ?_
    split
    · rename_i c _ _ _ _ _
      cases (c == Value.type "enumerate")
      · wp_walk using it
        exact ⟨_, rfl, h⟩
      · wp_walk using it
        exact ⟨_, rfl, h⟩
    · wp_walk using it
      exact ⟨_, rfl, h⟩
theorem enumTup {prog : Program} {w : World} {A : Around} {E : Value → Shared → Prop} {s : Shared} {l : Addr} {items : Array Value} {Q : Value → Shared → Prop} (hL : s.heap.IsTuple l items)
    (h : ∀ h', IsEnum h' (s.heap.objs.size + 1) s.heap.objs.size 0 .none → h'.IsTupleIter s.heap.objs.size l 0 →
      (∀ b o, s.heap.get? b = some o → h'.get? b = some o) → Q (.ref (s.heap.objs.size + 1)) { s with heap := h' }) :
    wpAny (model prog w) A (call (.type "enumerate") [.ref l]) Q E s := by
  refine callType_new F.called_enumerate (by decide) (F.typeCall_enumerate_1 _) (F.newCall_enumerate_1 _)
    (fun obj => F.args_object_init_2 obj _) F.entry_enumerate_new (enumNew (begins_tuple l items)) ⟨hL, ?_⟩
  have hz : (s.heap.push { cls := .type "tuple_iterator", data := .fields #[.ref l, .int 0 0] }).objs.size = s.heap.objs.size + 1 := Heap.size_push ..
  show _ ∧ _
  rw [hz]
  generalize hk : (s.heap.push { cls := .type "tuple_iterator", data := .fields #[.ref l, .int 0 0] }) = h1 at hz ⊢
  have g0 : h1.get? s.heap.objs.size = some { cls := .type "tuple_iterator", data := .fields #[.ref l, .int 0 0] } := by rw [← hk]; exact Heap.get?_push_size _ rfl
  have g1 := Heap.get?_push_size h1 (o := { cls := .type "enumerate", data := .fields #[.none, .bool false, .ref s.heap.objs.size, rawInt 0, .none, .none] }) rfl
  rw [hz] at g1
  refine ⟨⟨_, g1, rfl⟩, h _ g1 ⟨_, Heap.get?_push_of_some _ g0, rfl, rfl⟩ fun b o x => Heap.get?_push_of_some _ ?_⟩
  rw [← hk]
  exact Heap.get?_push_of_some _ x
def Iet (K : PySem.W.Frag) (a : Addr) : It where
  go := fun i H => ∃ (xs : List V) (x : V), SqT K H a xs ∧ xs[i]? = some x
  yld := fun i H v H' => ∃ T x, v = .ref T ∧ H T = none ∧ H' = upd H T (.tup [.int (i : Nat), x]) ∧ ∀ xs, SqT K H a xs → xs[i]? = some x
  stop := fun i H => ∃ xs : List V, SqT K H a xs ∧ xs.length = i
theorem turnET {P : Program} {w : World} {K : PySem.W.Frag} {elts : List Expr} {kk : Nat} {tpos : Pos} (a e it : Addr) :
    Turn P w K (.Tuple elts kk tpos) (Iet K a) [e, it] e
      (fun i h => (∃ old, IsEnum h e it ((i : Nat) : Int) old) ∧ h.IsTupleIter it a i ∧ e ≠ it) where
  mem := by simp
  obj := fun i h st b hb => by
    obtain ⟨⟨old, he⟩, ⟨o, ho, hc, hd⟩, _⟩ := st
    have hb2 : b = e ∨ b = it := by simpa using hb
    rcases hb2 with rfl | rfl
    · exact ⟨_, he, fun v q => nomatch q⟩
    · exact ⟨o, ho, fun v q => by rw [hd] at q; cases q⟩
  keep := fun i h h' st k => by
    obtain ⟨⟨old, he⟩, hi, hne⟩ := st
    exact ⟨⟨old, k e (by simp) _ he⟩, hi.at fun o q => k it (by simp) o q, hne⟩
  item := by
    intro X hP hw hK hc i pins s σ H E I hf st hg
    subst hP hw hK
    obtain ⟨⟨old, he⟩, hit, hne⟩ := st
    obtain ⟨xs, x, hq, hx⟩ := hg
    obtain ⟨its, rv, p, hz⟩ := I.tuple hq
    obtain ⟨u, hu, ru⟩ := rv.get hx
    have hel : e < s.heap.objs.size := Heap.lt_size he
    have hil : it < s.heap.objs.size := by
      obtain ⟨_, q, _⟩ := hit
      exact Heap.lt_size q
    have hae : a ≠ e := fun z => by
      obtain ⟨o, ho, hcl, _⟩ := p
      rw [z, he] at ho
      cases ho
      have h9 : Value.type "enumerate" = Value.type "tuple" := hcl
      exact absurd h9 (by decide)
    have hai : a ≠ it := fun z => by
      obtain ⟨o, ho, hcl, _⟩ := p
      obtain ⟨o', ho', hcl', _⟩ := hit
      rw [z, ho'] at ho
      cases ho
      rw [hcl'] at hcl
      exact absurd hcl (by decide)
    have hlt : i < its.toArray.size := by
      rw [List.size_toArray]
      exact (List.getElem?_eq_some_iff.mp hu).1
    refine wpAny_pyNext_enum_itemD (Draws.tuple (prog := X.prog) (w := X.w) (A := X.A.in1) (I.ok.hd hc) it a hai its.toArray) he ⟨hit, p⟩ hlt hne (by simp [hne, Ne.symm hae]) fun y h' tk hy ho hst hT hsz hk => ?_
    have ey : y = u := by
      have hu' : its.toArray[i]? = some u := by simpa using hu
      rw [hu'] at hy
      exact (Option.some.inj hy).symm
    subst ey
    refine ⟨_, rfl, wpAny_letOwnedTupleGo_enum (s := { s with heap := h', toks := tk + 1 }) ho fun h'' he' sb => ?_⟩
    have hT2 := (sb.2 _ (Nat.ne_of_gt hel)).trans hT
    have new : ObjOk X.prog X.w (upd H s.heap.objs.size (.tup [.int (i : Nat), x])) h'' s.heap.objs.size (.tup [.int (i : Nat), x]) :=
      ⟨by show 2 ≤ sizeLine; decide, [.int i tk, y], .cons ⟨_, rfl⟩ (.cons ru .nil), ⟨_, hT2, rfl, _, rfl⟩⟩
    have I1 : Inv X pins σ (upd H s.heap.objs.size (.tup [.int (i : Nat), x])) { s with heap := h'', toks := tk + 1 } :=
      I.turnedNew (ch := [e, it]) (fun b ob hb q => (sb.2 b fun z => hb (by simp [z])).trans
        (hk b ob (fun z => hb (by simp [z])) (fun z => hb (by simp [z])) q)) hf (Nat.le_refl _) new
    refine ⟨.ref s.heap.objs.size, _, I1, rfl, ⟨_, x, rfl, I.hok.fresh (Nat.le_refl _), rfl, fun ys hy => by rw [I.tuple_inj hy hq]; exact hx⟩, ⟨⟨y, ?_⟩, hst.1.at fun o q => (sb.2 it (Ne.symm hne)).trans q, hne⟩, fun b hb => ?_⟩
    · rw [show ((i + 1 : Nat) : Int) = (i : Int) + 1 by omega]
      exact he'
    · have hb2 : b = e ∨ b = it := by simpa using hb
      have hb3 : b < s.heap.objs.size := by
        rcases hb2 with rfl | rfl
        · exact hel
        · exact hil
      rw [upd_ne (Nat.ne_of_lt hb3)]
      exact (hf b hb).1
  done := by
    intro X hP hw hK hc i pins s σ H E I hf st hg
    subst hP hw hK
    obtain ⟨⟨old, he⟩, hit, hne⟩ := st
    obtain ⟨xs, hq, hx⟩ := hg
    obtain ⟨its, rv, p, hz⟩ := I.tuple hq
    obtain ⟨f0, f1, f2, f3, f4, f5⟩ := hf it (by simp)
    have hai : a ≠ it := fun z => by
      obtain ⟨o, ho, hcl, _⟩ := p
      obtain ⟨o', ho', hcl', _⟩ := hit
      rw [z, ho'] at ho
      cases ho
      rw [hcl'] at hcl
      exact absurd hcl (by decide)
    have hn : its.toArray.size = i := by rw [List.size_toArray, ← rv.length, hx]
    have hst : s.heap.IsTupleIter it a its.toArray.size ∧ s.heap.IsTuple a its.toArray := ⟨by rw [hn]; exact hit, p⟩
    exact wpAny_pyNext_enum_endD (Draws.tuple (prog := X.prog) (w := X.w) (A := X.A.in1) (I.ok.hd hc) it a hai its.toArray) he hst fun h' eb => ⟨rfl, I.turned (t' := s.toks) (fun b o hb q => eb b o hb q) f0 f1 f3 f4 f5⟩
  self := fun A i s Q E st h => by
    obtain ⟨⟨_, he⟩, _⟩ := st
    exact wpAny_pyIter_enum he h
def iEnumT (K : PySem.W.Frag) (ta : TA) : TI := fun σ H R => ta σ H fun vs H1 => ∃ a xs, vs = [.ref a] ∧ SqT K H1 a xs ∧ R (Iet K a) H1
theorem pi_enumT {X : Cx} {e : Expr} {ta : TA} {p pos tpos : Pos} {elts : List Expr} {kk : Nat} (hg : Gl X "enumerate") (hm : X.mg "enumerate" = none)
    (ha : PA X [e] ta) (hs : starEach [e] X.env = [(false, eval e X.env)] := by rfl) : PI X (.Tuple elts kk tpos) (.Call (.Name "enumerate" p) [e] [] pos) (iEnumT X.K ta) := by
  refine ⟨fun pins s σ H R I h => ?_⟩
  refine Call_ (ld_blt I hg hm boot_enumerate (callWith_type1
    (thn (ha.run pos pins s σ H _ I h) fun us s1 ⟨vs, H1, I1, r1, q1⟩ => ?_) hs rfl))
  obtain ⟨a, xs, ex, hq, q⟩ := q1
  subst ex
  cases r1 with
  | cons r rr =>
    cases rr
    cases r
    obtain ⟨its, rv, p', hz⟩ := I1.tuple hq
    refine enumTup p' fun h' he hit hk => wpAny_pyIter_enum he ?_
    have I2 : Inv X pins σ H1 { s1 with heap := h' } := I1.kept (t' := s1.toks) hk
    refine ⟨s1.heap.objs.size + 1, [s1.heap.objs.size + 1, s1.heap.objs.size], _, _, H1, rfl, I2,
      turnET a (s1.heap.objs.size + 1) s1.heap.objs.size, ⟨⟨.none, he⟩, hit, Nat.succ_ne_self _⟩, fun b hb => ?_, q⟩
    have hle : s1.heap.objs.size ≤ b := by
      have hb2 : b = s1.heap.objs.size + 1 ∨ b = s1.heap.objs.size := by simpa using hb
      rcases hb2 with z | z
      · rw [z]
        exact Nat.le_add_right _ _
      · rw [z]
        exact Nat.le_refl _
    exact I1.fpOk hle (I1.hok.fresh hle)
theorem walk_enumT {K : PySem.W.Frag} {a : Addr} {xs : List V} : Walk (Iet K a) xs.length (fun H => SqT K H a xs)
    (fun i H v H' => ∃ T x, v = .ref T ∧ H T = none ∧ H' = upd H T (.tup [.int (i : Nat), x]) ∧ xs[i]? = some x) := by
  refine ⟨fun i _ hi q => ⟨xs, xs[i], q, by simp [hi]⟩, fun _ q => ⟨xs, q, rfl⟩, fun i H v H' _ q y => ?_⟩
  obtain ⟨T, x, h1, h2, h3, h4⟩ := y
  exact ⟨T, x, h1, h2, h3, h4 xs q⟩
/-! ### repr of data -/
def rReprD (K : PySem.W.Frag) : List V → Hp → VK → Prop := fun vs H Q => ∃ (v : V) (d : PyData), vs = [v] ∧ Dt K H v d ∧ d.showable = true ∧ d.depth ≤ 100 ∧ d.shown.length ≤ sizeLine ∧ Q (.str d.shown) H
mutual
theorem noD {K : PySem.W.Frag} {H : Hp} : ∀ (d : PyData) {v : V}, Dp K H v d → d.hasDict = false
  | .none, _, _ => rfl
  | .bool _, _, _ => rfl
  | .int _, _, _ => rfl
  | .str _, _, _ => rfl
  | .list ds, _, h => by
    cases h with
    | lst _ ha => rw [PyData.hasDict]; exact noDAll ds ha
  | .tuple ds, _, h => by
    cases h with
    | tup _ ha => rw [PyData.hasDict]; exact noDAll ds ha
  | .dict _, _, h => by cases h
theorem noDAll {K : PySem.W.Frag} {H : Hp} : ∀ (ds : List PyData) {vs : List V}, DpAll K H vs ds → PyData.hasDictAll ds = false
  | [], _, _ => rfl
  | d :: ds, _, h => by
    cases h with
    | cons h1 h2 => rw [PyData.hasDictAll, noD d h1, noDAll ds h2]; rfl
end
theorem call_reprD {X : Cx} (hg : X.A.guards = some []) (hu : X.A.units + 200 < cLine) : CallR X (.builtin "repr") (rReprD X.K) := by
  intro pins s σ H vs us Q I r h
  obtain ⟨v, d, rfl, hd, hs, hdp, hz, q⟩ := h
  cases r with
  | cons r1 rr =>
    cases rr
    rename_i u
    cases hd with
    | d hd =>
      obtain ⟨as, hR⟩ := Dp.reads I d v u hd r1
      have fin : ∀ (t' : Tok) (k : Nat), EP X pins σ Q (.str d.shown t') { s with toks := k } := fun t' k => ⟨.str _, H, I.tok k, ⟨t', rfl⟩, q⟩
      cases hd with
      | non =>
        cases (show u = Value.none from r1)
        exact PySem.P.repr_of_none (fin _ _)
      | bl b =>
        cases (show u = Value.bool b from r1)
        refine PySem.P.repr_of_bool ?_
        have := fin s.toks (s.toks + 1)
        cases b <;> exact this
      | int i =>
        obtain ⟨t', rfl⟩ := r1
        exact PySem.P.repr_of_int (of_decide_eq_true hs) (fin _ _)
      | str x =>
        obtain ⟨t', rfl⟩ := r1
        exact PySem.P.repr_of_str (fin _ _) hz
      | @lst a xs ds hs2 ha =>
        cases (show u = Value.ref a from r1)
        have hnd : (PyData.list ds).hasDict = true → sysModules ∉ as := PyData.noDict_hsm (noD _ (.lst hs2 ha))
        exact repr_of_reads' hR hs hnd hg (by omega) (fun b o e => e) (fun h' t' tk hk => ⟨.str _, H, I.kept (t' := tk) hk, ⟨t', rfl⟩, q⟩) hz
      | @tup a xs ds hs2 ha =>
        cases (show u = Value.ref a from r1)
        have hnd : (PyData.tuple ds).hasDict = true → sysModules ∉ as := PyData.noDict_hsm (noD _ (.tup hs2 ha))
        exact repr_of_reads' hR hs hnd hg (by omega) (fun b o e => e) (fun h' t' tk hk => ⟨.str _, H, I.kept (t' := tk) hk, ⟨t', rfl⟩, q⟩) hz
    | @e a hd =>
      cases (show u = Value.ref a from r1)
      obtain ⟨hz2, hsm, vs, hkv, o, es, ep, h1, h2, h3⟩ := (show ObjOk X.prog X.w H s.heap a (.dK []) from I.hok a _ hd)
      cases hkv
      have hes : es.toList = [] := by
        have hp := h3.2.2.1
        generalize es.toList = l at hp
        cases hp
        rfl
      have hR : Reads s.heap (.ref a) (.dict []) (a :: [] ++ []) := Reads.dict h1 h2.1 h3.1 (by rw [hes]; exact .nil) (by rw [hes]; exact .nil)
      have hne : ¬ a = sysModules := fun z => by rw [z] at hsm; simp at hsm
      exact repr_of_reads' hR hs (fun _ z => hne (by simpa using Eq.symm (by simpa using z))) hg (by omega) (fun b o e => e) (fun h' t' tk hk => ⟨.str _, H, I.kept (t' := tk) hk, ⟨t', rfl⟩, q⟩) hz
end Tl

set_option Elab.async false
set_option linter.all false
set_option maxRecDepth 100000
set_option maxHeartbeats 4000000
/-! Data that is good to be shown: short texts, small numbers; how long its text can be. -/
namespace Tl
open PySem L2
mutual
def wt : PyData → Nat
  | .none => 4
  | .bool _ => 5
  | .int _ => 1930
  | .str s => 10 * s.length + 4
  | .list ds => 3 + wtAll ds
  | .tuple ds => 3 + wtAll ds
  | .dict _ => 2
def wtAll : List PyData → Nat
  | [] => 0
  | d :: ds => wt d + 2 + wtAll ds
end
mutual
def gd : PyData → Bool
  | .none => true
  | .bool _ => true
  | .int i => decide (i.natAbs < 10 ^ 41)
  | .str s => decide (s.length ≤ 1000) && PyData.strOk s
  | .list ds => gdAll ds
  | .tuple ds => gdAll ds
  | .dict _ => false
def gdAll : List PyData → Bool
  | [] => true
  | d :: ds => gd d && gdAll ds
end
mutual
theorem gd_txt : ∀ d : PyData, gd d = true → txt d = true
  | .none, _ => rfl
  | .bool _, _ => rfl
  | .int _, _ => rfl
  | .str s, h => by rw [gd] at h; rw [txt]; exact h
  | .list ds, h => by rw [gd] at h; rw [txt]; exact gdAll_txt ds h
  | .tuple ds, h => by rw [gd] at h; rw [txt]; exact gdAll_txt ds h
  | .dict _, h => Bool.noConfusion h
theorem gdAll_txt : ∀ ds : List PyData, gdAll ds = true → txtAll ds = true
  | [], _ => rfl
  | d :: ds, h => by
    rw [gdAll, Bool.and_eq_true] at h
    rw [txtAll, gd_txt d h.1, gdAll_txt ds h.2]
    rfl
end
theorem big41 : (10 : Nat) ^ 41 ≤ 2 ^ 1920 := Nat.le_trans (show (10 : Nat) ^ 41 ≤ 2 ^ 200 by decide) (Nat.pow_le_pow_right (by decide) (by decide))
mutual
theorem gd_show : ∀ d : PyData, gd d = true → d.showable = true
  | .none, _ => rfl
  | .bool _, _ => rfl
  | .int i, h => by
    rw [gd] at h
    have h2 : i.natAbs < 10 ^ 41 := of_decide_eq_true h
    rw [PyData.showable]
    apply decide_eq_true
    by_cases h0 : i.natAbs = 0
    · rw [h0]; decide
    · exact (Nat.log2_lt h0).mpr (Nat.lt_of_lt_of_le h2 big41)
  | .str s, h => rfl
  | .list ds, h => by rw [gd] at h; rw [PyData.showable]; exact gdAll_show ds h
  | .tuple ds, h => by rw [gd] at h; rw [PyData.showable]; exact gdAll_show ds h
  | .dict _, h => Bool.noConfusion h
theorem gdAll_show : ∀ ds : List PyData, gdAll ds = true → PyData.showableAll ds = true
  | [], _ => rfl
  | d :: ds, h => by
    rw [gdAll, Bool.and_eq_true] at h
    rw [PyData.showableAll, gd_show d h.1, gdAll_show ds h.2]
    rfl
end
theorem textFrom_le : ∀ (ts : List Str) (k : Nat) (acc : Str), (textFrom k acc ts).length ≤ acc.length + piled ts
  | [], k, acc => by rw [piled_nil]; exact Nat.le_refl _
  | t :: r, k, acc => by
    have ih := textFrom_le r (k + 1) (acc ++ (if k > 0 then ", " else "" : String) ++ t)
    have e : (acc ++ (if k > 0 then ", " else "" : String) ++ t).length ≤ acc.length + 2 + t.length := by
      rw [strLen_append, strLen_append]
      have : ((if k > 0 then ", " else "" : String) : Str).length ≤ 2 := by split <;> decide +kernel
      omega
    show (textFrom (k + 1) _ r).length ≤ _
    rw [piled_cons]
    omega
theorem listText_le (ts : List Str) : (listText ts).length ≤ piled ts + 2 := by
  unfold listText
  rw [strLen_append]
  have h := textFrom_le ts 0 "["
  have e1 : ((("[" : String) : Str)).length = 1 := rfl
  have e2 : ((("]" : String) : Str)).length = 1 := rfl
  rw [e1] at h
  rw [e2]
  omega
mutual
theorem shown_le : ∀ d : PyData, gd d = true → d.shown.length ≤ wt d
  | .none, _ => by decide +kernel
  | .bool true, _ => by decide +kernel
  | .bool false, _ => by decide +kernel
  | .int i, h => by
    rw [gd] at h
    have h2 : i.natAbs < 10 ^ 41 := of_decide_eq_true h
    have h4 : i.natAbs.log2 < 1920 := by
      by_cases h0 : i.natAbs = 0
      · rw [h0]; decide
      · exact (Nat.log2_lt h0).mpr (Nat.lt_of_lt_of_le h2 big41)
    have h3 := PyProof.Rows.int_text_len_1921 h4
    show (Str.ofString (toString i)).length ≤ 1930
    omega
  | .str s, h => by
    rw [gd, Bool.and_eq_true] at h
    have h2 := h.2
    rw [PyData.strOk, ← Array.all_toList, List.all_eq_true] at h2
    have h3 := StrLaws.reprText_len s fun c hc => Nat.lt_of_lt_of_le (of_decide_eq_true (h2 c hc)) (by decide)
    show (reprText s).length ≤ 10 * s.length + 4
    omega
  | .list ds, h => by
    rw [gd] at h
    have h2 := shownAll_le ds h
    have h3 := listText_le (PyData.shownAll ds)
    show (listText (PyData.shownAll ds)).length ≤ 3 + wtAll ds
    omega
  | .tuple ds, h => by
    rw [gd] at h
    have h2 := shownAll_le ds h
    have h3 := fmt_text (PyData.shownAll ds)
    show (tupleText (PyData.shownAll ds)).length ≤ 3 + wtAll ds
    omega
  | .dict _, h => Bool.noConfusion h
theorem shownAll_le : ∀ ds : List PyData, gdAll ds = true → piled (PyData.shownAll ds) ≤ wtAll ds
  | [], _ => Nat.le_refl _
  | d :: ds, h => by
    rw [gdAll, Bool.and_eq_true] at h
    have h1 := shown_le d h.1
    have h2 := shownAll_le ds h.2
    rw [PyData.shownAll, piled_cons, wtAll]
    omega
end
theorem gdAll_get : ∀ {ds : List PyData} {i : Nat} {d : PyData}, gdAll ds = true → ds[i]? = some d → gd d = true ∧ wt d + 2 ≤ wtAll ds ∧ d.depth ≤ PyData.depthAll ds
  | [], _, _, _, e => by simp at e
  | a :: r, 0, d, h, e => by
    rw [gdAll, Bool.and_eq_true] at h
    simp at e
    subst e
    rw [wtAll, PyData.depthAll]
    exact ⟨h.1, by omega, Nat.le_max_left _ _⟩
  | a :: r, i + 1, d, h, e => by
    rw [gdAll, Bool.and_eq_true] at h
    obtain ⟨h1, h2, h3⟩ := gdAll_get (i := i) h.2 (by simpa using e)
    rw [wtAll, PyData.depthAll]
    exact ⟨h1, by omega, Nat.le_trans h3 (Nat.le_max_right _ _)⟩
theorem gdAll_app : ∀ {ds es : List PyData}, gdAll (ds ++ es) = (gdAll ds && gdAll es)
  | [], es => by rw [List.nil_append, gdAll, Bool.true_and]
  | a :: r, es => by rw [List.cons_append, gdAll, gdAll, gdAll_app, Bool.and_assoc]
theorem wtAll_app : ∀ {ds es : List PyData}, wtAll (ds ++ es) = wtAll ds + wtAll es
  | [], es => by rw [List.nil_append, wtAll, Nat.zero_add]
  | a :: r, es => by rw [List.cons_append, wtAll, wtAll, wtAll_app]; omega
theorem depthAll_app : ∀ {ds es : List PyData}, PyData.depthAll (ds ++ es) = max (PyData.depthAll ds) (PyData.depthAll es)
  | [], es => by rw [List.nil_append, PyData.depthAll]; omega
  | a :: r, es => by rw [List.cons_append, PyData.depthAll, PyData.depthAll, depthAll_app]; omega
theorem gdAll_rep {ds : List PyData} (h : gdAll ds = true) : ∀ n, gdAll (List.replicate n ds).flatten = true
  | 0 => rfl
  | n + 1 => by rw [List.replicate_succ, List.flatten_cons, gdAll_app, h, gdAll_rep h n]; rfl
theorem wtAll_rep (ds : List PyData) : ∀ n, wtAll (List.replicate n ds).flatten = n * wtAll ds
  | 0 => by rw [Nat.zero_mul]; rfl
  | n + 1 => by rw [List.replicate_succ, List.flatten_cons, wtAll_app, wtAll_rep ds n, Nat.succ_mul]; omega
theorem depthAll_rep (ds : List PyData) : ∀ n, PyData.depthAll (List.replicate n ds).flatten ≤ PyData.depthAll ds
  | 0 => Nat.zero_le _
  | n + 1 => by
    have := depthAll_rep ds n
    rw [List.replicate_succ, List.flatten_cons, depthAll_app]
    omega
theorem depthAll_le {ds : List PyData} {m : Nat} : (∀ d ∈ ds, d.depth ≤ m) → PyData.depthAll ds ≤ m := by
  induction ds with
  | nil => intro _; exact Nat.zero_le _
  | cons a r ih =>
    intro h
    rw [PyData.depthAll]
    have h1 := h a List.mem_cons_self
    have h2 := ih fun d hd => h d (List.mem_cons_of_mem _ hd)
    omega
theorem gdAll_of {ds : List PyData} : (∀ d ∈ ds, gd d = true) → gdAll ds = true := by
  induction ds with
  | nil => intro _; rfl
  | cons a r ih =>
    intro h
    rw [gdAll, h a List.mem_cons_self, ih fun d hd => h d (List.mem_cons_of_mem _ hd)]
    rfl
theorem len_wt : ∀ ds : List PyData, 2 * ds.length ≤ wtAll ds
  | [] => Nat.zero_le _
  | a :: r => by
    have := len_wt r
    rw [wtAll, List.length_cons]
    omega

/-! ### trees -/
def tags6 : List Str := ["a", "b", "ab", "zz", "abcdefgh", "z"]
def tagOk (s : Str) : Prop := 1 ≤ s.length ∧ s.length ≤ 8 ∧ (PyData.strOk s = true ∧ s ∈ tags6)
def TrD : Nat → PyData → Prop
  | 0, _ => False
  | h + 1, d => ∃ (s : Str) (ks : List PyData), d = .tuple [.str s, .tuple ks] ∧ tagOk s ∧ ∀ k ∈ ks, TrD h k
theorem TrD.mono : ∀ {h h' : Nat} {d : PyData}, h ≤ h' → TrD h d → TrD h' d
  | 0, _, _, _, t => t.elim
  | h + 1, 0, _, e, _ => by omega
  | h + 1, h' + 1, d, e, t => by
    obtain ⟨s, ks, rfl, a, b⟩ := t
    exact ⟨s, ks, rfl, a, fun k hk => TrD.mono (by omega) (b k hk)⟩
theorem gd_tag {s : Str} (h : tagOk s) : gd (.str s) = true := by
  rw [gd, h.2.2.1, decide_eq_true (by have := h.2.1; omega)]
  rfl
theorem TrD.gd : ∀ {h : Nat} {d : PyData}, TrD h d → gd d = true ∧ d.depth ≤ 2 * h
  | 0, _, t => t.elim
  | h + 1, d, t => by
    obtain ⟨s, ks, rfl, a, b⟩ := t
    have g1 : gdAll ks = true := gdAll_of fun k hk => (TrD.gd (b k hk)).1
    have g2 : PyData.depthAll ks ≤ 2 * h := depthAll_le fun k hk => (TrD.gd (b k hk)).2
    refine ⟨?_, ?_⟩
    · rw [Tl.gd, gdAll, gdAll, gdAll, gd_tag a, Tl.gd, g1]
      rfl
    · simp only [PyData.depth, PyData.depthAll]
      omega
theorem wt_node (s : Str) (ks : List PyData) : wt (.tuple [.str s, .tuple ks]) = 10 * s.length + 14 + wtAll ks := by
  simp only [wt, wtAll]
  omega

/-! ### the heap: data in F within H, the source of numbers at st -/
structure Gw (F H F' H' : Hp) : Prop where
  ff : Same F F'
  fh : Same F' H'
  hh : Same H H'
  nw : ∀ b, H b ≠ none → F b = none → F' b = none
theorem Gw.refl {F H : Hp} (e : Same F H) : Gw F H F H := ⟨Same.refl _, e, Same.refl _, fun _ _ h => h⟩
theorem Gw.trans {F H F1 H1 F2 H2 : Hp} (a : Gw F H F1 H1) (b : Gw F1 H1 F2 H2) : Gw F H F2 H2 :=
  ⟨a.ff.trans b.ff, b.fh, a.hh.trans b.hh, fun x h1 h2 => b.nw x (fun z => h1 (a.hh.free z)) (a.nw x h1 h2)⟩
theorem Gw.new {F H : Hp} {p : Addr} {o : HO} (e : Same F H) (h : H p = none) : Gw F H (upd F p o) (upd H p o) := by
  refine ⟨same_new (e.free h), fun b u q => ?_, same_new h, fun b h1 h2 => ?_⟩
  · by_cases z : b = p
    · subst z
      rw [upd_same] at q ⊢
      exact q
    · rw [upd_ne z] at q ⊢
      exact e b u q
  · rw [upd_ne (fun z => h1 (by rw [z]; exact h))]
    exact h2
theorem Gw.temp {F H : Hp} {p : Addr} {o : HO} (e : Same F H) (h : H p = none) : Gw F H F (upd H p o) :=
  ⟨Same.refl _, same_mut e (e.free h), same_new h, fun _ _ h2 => h2⟩
theorem Gw.more {F H F1 H1 H2 : Hp} (a : Gw F H F1 H1) (b : Same H1 H2) : Gw F H F1 H2 := ⟨a.ff, a.fh.trans b, a.hh.trans b, a.nw⟩
end Tl

set_option Elab.async false
set_option linter.all false
set_option maxRecDepth 100000
set_option maxHeartbeats 4000000
namespace Tl
open PySem L2
abbrev sPlaces : Stmt := top 16
abbrev sReach : Stmt := top 17
abbrev sSet : Stmt := top 22
abbrev sShared : Stmt := top 25
def pathD (q : List Nat) : PyData := .tuple (q.map fun (n : Nat) => .int (n : Int))
/-- the part at a path -/
def sub : PyData → List Nat → Option PyData
  | d, [] => some d
  | .tuple [_, .tuple ks], i :: q => match ks[i]? with
    | some k => sub k q
    | none => none
  | _, _ :: _ => none
theorem sub_cons {d : PyData} {i : Nat} {q : List Nat} {e : PyData} (h : sub d (i :: q) = some e) : ∃ s ks k, d = .tuple [s, .tuple ks] ∧ ks[i]? = some k ∧ sub k q = some e := by
  unfold sub at h
  split at h
  · rename_i h2; cases h2
  · rename_i s ks i' q' h2
    cases h2
    split at h
    · rename_i k hk
      exact ⟨s, ks, k, rfl, hk, h⟩
    · cases h
  · cases h
def spReach (K : PySem.W.Frag) : Sp := fun vs H Q _ => ∃ (F : Hp) (v : V) (d : PyData) (p : V) (q : List Nat) (e : PyData), vs = [v, p] ∧ Same F H ∧ Dp K F v d ∧ Dp K F p (pathD q) ∧ sub d q = some e ∧ ∀ r, Dp K F r e → Q r H
theorem dp_path {K : PySem.W.Frag} {F : Hp} {p : V} {q : List Nat} (h : Dp K F p (pathD q)) : ∃ a, p = .ref a ∧ SqT K F a (q.map fun (n : Nat) => V.int (n : Int)) := by
  unfold pathD at h
  cases h with
  | @tup a xs _ hs ha =>
    have e : ∀ (q : List Nat) (xs : List V), DpAll K F xs (q.map fun (n : Nat) => PyData.int (n : Int)) → xs = q.map fun (n : Nat) => V.int (n : Int) := by
      intro q
      induction q with
      | nil => intro xs h; cases h; rfl
      | cons n r ih =>
        intro xs h
        cases h with
        | cons h1 h2 =>
          cases h1
          rw [List.map_cons, ih _ h2]
    rw [e q xs ha] at hs
    exact ⟨a, rfl, hs⟩
theorem path_dp {K : PySem.W.Frag} {F : Hp} {a : Addr} {q : List Nat} (h : SqT K F a (q.map fun (n : Nat) => V.int (n : Int))) : Dp K F (.ref a) (pathD q) := by
  refine .tup h ?_
  clear h
  induction q with
  | nil => exact .nil
  | cons n r ih => exact .cons (.int _) ih
theorem path_all {K : PySem.W.Frag} {F : Hp} : ∀ q : List Nat, DpAll K F (q.map fun (n : Nat) => V.int (n : Int)) (q.map fun (n : Nat) => PyData.int (n : Int))
  | [] => .nil
  | n :: r => .cons (.int _) (path_all r)
section
variable {P : Program} {w : World} {K : PySem.W.Frag} {mg : Str → Option Value} {base : Heap}
theorem scReach : FnScope ["_law_tree_here", "_law_path", "_law_number"] ["_law_tree_here", "_law_path"] (defScope sReach) := ⟨rfl, rfl, rfl, by decide +kernel, rfl, by decide +kernel, by decide +kernel⟩
theorem ok_reach {f : Addr} {fd : FuncData} {k : Nat} (F : Fun K "_law_reach" "_law_reach" sReach f fd) (T : Bl mg) : FnOk P w K mg base CX0 (k + 1) f fd ["_law_tree_here", "_law_path"] (spReach K) := by
  refine F.ok scReach (fun vs H Q E h => ?_) (fun cdv A outer s H vs Q E hr h => ?_)
  · obtain ⟨F, v, d, p, q, e, rfl, _⟩ := h
    rfl
  obtain ⟨Fd, v, d, p, q, e, rfl, hF, hv, hp, he, k⟩ := h
  refine ⟨_, (pss_cons (ps_for PassesOwn.never rfl (pi_tup (pv 1)) (pg_name (i := 2) scReach.nd rfl (.inl rfl)) (pss_cons (ps_if (pt_cmpR op_ge (pv 2) (pe_callB call_len_seq (by rfl) T.len PySem.boot_len (pa_cons (pe_ix ix_tup (pv 0) pe_int (fun _ _ => rfl)) pa_nil)) (nomark _)) (pss_one (ps_ret pe_non)) pss_nil)
      (pss_one (ps_set (i := 0) scReach.nd rfl (.inl rfl) (pe_ix ix_tup (pe_ix ix_tup (pv 0) pe_int (fun _ _ => rfl)) (pv 2) (fun _ _ => rfl))))))
    (pss_one (ps_ret (pv 0)))), ?_⟩
  obtain ⟨a, rfl, ha⟩ := dp_path hp
  refine ⟨_, rfl, a, rfl, ⟨_, same_t hF ha⟩, ?_⟩
  refine for_tup (xs := q.map fun (n : Nat) => V.int (n : Int)) (fun i σ H2 => ∃ (v' : V) (d' : PyData) (y : Option V), σ = [some v', some (.ref a), y] ∧ H2 = H ∧ Dp K Fd v' d' ∧ sub d' (q.drop i) = some e) ⟨v, d, none, rfl, rfl, hv, he⟩ (fun i σ H2 _ p => ?_) (fun i x σ H2 hx p => ?_) (fun σ H2 p => ?_)
  · obtain ⟨_, _, _, _, rfl, _⟩ := p
    exact same_t hF ha
  · obtain ⟨v', d', y, rfl, rfl, hv', hs⟩ := p
    rw [List.getElem?_map] at hx
    obtain ⟨n, hn, rfl⟩ := Option.map_eq_some_iff.mp hx
    obtain ⟨hi, rfl⟩ := List.getElem?_eq_some_iff.mp hn
    rw [List.drop_eq_getElem_cons hi] at hs
    obtain ⟨s0, ks, kd, rfl, hk, hs2⟩ := sub_cons hs
    cases hv' with
    | @tup b xs _ hb hx2 =>
    obtain ⟨x0, y0, _, _, rfl, h00, h1, h2⟩ := DpAll.two hx2 (DpAll.len hx2)
    cases h00
    cases h2 with
    | @tup c ys _ hc hy =>
    obtain ⟨kv, hkv, hkd⟩ := DpAll.got hy hk
    have hlt : q[i] < ys.length := (List.getElem?_eq_some_iff.mp hkv).1
    refine ⟨_, rfl, _, rfl, b, _, 1, _, rfl, rfl, same_t hF hb, atI_nat (j := 1) rfl, c, ys, rfl, .inr (same_t hF hc), _, _, rfl, rfl, _, rfl, ?_⟩
    refine iteD (fun cc => absurd cc (by omega)) (fun cc => ?_)
    refine ⟨_, rfl, b, _, 1, _, rfl, rfl, same_t hF hb, atI_nat (j := 1) rfl, _, rfl, c, ys, _, kv, rfl, rfl, same_t hF hc, atI_nat hkv, ?_⟩
    exact ⟨kv, kd, _, rfl, rfl, hkd, hs2⟩
  · obtain ⟨v', d', y, rfl, rfl, hv', hs⟩ := p
    rw [List.length_map, List.drop_length, sub] at hs
    cases hs
    exact ⟨_, rfl, k _ hv'⟩
theorem gw_tup {F H : Hp} {p : Addr} {xs : List V} {ds : List PyData} (e : Same F H) (h : H p = none) (ha : DpAll K F xs ds) : Gw F H (upd F p (.tup xs)) (upd H p (.tup xs)) ∧ Dp K (upd F p (.tup xs)) (.ref p) (.tuple ds) :=
  ⟨Gw.new e h, .tup (.inl (.inl upd_same)) (dpAll_mono (same_new (e.free h)) _ _ ha)⟩
/-- t + u of data -/
theorem cat_data {F H : Hp} {a b : Addr} {xs ys : List V} {ds es : List PyData} {Q : VK} (e : Same F H) (ha : SqT K F a xs) (hb : SqT K F b ys) (hx : DpAll K F xs ds) (hy : DpAll K F ys es) (hz : xs.length + ys.length ≤ sizeLine)
    (k : ∀ r F' H', Gw F H F' H' → Dp K F' r (.tuple (ds ++ es)) → Q r H') : rCatA K (.ref a) (.ref b) H Q := by
  refine ⟨a, b, xs, ys, rfl, rfl, same_t e ha, same_t e hb, hz, fun h => ?_, fun h1 h2 => ?_, fun h1 h2 p hp => ?_⟩
  · subst h
    cases hx
    exact k _ F H (Gw.refl e) (.tup hb hy)
  · subst h2
    cases hy
    rw [List.append_nil] at k
    exact k _ F H (Gw.refl e) (.tup ha hx)
  · obtain ⟨g, dd⟩ := gw_tup e hp (DpAll.app hx hy)
    exact k _ _ _ g dd
/-- t * n of data -/
theorem rep_data {F H : Hp} {a : Addr} {xs : List V} {ds : List PyData} {n : Int} {Q : VK} (e : Same F H) (ha : SqT K F a xs) (hx : DpAll K F xs ds) (h0 : 0 ≤ n) (h1 : n ≤ 1000) (hz : xs.length ≤ 1000)
    (k : ∀ r F' H', Gw F H F' H' → Dp K F' r (.tuple (List.replicate n.toNat ds).flatten) → Q r H') : rRepA K (.ref a) (.int n) H Q := by
  refine ⟨a, n, xs, rfl, rfl, same_t e ha, h0, h1, hz, fun h => ?_, fun h p hp => ?_⟩
  · have e2 : (List.replicate n.toNat ds).flatten = ds := by
      rcases h with h | h
      · subst h
        cases hx
        exact List.flatten_replicate_nil
      · subst h
        simp
    rw [e2] at k
    exact k _ F H (Gw.refl e) (.tup ha hx)
  · obtain ⟨g, dd⟩ := gw_tup e hp (DpAll.rep hx n.toNat)
    exact k _ _ _ g dd
def spPlaces (K : PySem.W.Frag) (n : Nat) : Sp := fun vs H Q _ => ∃ (F : Hp) (v : V) (d : PyData) (p : V) (pre : List Nat), vs = [v, p] ∧ Same F H ∧ Dp K F v d ∧ TrD n d ∧ Dp K F p (pathD pre) ∧ wt d ≤ 100000 ∧ pre.length ≤ 1000 - n ∧ n ≤ 900 ∧
  ∀ (a : Addr) (xs : List V) (L : List (List Nat)) (F' H' : Hp), Gw F H F' H' → F' a = some (.lst xs) → DpAll K F' xs (L.map pathD) → 0 < L.length → L.length ≤ wt d → (∀ q ∈ L, ∃ q' e, q = pre ++ q' ∧ sub d q' = some e) → Q (.ref a) H'
theorem wtAll_take {ds : List PyData} {i : Nat} {d : PyData} (h : ds[i]? = some d) : wtAll (ds.take (i + 1)) = wtAll (ds.take i) + (wt d + 2) := by
  rw [List.take_add_one, h, wtAll_app]
  simp [wtAll]
theorem wtAll_take_le (ds : List PyData) (i : Nat) : wtAll (ds.take i) ≤ wtAll ds := by
  conv => rhs; rw [← List.take_append_drop i ds, wtAll_app]
  omega
theorem scPlaces : FnScope ["_law_tree_here", "_law_path", "_law_found", "_law_at", "_law_kid"] ["_law_tree_here", "_law_path"] (defScope sPlaces) := ⟨rfl, rfl, rfl, by decide +kernel, rfl, by decide +kernel, by decide +kernel⟩
theorem ok_places1 {f : Addr} {fd : FuncData} {n : Nat} (F : Fun K "_law_places" "_law_places" sPlaces f fd) (U_law_places : Use P w K mg base "_law_places" ["_law_tree_here", "_law_path"] n (spPlaces K n)) (T : Bl mg) :
    FnOk P w K mg base CX0 (n + 1) f fd ["_law_tree_here", "_law_path"] (spPlaces K (n + 1)) := by
  refine F.ok scPlaces (fun vs H Q E h => ?_) (fun cdv A outer s H vs Q E hr h => ?_)
  · obtain ⟨_, _, _, _, _, rfl, _⟩ := h
    rfl
  obtain ⟨Fd, v, d, p, pre, rfl, hF, hv, htr, hp, hw, hpl, hn9, k⟩ := h
  refine ⟨_, (pss_cons (ps_set (i := 2) scPlaces.nd rfl (.inl rfl) (pe_lst (pa_cons (pv 1) pa_nil)))
    (pss_cons (ps_for PassesOwn.never rfl (pi_enumT (by rfl) T.enum (pa_cons (pe_ix ix_tup (pv 0) pe_int (fun _ _ => rfl)) pa_nil)) (pg_tup rfl (pgs_cons (pg_name (i := 3) scPlaces.nd rfl (.inl rfl)) (pgs_cons (pg_name (i := 4) scPlaces.nd rfl (.inl rfl)) pgs_nil))) (pss_one (ps_set (i := 2) scPlaces.nd rfl (.inl rfl) (pe_op op_cat (pv 2) (pe_call U_law_places.ok (hr.mono (by omega)) rfl U_law_places.m U_law_places.kp U_law_places.b .nil pass0 (pa_cons (pv 4) (pa_cons (pe_op op_catA (pv 1) (pe_tup (pa_cons (pv 3) pa_nil))) pa_nil)))))))
    (pss_one (ps_ret (pv 2))))), ?_⟩
  obtain ⟨s0, ks, rfl, hs0, hks⟩ := htr
  cases hv with
  | @tup b xs _ hb hx2 =>
  obtain ⟨x0, y0, _, _, rfl, h00, h1, h2⟩ := DpAll.two hx2 (DpAll.len hx2)
  cases h00
  cases h2 with
  | @tup c ys _ hc hy =>
  have hly : ys.length = ks.length := DpAll.len hy
  rw [wt_node] at hw
  refine ⟨_, rfl, by show 1 ≤ sizeLine; decide, fun l hl => ?_⟩
  have g1 : Gw Fd H (upd Fd l (.lst [p])) (upd H l (.lst [p])) := Gw.new hF hl
  refine ⟨_, rfl, b, _, 1, _, rfl, rfl, same_t (hF.trans g1.hh) hb, atI_nat (j := 1) rfl, c, ys, rfl, same_t (hF.trans g1.hh) hc, ?_⟩
  refine for_it (walk_enumT (xs := ys)) (fun i σ H2 => ∃ (fa : Addr) (zs : List V) (L : List (List Nat)) (F2 : Hp) (y1 y2 : Option V), σ = [some (.ref b), some p, some (.ref fa), y1, y2] ∧ Gw Fd H F2 H2 ∧ F2 fa = some (.lst zs) ∧ DpAll K F2 zs (L.map pathD) ∧ 0 < L.length ∧ L.length ≤ 1 + wtAll (ks.take i) ∧
      (∀ q ∈ L, ∃ q' e, q = pre ++ q' ∧ sub (.tuple [.str s0, .tuple ks]) q' = some e))
    ⟨l, [p], [pre], _, none, none, rfl, g1, upd_same, .cons (dp_mono g1.ff _ _ hp) .nil, Nat.one_pos, by simp, fun q hq => ⟨[], _, by simpa using hq, rfl⟩⟩ (fun i σ H2 _ p => ?_) (fun i x σ H2 H3 hi p hy2 => ?_) (fun σ H2 p => ?_)
  · obtain ⟨_, _, _, _, _, _, _, g, _⟩ := p
    exact same_t (hF.trans g.hh) hc
  · obtain ⟨fa, zs, L, F2, y1, y2, rfl, g, hfa, hzs, hL0, hL1, hLp⟩ := p
    obtain ⟨TT, x1, rfl, hT, rfl, hx1⟩ := hy2
    obtain ⟨kd, hk, hkd⟩ := DpAll.get hy hx1
    have gT : Gw F2 H2 F2 (upd H2 TT (.tup [.int (i : Nat), x1])) := Gw.temp g.fh hT
    refine ⟨TT, _, rfl, .inl (.inl upd_same), rfl, _, _, rfl, _, _, rfl, rfl, ?_⟩
    refine ⟨_, rfl, x1, rfl, _, rfl, _, rfl, by show 1 ≤ sizeLine; decide, fun t2 ht2 => ?_⟩
    have g3 : Gw Fd H _ _ := (g.trans gT).trans (Gw.new (o := .tup [V.int (i : Nat)]) gT.fh ht2)
    obtain ⟨pa, rfl, hpa⟩ := dp_path (dp_mono g3.ff _ _ hp)
    have h1' : SqT K (upd F2 t2 (.tup [V.int (i : Nat)])) t2 [V.int (i : Nat)] := .inl (.inl upd_same)
    have hin : DpAll K (upd F2 t2 (.tup [V.int (i : Nat)])) [V.int (i : Nat)] [PyData.int (i : Nat)] := .cons (.int _) .nil
    have hpre : DpAll K (upd F2 t2 (.tup [V.int (i : Nat)])) (pre.map fun (n : Nat) => V.int (n : Int)) (pre.map fun (n : Nat) => PyData.int (n : Int)) := path_all pre
    refine cat_data (ds := pre.map fun (n : Nat) => PyData.int (n : Int)) g3.fh hpa h1' hpre hin ?_ (fun pv F4 H4 g4 hpv => ?_)
    · rw [List.length_map]
      exact sz1000 (by show pre.length + 1 ≤ 1000; omega)
    have e5 : pathD (pre ++ [i]) = .tuple ((pre.map fun (n : Nat) => PyData.int (n : Int)) ++ [PyData.int (i : Nat)]) := by
      unfold pathD
      rw [List.map_append]
      rfl
    rw [← e5] at hpv
    have g5 := g3.trans g4
    have hwk : wt kd + 2 ≤ wtAll ks := by
      have := wtAll_take_le ks (i + 1)
      rw [wtAll_take hk] at this
      omega
    refine ⟨F4, x1, kd, pv, pre ++ [i], rfl, g5.fh, dp_mono g5.ff _ _ hkd, hks kd (List.mem_of_getElem? hk), hpv, by omega, by rw [List.length_append]; show pre.length + 1 ≤ _; omega, by omega, fun a2 xs2 L2 F6 H6 g6 ha2 hxs2 hl0 hl1 hLp2 => ?_⟩
    have g7 := g5.trans g6
    have hfa6 : F6 fa = some (.lst zs) := g6.ff _ _ (g4.ff _ _ (same_new (gT.fh.free ht2) _ _ hfa))
    have hzs6 : DpAll K F6 zs (L.map pathD) := dpAll_mono ((same_new (gT.fh.free ht2)).trans (g4.ff.trans g6.ff)) _ _ hzs
    have hz1 := DpAll.len hzs6
    have hz2 := DpAll.len hxs2
    rw [List.length_map] at hz1 hz2
    have hwt := wtAll_take_le ks i
    refine ⟨fa, a2, zs, xs2, rfl, rfl, g6.fh _ _ hfa6, g6.fh _ _ ha2, ?_, fun r hr' => ?_⟩
    · rw [hz1, hz2]
      exact Nat.le_trans (show L.length + L2.length ≤ 300000 by omega) (by decide)
    have g8 := g7.trans (Gw.new (o := .lst (zs ++ xs2)) g6.fh hr')
    refine ⟨r, zs ++ xs2, L ++ L2, _, _, _, rfl, g8, upd_same, ?_, ?_, ?_, fun q hq => ?_⟩
    · rw [List.map_append]
      exact dpAll_mono (same_new (g6.fh.free hr')) _ _ (DpAll.app hzs6 hxs2)
    · rw [List.length_append]
      omega
    · rw [List.length_append, wtAll_take hk]
      omega
    · rcases List.mem_append.mp hq with hq | hq
      · exact hLp q hq
      · obtain ⟨q', e, rfl, hs⟩ := hLp2 q hq
        refine ⟨i :: q', e, by simp, ?_⟩
        rw [sub, hk]
        exact hs
  · obtain ⟨fa, zs, L, F2, y1, y2, rfl, g, hfa, hzs, hL0, hL1, hLp⟩ := p
    rw [hly, List.take_length] at hL1
    refine ⟨_, rfl, k fa zs L F2 H2 g hfa hzs hL0 ?_ hLp⟩
    rw [wt_node]
    omega
theorem ok_places {f : Addr} {fd : FuncData} (F : Fun K "_law_places" "_law_places" sPlaces f fd) (mF : mg "_law_places" = some (.ref f)) (T : Bl mg) : ∀ n, FnOk P w K mg base CX0 n f fd ["_law_tree_here", "_law_path"] (spPlaces K n)
  | 0 => by
    have no : ∀ vs H Q E, ¬ spPlaces K 0 vs H Q E := fun vs H Q E h => by
      obtain ⟨_, _, _, _, _, _, _, _, h, _⟩ := h
      exact h
    exact ⟨fun vs H Q E h => absurd h (no vs H Q E), fun A outer s H args us vs Q E _ _ _ _ h => absurd h (no vs H Q E)⟩
  | n + 1 => ok_places1 F ⟨f, fd, ok_places F mF T n, mF, F.kp, F.binds (ps := ["_law_tree_here", "_law_path"]) fun _ _ _ _ _ _ us hl => match us, hl with | [_, _], _ => rfl⟩ T
def setD : PyData → List Nat → PyData → PyData
  | _, [], e => e
  | .tuple [s, .tuple ks], i :: q, e => .tuple [s, .tuple (ks.take i ++ [setD (ks.getD i .none) q e] ++ ks.drop (i + 1))]
  | d, _ :: _, _ => d
def spSet (K : PySem.W.Frag) (n : Nat) : Sp := fun vs H Q _ => ∃ (F : Hp) (v : V) (d : PyData) (p : V) (q : List Nat) (t : V) (e e0 : PyData), vs = [v, p, t] ∧ Same F H ∧ Dp K F v d ∧ Dp K F p (pathD q) ∧ Dp K F t e ∧ sub d q = some e0 ∧ wt d ≤ 100000 ∧ q.length < n ∧ q.length ≤ 60 ∧
  ∀ (r : V) (F' H' : Hp), Gw F H F' H' → Dp K F' r (setD d q e) → Q r H'
theorem cut_to (xs : List V) (i : Nat) : cutV xs none (some (i : Int)) = xs.take i := by
  unfold cutV
  rw [HT.sIx_none, HT.sIx_nat, Nat.sub_zero, List.drop_zero]
  by_cases h : i ≤ xs.length
  · rw [Nat.min_eq_left h]
  · rw [Nat.min_eq_right (by omega), List.take_of_length_le (Nat.le_refl _), List.take_of_length_le (by omega)]
theorem cut_from (xs : List V) (i : Nat) (h : i ≤ xs.length) : cutV xs (some (i : Int)) none = xs.drop i := by
  unfold cutV
  rw [HT.sIx_none, HT.sIx_nat, Nat.min_eq_left h]
  exact List.take_of_length_le (by rw [List.length_drop]; exact Nat.le_refl _)
theorem eqv_nilT (q : List Nat) : PyData.eqv (pathD q) (.tuple []) = q.isEmpty := by
  unfold pathD
  cases q with
  | nil => simp [PyData.eqv, PyData.eqvAll]
  | cons a r => simp [PyData.eqv, PyData.eqvAll]
theorem path_shaped (q : List Nat) : SeqAt.shaped (pathD q) = true := by
  have h := flat_all (q.map fun (n : Nat) => PyData.int (n : Int)) (by
    rw [List.all_eq_true]
    intro d hd
    obtain ⟨n, _, rfl⟩ := List.mem_map.mp hd
    rfl)
  unfold SeqAt.shaped pathD
  rw [PyData.canLay0, PyData.depth, h.1, h.2]
  rfl
theorem scSet : FnScope ["_law_tree_here", "_law_path", "_law_thing", "_law_kids"] ["_law_tree_here", "_law_path", "_law_thing"] (defScope sSet) := ⟨rfl, rfl, rfl, by decide +kernel, rfl, by decide +kernel, by decide +kernel⟩
theorem ok_set1 {f : Addr} {fd : FuncData} {n : Nat} (F : Fun K "_law_set" "_law_set" sSet f fd) (U_law_set : Use P w K mg base "_law_set" ["_law_tree_here", "_law_path", "_law_thing"] n (spSet K n)) (T : Bl mg) :
    FnOk P w K mg base CX0 (n + 1) f fd ["_law_tree_here", "_law_path", "_law_thing"] (spSet K (n + 1)) := by
  refine F.ok scSet (fun vs H Q E h => ?_) (fun cdv A outer s H vs Q E hr h => ?_)
  · obtain ⟨_, _, _, _, _, _, _, _, rfl, _⟩ := h
    rfl
  obtain ⟨Fd, v, d, p, q, t, e, e0, rfl, hF, hv, hp, ht, hsub, hw, hqn, hq60, k⟩ := h
  refine ⟨_, (pss_cons (ps_if (pt_cmpR (op_eqD hr.units) (pv 1) (pe_tup pa_nil) (nomark _)) (pss_one (ps_ret (pv 2))) pss_nil)
    (pss_cons (ps_set (i := 3) scSet.nd rfl (.inl rfl) (pe_ix ix_tup (pv 0) pe_int (fun _ _ => rfl)))
    (pss_one (ps_ret (pe_tup (pa_cons (pe_ix ix_tup (pv 0) pe_int (fun _ _ => rfl)) (pa_cons (pe_op op_catA (pe_op op_catA (pe_slice sl_tupA (pv 3) po_none (po_some (pe_ix ix_tup (pv 1) pe_int (fun _ _ => rfl)))) (pe_tup (pa_cons (pe_call U_law_set.ok (hr.mono (by omega)) rfl U_law_set.m U_law_set.kp U_law_set.b .nil pass0 (pa_cons (pe_ix ix_tup (pv 3) (pe_ix ix_tup (pv 1) pe_int (fun _ _ => rfl)) (fun _ _ => rfl)) (pa_cons (pe_slice sl_tupA (pv 1) (po_some pe_int) po_none) (pa_cons (pv 2) pa_nil)))) pa_nil))) (pe_slice sl_tupA (pv 3) (po_some (pe_op op_add (pe_ix ix_tup (pv 1) pe_int (fun _ _ => rfl)) pe_int)) po_none)) pa_nil))))))), ?_⟩
  refine ⟨_, rfl, by show 0 ≤ sizeLine; decide, fun t0 ht0 => ?_⟩
  have g0 : Gw Fd H Fd (upd H t0 (.tup [])) := Gw.temp hF ht0
  refine ⟨pathD q, .tuple [], dp_mono (hF.trans g0.hh) _ _ hp, .tup (.inl (.inl upd_same)) .nil, path_shaped q, rfl, _, rfl, ?_⟩
  rw [eqv_nilT]
  cases q with
  | nil => exact ⟨_, rfl, k _ _ _ g0 ht⟩
  | cons i q =>
    obtain ⟨s0, ks, kd, rfl, hk, hs2⟩ := sub_cons hsub
    have hks := List.getElem?_eq_some_iff.mp hk
    cases hv with
    | @tup b xs _ hb hx2 =>
    obtain ⟨x0, y0, _, _, rfl, h00, h1, h2⟩ := DpAll.two hx2 (DpAll.len hx2)
    cases h00
    cases h2 with
    | @tup c ys _ hc hy =>
    have hly : ys.length = ks.length := DpAll.len hy
    obtain ⟨kv, hkv, hkd⟩ := DpAll.got hy hk
    obtain ⟨pa, rfl, hpa⟩ := dp_path hp
    have hwk : 2 * ks.length ≤ 100000 := by
      have h1 := len_wt ks
      simp only [wt, wtAll] at hw
      omega
    have hwd : wt kd ≤ 100000 := by
      have h3 := wtAll_take_le ks (i + 1)
      rw [wtAll_take hk] at h3
      simp only [wt, wtAll] at hw
      omega
    have hF0 := hF.trans g0.hh
    refine ⟨_, rfl, b, _, 1, _, rfl, rfl, same_t hF0 hb, atI_nat (j := 1) rfl, ?_⟩
    refine ⟨_, rfl, b, _, 0, _, rfl, rfl, same_t hF0 hb, atI_nat (j := 0) rfl, ?_⟩
    refine ⟨_, rfl, _, rfl, pa, _, 0, _, rfl, rfl, same_t hF0 hpa, atI_nat (j := 0) rfl, (i : Int), rfl, c, ys, rfl, same_t hF0 hc, fun hh => ?_, fun _ p1 hp1 => ?_⟩
    · rw [HT.sIx_nat] at hh
      have := hks.1
      omega
    have c1 : cutV ys none (some (i : Int)) = ys.take i := cut_to ys i
    rw [c1]
    obtain ⟨g1, d1⟩ := gw_tup (K := K) (xs := ys.take i) g0.fh hp1 (DpAll.take i hy)
    have G1 := g0.trans g1
    generalize upd Fd p1 (.tup (ys.take i)) = F1 at g1 d1 G1
    generalize upd (upd H t0 (.tup [])) p1 (.tup (ys.take i)) = H1 at g1 G1 ⊢
    have e1 : Same Fd H1 := G1.ff.trans G1.fh
    refine ⟨_, rfl, _, rfl, pa, _, 0, _, rfl, rfl, same_t e1 hpa, atI_nat (j := 0) rfl, c, ys, (i : Int), kv, rfl, rfl, same_t e1 hc, atI_nat hkv, ?_⟩
    refine ⟨_, rfl, 1, rfl, pa, _, rfl, same_t e1 hpa, fun hh => ?_, fun _ p2 hp2 => ?_⟩
    · have := hh.1
      rw [show HT.sIx (((i :: q).map fun (n : Nat) => V.int (n : Int))).length 0 (some 1) = min 1 (((i :: q).map fun (n : Nat) => V.int (n : Int))).length from HT.sIx_nat _ 0 1, List.length_map, List.length_cons] at this
      omega
    have c2 : cutV ((i :: q).map fun (n : Nat) => V.int (n : Int)) (some 1) none = q.map fun (n : Nat) => V.int (n : Int) := by
      have := cut_from ((i :: q).map fun (n : Nat) => V.int (n : Int)) 1 (by rw [List.length_map, List.length_cons]; omega)
      exact this
    rw [c2]
    obtain ⟨g2, d2⟩ := gw_tup (K := K) (xs := q.map fun (n : Nat) => V.int (n : Int)) G1.fh hp2 (path_all q)
    have G2 := G1.trans g2
    have d1' := dp_mono g2.ff _ _ d1
    generalize upd F1 p2 (.tup (q.map fun (n : Nat) => V.int (n : Int))) = F2 at g2 d2 G2 d1'
    generalize upd H1 p2 (.tup (q.map fun (n : Nat) => V.int (n : Int))) = H2 at g2 G2 ⊢
    refine ⟨_, rfl, F2, kv, kd, .ref p2, q, t, e, e0, rfl, G2.fh, dp_mono G2.ff _ _ hkd, d2, dp_mono G2.ff _ _ ht, hs2, hwd, Nat.lt_of_succ_lt_succ hqn, by rw [List.length_cons] at hq60; omega, fun r F3 H3 g3 d3 => ?_⟩
    have G3 := G2.trans g3
    refine ⟨by show 1 ≤ sizeLine; decide, fun p3 hp3 => ?_⟩
    obtain ⟨g4, d4⟩ := gw_tup (K := K) (xs := [r]) G3.fh hp3 (.cons d3 .nil)
    have G4 := G3.trans g4
    have d1'' := dp_mono (g3.ff.trans g4.ff) _ _ d1'
    generalize upd F3 p3 (.tup [r]) = F4 at g4 d4 G4 d1''
    generalize upd H3 p3 (.tup [r]) = H4 at g4 G4 ⊢
    cases d1'' with
    | @tup _ xs1 _ hs1 ha1 =>
    cases d4 with
    | @tup _ xs4 _ hs4 ha4 =>
    have l1 := DpAll.len ha1
    have l4 := DpAll.len ha4
    rw [List.length_take] at l1
    refine cat_data (K := K) G4.fh hs1 hs4 ha1 ha4 ?_ (fun r5 F5 H5 g5 d5 => ?_)
    · rw [l1, l4]
      exact Nat.le_trans (show min i ks.length + 1 ≤ 60000 by omega) (by decide)
    have G5 := G4.trans g5
    have e5 : Same Fd H5 := G5.ff.trans G5.fh
    refine ⟨_, rfl, _, rfl, pa, _, 0, _, rfl, rfl, same_t e5 hpa, atI_nat (j := 0) rfl, (i : Int), 1, rfl, rfl, (i : Int) + 1, rfl, c, ys, rfl, same_t e5 hc, fun hh => ?_, fun _ p6 hp6 => ?_⟩
    · have := hh.1
      rw [show ((i : Int) + 1) = ((i + 1 : Nat) : Int) by omega, HT.sIx_nat] at this
      have := hks.1
      omega
    have c6 : cutV ys (some ((i : Int) + 1)) none = ys.drop (i + 1) := by
      rw [show ((i : Int) + 1) = ((i + 1 : Nat) : Int) by omega]
      exact cut_from ys (i + 1) (by have := hks.1; omega)
    rw [c6]
    obtain ⟨g6, d6⟩ := gw_tup (K := K) (xs := ys.drop (i + 1)) G5.fh hp6 (dpAll_mono G5.ff _ _ (DpAll.drop (i + 1) hy))
    have G6 := G5.trans g6
    have d5' := dp_mono g6.ff _ _ d5
    generalize upd F5 p6 (.tup (ys.drop (i + 1))) = F6 at g6 d6 G6 d5'
    generalize upd H5 p6 (.tup (ys.drop (i + 1))) = H6 at g6 G6 ⊢
    cases d5' with
    | @tup a5 xs5 _ hs5 ha5 =>
    cases d6 with
    | @tup _ xs6 _ hs6 ha6 =>
    have l5 := DpAll.len ha5
    have l6 := DpAll.len ha6
    rw [List.length_append, List.length_take] at l5
    rw [List.length_drop] at l6
    have l5' : xs5.length = min i ks.length + 1 := l5
    refine cat_data (K := K) G6.fh hs5 hs6 ha5 ha6 ?_ (fun r7 F7 H7 g7 d7 => ?_)
    · rw [l5', l6]
      exact Nat.le_trans (show min i ks.length + 1 + (ks.length - (i + 1)) ≤ 120000 by omega) (by decide)
    have G7 := G6.trans g7
    refine ⟨by show 2 ≤ sizeLine; decide, fun p8 hp8 => ?_⟩
    obtain ⟨g8, d8⟩ := gw_tup (K := K) (xs := [x0, r7]) G7.fh hp8 (.cons (dp_mono G7.ff _ _ h1) (.cons d7 .nil))
    refine k _ _ _ (G7.trans g8) ?_
    have e9 : ks.getD i .none = kd := by
      rw [List.getD_eq_getElem?_getD, hk]
      rfl
    rw [setD, e9]
    exact d8
theorem ok_set {f : Addr} {fd : FuncData} (F : Fun K "_law_set" "_law_set" sSet f fd) (mF : mg "_law_set" = some (.ref f)) (T : Bl mg) : ∀ n, FnOk P w K mg base CX0 n f fd ["_law_tree_here", "_law_path", "_law_thing"] (spSet K n)
  | 0 => by
    have no : ∀ vs H Q E, ¬ spSet K 0 vs H Q E := fun vs H Q E h => by
      obtain ⟨_, _, _, _, _, _, _, _, _, _, _, _, _, _, _, h, _⟩ := h
      omega
    exact ⟨fun vs H Q E h => absurd h (no vs H Q E), fun A outer s H args us vs Q E _ _ _ _ h => absurd h (no vs H Q E)⟩
  | n + 1 => ok_set1 F ⟨f, fd, ok_set F mF T n, mF, F.kp, F.binds (ps := ["_law_tree_here", "_law_path", "_law_thing"]) fun _ _ _ _ _ _ us hl => match us, hl with | [_, _, _], _ => rfl⟩ T
end
end Tl

set_option Elab.async false
set_option linter.all false
set_option maxRecDepth 100000
set_option maxHeartbeats 4000000
namespace Tl
open PySem L2
def shD (w : Nat) : Nat → PyData
  | 0 => .tuple [.str "z", .tuple []]
  | j + 1 => .tuple [.str "a", .tuple (List.replicate w [shD w j]).flatten]
theorem sh_txt (w : Nat) : ∀ j, txt (shD w j) = true
  | 0 => by
    show txt (.tuple [.str "z", .tuple []]) = true
    decide +kernel
  | j + 1 => by
    have h := txtAll_rep (ds := [shD w j]) (by rw [txtAll, sh_txt w j]; rfl) w
    simp only [shD, txt, txtAll, h, Bool.and_true]
    decide +kernel
theorem cntK_sum (f : PyData → Int) : ∀ ds n, cntK f ds n > 60 ∨ cntK f ds n = n + (ds.map f).sum
  | [], n => .inr (by simp [cntK])
  | d :: r, n => by
    rw [cntK]
    by_cases c : n + f d > 60
    · rw [if_pos c]
      exact .inl c
    · rw [if_neg c]
      rcases cntK_sum f r (n + f d) with h | h
      · exact .inl h
      · exact .inr (by rw [h, List.map_cons, List.sum_cons]; omega)
theorem rep_one (w : Nat) (d : PyData) : (List.replicate w [d]).flatten = List.replicate w d := by
  induction w with
  | zero => rfl
  | succ n ih => rw [List.replicate_succ, List.replicate_succ, List.flatten_cons, ih]; rfl
theorem sum_rep (w : Nat) (c : Int) : (List.replicate w c).sum = w * c := by
  induction w with
  | zero => simp
  | succ n ih =>
    rw [List.replicate_succ, List.sum_cons, ih]
    have : ((n + 1 : Nat) : Int) * c = (n : Int) * c + c := by rw [Int.natCast_add, Int.add_mul]; simp
    omega
theorem sh_tag (w j : Nat) : tagKids (shD w j) = true := by
  cases j with
  | zero =>
    show tagKids (.tuple [.str "z", .tuple []]) = true
    decide +kernel
  | succ j =>
    show (isTag (.str "a") && true) = true
    decide +kernel
theorem sh_cnt {w : Nat} (hw : 2 ≤ w) (l j : Nat) (c : Int) (hc : 1 ≤ c) (h : cntB l (shD w j) ≥ c ∨ cntB l (shD w j) > 60) : cntB (l + 1) (shD w (j + 1)) ≥ 1 + 2 * c ∨ cntB (l + 1) (shD w (j + 1)) > 60 := by
  rw [cntB, if_pos (sh_tag w (j + 1))]
  have ek : kidsD (shD w (j + 1)) = List.replicate w (shD w j) := by
    show (List.replicate w [shD w j]).flatten = _
    exact rep_one w _
  rw [ek]
  rcases cntK_sum (cntB l) (List.replicate w (shD w j)) 1 with h1 | h1
  · exact .inr h1
  · rw [h1, List.map_replicate, sum_rep]
    have h2 : (2 : Int) * cntB l (shD w j) ≤ (w : Int) * cntB l (shD w j) := Int.mul_le_mul_of_nonneg_right (by omega) (by have := cntB_pos l (shD w j); omega)
    rcases h with h | h
    · left; omega
    · right; omega
theorem sh_no {w : Nat} (hw : 2 ≤ w) : isTreeD (shD w 11) = false := by
  have s0 : cntB 1 (shD w 0) ≥ 1 ∨ cntB 1 (shD w 0) > 60 := .inl (cntB_pos _ _)
  have s1 := sh_cnt hw 1 0 1 (by decide) s0
  have s2 := sh_cnt hw 2 1 _ (by decide) s1
  have s3 := sh_cnt hw 3 2 _ (by decide) s2
  have s4 := sh_cnt hw 4 3 _ (by decide) s3
  have s5 := sh_cnt hw 5 4 _ (by decide) s4
  have s6 := sh_cnt hw 6 5 _ (by decide) s5
  have s7 := sh_cnt hw 7 6 _ (by decide) s6
  have s8 := sh_cnt hw 8 7 _ (by decide) s7
  have s9 := sh_cnt hw 9 8 _ (by decide) s8
  have s10 := sh_cnt hw 10 9 _ (by decide) s9
  have s11 := sh_cnt hw 11 10 _ (by decide) s10
  rw [show 11 + 1 = 12 from rfl, show 10 + 1 = 11 from rfl] at s11
  rw [tree_cnt]
  exact decide_eq_false (by omega)
def spShared (K : PySem.W.Frag) : Sp := fun vs H Q _ => ∃ w : Nat, vs = [.int (w : Int)] ∧ 2 ≤ w ∧ w ≤ 1000 ∧ ∀ (r : V) (d : PyData) (H' : Hp), Same H H' → Dp K H' r d → txt d = true → isTreeD d = false → Q r H'
section
variable {P : Program} {w : World} {K : PySem.W.Frag} {mg : Str → Option Value} {base : Heap}
theorem scShared : FnScope ["_law_wide", "_law_found", "_law_k"] ["_law_wide"] (defScope sShared) := ⟨rfl, rfl, rfl, by decide +kernel, rfl, by decide +kernel, by decide +kernel⟩
theorem ok_shared {f : Addr} {fd : FuncData} {k : Nat} (F : Fun K "_law_shared" "_law_shared" sShared f fd) (T : Bl mg) : FnOk P w K mg base CX0 (k + 1) f fd ["_law_wide"] (spShared K) := by
  refine F.ok scShared (fun vs H Q E h => ?_) (fun cdv A outer s H vs Q E hr h => ?_)
  · obtain ⟨_, rfl, _⟩ := h
    rfl
  obtain ⟨w, rfl, hw2, hw6, k⟩ := h
  refine ⟨_, (pss_cons (ps_set (i := 1) scShared.nd rfl (.inl rfl) (pe_tup (pa_cons pe_str (pa_cons (pe_tup pa_nil) pa_nil))))
    (pss_cons (ps_for PassesOwn.never rfl (pi_range1 (by rfl) T.range (pa_cons pe_int pa_nil)) (pg_name (i := 2) scShared.nd rfl (.inl rfl)) (pss_one (ps_set (i := 1) scShared.nd rfl (.inl rfl) (pe_tup (pa_cons pe_str (pa_cons (pe_op op_repA (pe_tup (pa_cons (pv 1) pa_nil)) (pv 0)) pa_nil))))))
    (pss_one (ps_ret (pv 1))))), ?_⟩
  refine ⟨by show 0 ≤ sizeLine; decide, fun p0 hp0 => ?_⟩
  refine ⟨by show 2 ≤ sizeLine; decide, fun p1 hp1 => ?_⟩
  have e1 : Same H (upd (upd H p0 (.tup [])) p1 (.tup [.str "z", .ref p0])) := (same_new hp0).trans (same_new hp1)
  have n01 : p0 ≠ p1 := ne_of_none upd_same hp1
  have d0 : Dp K (upd (upd H p0 (.tup [])) p1 (.tup [.str "z", .ref p0])) (.ref p1) (shD w 0) :=
    .tup (.inl (.inl upd_same)) (.cons (.str _) (.cons (.tup (.inl (.inl (by rw [upd_ne n01]; exact upd_same))) .nil) .nil))
  refine ⟨11, rfl, by decide, by decide, ?_⟩
  refine for_range (n := 11) (fun i σ H2 => ∃ (r : V) (y : Option V), σ = [some (.int (w : Int)), some r, y] ∧ Same H H2 ∧ Dp K H2 r (shD w i)) ⟨_, none, rfl, e1, d0⟩ (fun i σ H2 hi p => ?_) (fun σ H2 p => ?_)
  · obtain ⟨r, y, rfl, e2, d2⟩ := p
    refine ⟨_, rfl, by show 1 ≤ sizeLine; decide, fun p3 hp3 => ?_⟩
    obtain ⟨g3, d3⟩ := gw_tup (K := K) (xs := [r]) (Same.refl H2) hp3 (.cons d2 .nil)
    cases d3 with
    | @tup _ xs3 _ hs3 ha3 =>
    refine ⟨_, rfl, ?_⟩
    refine rep_data (K := K) (n := (w : Int)) g3.fh hs3 ha3 (by omega) (by omega) ?_ (fun r4 F4 H4 g4 d4 => ?_)
    · rw [DpAll.len ha3]
      show 1 ≤ 1000
      decide
    have e4 : Same H H4 := (e2.trans g3.hh).trans g4.hh
    refine ⟨by show 2 ≤ sizeLine; decide, fun p5 hp5 => ?_⟩
    refine ⟨_, _, rfl, e4.trans (same_new hp5), ?_⟩
    rw [shD]
    exact .tup (.inl (.inl upd_same)) (.cons (.str _) (.cons (dp_mono (g4.fh.trans (same_new hp5)) _ _ d4) .nil))
  · obtain ⟨r, y, rfl, e2, d2⟩ := p
    exact ⟨_, rfl, k r _ H2 e2 d2 (sh_txt w 11) (sh_no hw2)⟩
end
end Tl

set_option Elab.async false
set_option linter.all false
set_option maxRecDepth 100000
set_option maxHeartbeats 4000000
namespace Tl
open PySem L2
abbrev sGreat : Stmt := top 21
abbrev sBPart : Stmt := top 23
abbrev sBPath : Stmt := top 24
/-- data in F within H, the source of numbers at st, which F does not know -/
structure Wd (st c : Addr) (F H : Hp) : Prop where
  fh : Same F H
  no : F st = none
  sa : StA H st c
theorem StA.there {H : Hp} {st c : Addr} (h : StA H st c) : H st ≠ none := by
  obtain ⟨cs, i, p, z, h1, _⟩ := h
  rw [h1]
  exact fun z => nomatch z
theorem Wd.next {st c : Addr} {F H : Hp} {o : HO} (w : Wd st c F H) (h : StA (upd H st o) st c) : Wd st c F (upd H st o) := ⟨same_mut w.fh w.no, w.no, h⟩
theorem Wd.gw {st c : Addr} {F H F' H' : Hp} (w : Wd st c F H) (g : Gw F H F' H') : Wd st c F' H' := ⟨g.fh, g.nw st w.sa.there w.no, w.sa.mono g.hh⟩
theorem Wd.same {st c : Addr} {F H H' : Hp} (w : Wd st c F H) (g : Same H H') : Wd st c F H' := ⟨w.fh.trans g, w.no, w.sa.mono g⟩
theorem Wd.ne {st c p : Addr} {F H : Hp} (w : Wd st c F H) (h : H p = none) : p ≠ st ∧ p ≠ c := by
  obtain ⟨cs, i, q, z, h1, h2, _⟩ := w.sa
  exact ⟨(ne_of_none h1 h).symm, (ne_of_none h2 h).symm⟩
/-- an object of our own, which neither F nor the source knows, is changed -/
theorem Wd.mut {st c p : Addr} {F H : Hp} {o : HO} (w : Wd st c F H) (h : F p = none) (h1 : p ≠ st) (h2 : p ≠ c) : Wd st c F (upd H p o) := by
  obtain ⟨cs, i, q, z, g1, g2, r⟩ := w.sa
  exact ⟨same_mut w.fh h, w.no, ⟨cs, i, q, z, by rw [upd_ne (Ne.symm h1)]; exact g1, by rw [upd_ne (Ne.symm h2)]; exact g2, r⟩⟩
theorem DpAll.pick {K : PySem.W.Frag} {F : Hp} {xs : List V} {ds : List PyData} {r : Int} (h : DpAll K F xs ds) (h0 : 0 ≤ r) (h1 : r < ds.length) : ∃ x d, atI xs r = some x ∧ d ∈ ds ∧ Dp K F x d := by
  obtain ⟨j, rfl⟩ : ∃ j : Nat, r = (j : Int) := ⟨r.toNat, by omega⟩
  have hj : j < ds.length := by omega
  obtain ⟨x, hx, hd⟩ := DpAll.got h (List.getElem?_eq_getElem hj)
  exact ⟨x, _, atI_nat hx, List.getElem_mem hj, hd⟩
def spGen (K : PySem.W.Frag) (Pd : PyData → Prop) : Sp := fun vs H Q _ => ∃ (st cc : Addr) (F : Hp), vs = [.ref st] ∧ Wd st cc F H ∧ ∀ (r : V) (d : PyData) (F' H' : Hp), Wd st cc F' H' → Same F F' → Dp K F' r d → Pd d → Q r H'
def Great (d : PyData) : Prop := TrD 13 d ∧ wt d ≤ 10000
theorem tag_a : tagOk "a" := ⟨by decide +kernel, by decide +kernel, by decide +kernel⟩
theorem tag_b : tagOk "b" := ⟨by decide +kernel, by decide +kernel, by decide +kernel⟩
theorem tag_z : tagOk "z" := ⟨by decide +kernel, by decide +kernel, by decide +kernel⟩
theorem len_a : ("a" : Str).length = 1 := by decide +kernel
theorem len_b : ("b" : Str).length = 1 := by decide +kernel
theorem len_z : ("z" : Str).length = 1 := by decide +kernel
def bD : PyData := .tuple [.str "b", .tuple []]
theorem bD_tr : TrD 1 bD := ⟨_, _, rfl, tag_b, fun k hk => nomatch hk⟩
theorem bD_wt : wt bD = 24 := by rw [bD, wt_node, len_b]; rfl
theorem mem_rep {n : Nat} {d k : PyData} (h : k ∈ (List.replicate n [d]).flatten) : k = d := by
  rw [rep_one] at h
  exact (List.mem_replicate.mp h).2
section
variable {P : Program} {w : World} {K : PySem.W.Frag} {mg : Str → Option Value} {base : Heap}
theorem gw_lst {F H : Hp} {p : Addr} {xs : List V} {ds : List PyData} (e : Same F H) (h : H p = none) (ha : DpAll K F xs ds) : Gw F H (upd F p (.lst xs)) (upd H p (.lst xs)) ∧ Dp K (upd F p (.lst xs)) (.ref p) (.list ds) :=
  ⟨Gw.new e h, .lst (.inl (.inl upd_same)) (dpAll_mono (same_new (e.free h)) _ _ ha)⟩
theorem scGreat : FnScope ["_law_state_here", "_law_way", "_law_found", "_law_k"] ["_law_state_here"] (defScope sGreat) := ⟨rfl, rfl, rfl, by decide +kernel, rfl, by decide +kernel, by decide +kernel⟩
theorem ok_great {f : Addr} {fd : FuncData} {k j : Nat} (F : Fun K "_law_great" "_law_great" sGreat f fd) (U_law_next : Use P w K mg base "_law_next" ["_law_state_here", "_law_below"] j spNext) (hj : j ≤ k) (T : Bl mg) : FnOk P w K mg base CX0 (k + 1) f fd ["_law_state_here"] (spGen K Great) := by
  refine F.ok scGreat (fun vs H Q E h => ?_) (fun cdv A outer s H vs Q E hr h => ?_)
  · obtain ⟨_, _, _, rfl, _⟩ := h
    rfl
  obtain ⟨st, cc, Fd, rfl, W, k⟩ := h
  refine ⟨_, (pss_cons (ps_set (i := 1) scGreat.nd rfl (.inl rfl) (pe_call U_law_next.ok (hr.mono (by omega)) rfl U_law_next.m U_law_next.kp U_law_next.b .nil pass0 (pa_cons (pv 0) (pa_cons pe_int pa_nil))))
    (pss_cons (ps_if (pt_cmpR op_lt (pv 1) pe_int (nomark _)) (pss_one (ps_ret (pe_tup (pa_cons pe_str (pa_cons (pe_op op_repA (pe_tup (pa_cons (pe_tup (pa_cons pe_str (pa_cons (pe_tup pa_nil) pa_nil))) pa_nil)) (pe_op op_add pe_int (pv 1))) pa_nil))))) pss_nil)
    (pss_cons (ps_set (i := 2) scGreat.nd rfl (.inl rfl) (pe_tup (pa_cons pe_str (pa_cons (pe_tup pa_nil) pa_nil))))
    (pss_cons (ps_for PassesOwn.never rfl (pi_range1 (by rfl) T.range (pa_cons (pe_op op_add pe_int (pv 1)) pa_nil)) (pg_name (i := 3) scGreat.nd rfl (.inl rfl)) (pss_one (ps_set (i := 2) scGreat.nd rfl (.inl rfl) (pe_tup (pa_cons pe_str (pa_cons (pe_op op_catA (pe_tup (pa_cons (pv 2) pa_nil)) (pe_op op_repA (pe_tup (pa_cons (pe_tup (pa_cons pe_str (pa_cons (pe_tup pa_nil) pa_nil))) pa_nil)) (pe_call U_law_next.ok (hr.mono (by omega)) rfl U_law_next.m U_law_next.kp U_law_next.b .nil pass0 (pa_cons (pv 0) (pa_cons pe_int pa_nil))))) pa_nil))))))
    (pss_one (ps_ret (pv 2))))))), ?_⟩
  refine ⟨_, rfl, st, cc, 4, rfl, W.sa, by decide, by decide, fun way o hw0 hw1 sa => ?_⟩
  have W1 := W.next sa
  generalize upd H st o = H1 at W1
  clear sa o
  refine ⟨_, rfl, way, 2, rfl, rfl, _, rfl, ?_⟩
  refine iteD (fun c => ?_) (fun c => ?_)
  · refine ⟨by show 0 ≤ sizeLine; decide, fun p0 hp0 => ?_⟩
    obtain ⟨g0, d0⟩ := gw_tup (K := K) (xs := []) W1.fh hp0 .nil
    refine ⟨by show 2 ≤ sizeLine; decide, fun p1 hp1 => ?_⟩
    obtain ⟨g1, d1⟩ := gw_tup (K := K) (xs := [.str "b", .ref p0]) g0.fh hp1 (.cons (.str _) (.cons d0 .nil))
    refine ⟨by show 1 ≤ sizeLine; decide, fun p2 hp2 => ?_⟩
    obtain ⟨g2, d2⟩ := gw_tup (K := K) (xs := [.ref p1]) g1.fh hp2 (.cons d1 .nil)
    cases d2 with
    | @tup _ xs2 _ hs2 ha2 =>
    refine ⟨_, rfl, 59, way, rfl, rfl, ?_⟩
    refine rep_data (K := K) (n := 59 + way) g2.fh hs2 ha2 (by omega) (by omega) (by rw [DpAll.len ha2]; show 1 ≤ 1000; decide) (fun r4 F4 H4 g4 d4 => ?_)
    refine ⟨by show 2 ≤ sizeLine; decide, fun p5 hp5 => ?_⟩
    obtain ⟨g5, d5⟩ := gw_tup (K := K) (xs := [.str "a", r4]) g4.fh hp5 (.cons (.str _) (.cons d4 .nil))
    have G := (((g0.trans g1).trans g2).trans g4).trans g5
    refine k _ _ _ _ (W1.gw G) G.ff d5 ⟨?_, ?_⟩
    · refine TrD.mono (show 2 ≤ 13 by decide) ⟨_, _, rfl, tag_a, fun kd hk => ?_⟩
      rw [mem_rep hk]
      exact bD_tr
    · rw [wt_node, len_a, wtAll_rep]
      have e1 : wtAll [PyData.tuple [PyData.str "b", PyData.tuple []]] = 26 := by
        have := bD_wt
        rw [bD] at this
        rw [wtAll, wtAll, this]
      rw [e1]
      omega
  · refine ⟨by show 0 ≤ sizeLine; decide, fun p0 hp0 => ?_⟩
    obtain ⟨g0, d0⟩ := gw_tup (K := K) (xs := []) W1.fh hp0 .nil
    refine ⟨by show 2 ≤ sizeLine; decide, fun p1 hp1 => ?_⟩
    obtain ⟨g1, d1⟩ := gw_tup (K := K) (xs := [.str "z", .ref p0]) g0.fh hp1 (.cons (.str _) (.cons d0 .nil))
    have G1 := g0.trans g1
    refine ⟨_, rfl, 9, way, rfl, rfl, 9 + way, rfl, by omega, by omega, ?_⟩
    refine for_range (n := (9 + way).toNat) (fun i σ H2 => ∃ (r : V) (y : Option V) (F2 : Hp) (d : PyData), σ = [some (.ref st), some (.int way), some r, y] ∧ Wd st cc F2 H2 ∧ Same Fd F2 ∧ Dp K F2 r d ∧ TrD (i + 1) d ∧ wt d ≤ 24 + 78 * i)
      ⟨_, none, _, _, rfl, W1.gw G1, G1.ff, d1, ⟨_, _, rfl, tag_z, fun kd hk => nomatch hk⟩, by rw [wt_node, len_z]; exact Nat.le_refl _⟩ (fun i σ H2 hi p => ?_) (fun σ H2 p => ?_)
    · obtain ⟨r, y, F2, d, rfl, W2, e2, d2, t2, w2⟩ := p
      refine ⟨_, rfl, by show 1 ≤ sizeLine; decide, fun p3 hp3 => ?_⟩
      obtain ⟨g3, d3⟩ := gw_tup (K := K) (xs := [r]) W2.fh hp3 (.cons d2 .nil)
      refine ⟨by show 0 ≤ sizeLine; decide, fun p4 hp4 => ?_⟩
      obtain ⟨g4, d4⟩ := gw_tup (K := K) (xs := []) g3.fh hp4 .nil
      refine ⟨by show 2 ≤ sizeLine; decide, fun p5 hp5 => ?_⟩
      obtain ⟨g5, d5⟩ := gw_tup (K := K) (xs := [.str "b", .ref p4]) g4.fh hp5 (.cons (.str _) (.cons d4 .nil))
      refine ⟨by show 1 ≤ sizeLine; decide, fun p6 hp6 => ?_⟩
      obtain ⟨g6, d6⟩ := gw_tup (K := K) (xs := [.ref p5]) g5.fh hp6 (.cons d5 .nil)
      have G6 := ((g3.trans g4).trans g5).trans g6
      have W6 := W2.gw G6
      have d3' := dp_mono ((g4.ff.trans g5.ff).trans g6.ff) _ _ d3
      have e6 : Same Fd _ := e2.trans G6.ff
      refine ⟨_, rfl, st, cc, 3, rfl, W6.sa, by decide, by decide, fun m o hm0 hm1 sa => ?_⟩
      have W7 := W6.next sa
      cases d6 with
      | @tup _ xs6 _ hs6 ha6 =>
      refine rep_data (K := K) (n := m) W7.fh hs6 ha6 (by omega) (by omega) (by rw [DpAll.len ha6]; show 1 ≤ 1000; decide) (fun r8 F8 H8 g8 d8 => ?_)
      have d3'' := dp_mono g8.ff _ _ d3'
      cases d3'' with
      | @tup _ xs3 _ hs3 ha3 =>
      have l8 := d8
      cases d8 with
      | @tup a8 xs8 _ hs8 ha8 =>
      have z8 := DpAll.len ha8
      have z8' : xs8.length ≤ 2 := by
        rw [z8, rep_one, List.length_replicate]
        omega
      refine cat_data (K := K) g8.fh hs3 hs8 ha3 ha8 ?_ (fun r9 F9 H9 g9 d9 => ?_)
      · have := DpAll.len ha3
        rw [this]
        exact sz1000 (by show 1 + xs8.length ≤ 1000; omega)
      refine ⟨by show 2 ≤ sizeLine; decide, fun p10 hp10 => ?_⟩
      obtain ⟨g10, d10⟩ := gw_tup (K := K) (xs := [.str "a", r9]) g9.fh hp10 (.cons (.str _) (.cons d9 .nil))
      have G10 := (g8.trans g9).trans g10
      refine ⟨_, _, _, _, rfl, W7.gw G10, e6.trans G10.ff, d10, ⟨_, _, rfl, tag_a, fun kd hk => ?_⟩, ?_⟩
      · rcases List.mem_append.mp hk with hk | hk
        · rw [List.mem_singleton.mp hk]
          exact t2
        · rw [mem_rep hk]
          exact TrD.mono (by omega) bD_tr
      · rw [wt_node, len_a, wtAll_app, wtAll_rep]
        have e1 : wtAll [PyData.tuple [PyData.str "b", PyData.tuple []]] = 26 := by
          have := bD_wt
          rw [bD] at this
          rw [wtAll, wtAll, this]
        have e2' : wtAll [d] = wt d + 2 := by rw [wtAll, wtAll]
        have e3 : m.toNat * 26 ≤ 2 * 26 := Nat.mul_le_mul_right 26 (by omega)
        rw [e1, e2']
        omega
    · obtain ⟨r, y, F2, d, rfl, W2, e2, d2, t2, w2⟩ := p
      refine ⟨_, rfl, k r d F2 H2 W2 e2 d2 ⟨TrD.mono (by omega) t2, by omega⟩⟩
def spBPart (K : PySem.W.Frag) : Sp := fun vs H Q _ => ∃ (st cc : Addr) (F : Hp) (v : V) (s : Str) (ks : List PyData), vs = [.ref st, v] ∧ Wd st cc F H ∧ Dp K F v (.tuple [.str s, .tuple ks]) ∧ tagOk s ∧ gdAll ks = true ∧ ks.length ≤ 1000 ∧
  ∀ (r : V) (e : PyData) (F' H' : Hp), Wd st cc F' H' → Same F F' → Dp K F' r e → gd e = true → e.depth ≤ PyData.depthAll ks + 5 → wt e ≤ 4 * wtAll ks + 10000 → Q r H'
def oddDs : List PyData := [.str "A", .str "", .str "abcdefghi", .str "a b", .str "a1", .none, .bool true, .int 0, .tuple [.str "a"], .list [.str "a"]]
theorem odd_ok : ∀ d ∈ oddDs, gd d = true ∧ d.depth ≤ 1 ∧ wt d ≤ 2000 := by decide +kernel
theorem iteE {x y : Int} {A B : Prop} (h1 : x = y → A) (h2 : ¬ x = y → B) : if decide (V.int x = V.int y) = true then A else B :=
  iteD (fun c => h1 (V.int.inj c)) fun c => h2 fun z => c (by rw [z])
theorem gd_pair {a b : PyData} (ha : gd a = true) (hb : gd b = true) : gd (.tuple [a, b]) = true := by
  rw [gd, gdAll, gdAll, gdAll, ha, hb]
  rfl
theorem dep_pair (a b : PyData) : PyData.depth (.tuple [a, b]) ≤ max a.depth b.depth + 1 := by
  simp only [PyData.depth, PyData.depthAll]
  omega
theorem wt_pair (a b : PyData) : wt (.tuple [a, b]) = wt a + wt b + 7 := by
  simp only [wt, wtAll]
  omega
theorem scBPart : FnScope ["_law_state_here", "_law_part", "_law_odd", "_law_way", "_law_tag", "_law_kids"] ["_law_state_here", "_law_part"] (defScope sBPart) := ⟨rfl, rfl, rfl, by decide +kernel, rfl, by decide +kernel, by decide +kernel⟩
theorem ok_bpart {f : Addr} {fd : FuncData} {k j : Nat} (F : Fun K "_law_bent_part" "_law_bent_part" sBPart f fd) (U_law_next : Use P w K mg base "_law_next" ["_law_state_here", "_law_below"] j spNext) (hj : j ≤ k) (T : Bl mg) : FnOk P w K mg base CX0 (k + 1) f fd ["_law_state_here", "_law_part"] (spBPart K) := by
  refine F.ok scBPart (fun vs H Q E h => ?_) (fun cdv A outer s H vs Q E hr h => ?_)
  · obtain ⟨_, _, _, _, _, _, rfl, _⟩ := h
    rfl
  obtain ⟨st, cc, Fd, v, sg, ks, rfl, W, hv, hsg, hgk, hkl, k⟩ := h
  refine ⟨_, (pss_cons (ps_asg (pv 1) (pg_tup rfl (pgs_cons (pg_name (i := 4) scBPart.nd rfl (.inl rfl)) (pgs_cons (pg_name (i := 5) scBPart.nd rfl (.inl rfl)) pgs_nil))))
    (pss_cons (ps_set (i := 2) scBPart.nd rfl (.inl rfl) (pe_ix ix_list (pe_lst (pa_cons pe_str (pa_cons pe_str (pa_cons pe_str (pa_cons pe_str (pa_cons pe_str (pa_cons pe_non (pa_cons pe_bl (pa_cons pe_int (pa_cons (pe_tup (pa_cons pe_str pa_nil)) (pa_cons (pe_lst (pa_cons pe_str pa_nil)) pa_nil))))))))))) (pe_call U_law_next.ok (hr.mono (by omega)) rfl U_law_next.m U_law_next.kp U_law_next.b .nil pass0 (pa_cons (pv 0) (pa_cons pe_int pa_nil))) (fun _ _ => rfl)))
    (pss_cons (ps_set (i := 3) scBPart.nd rfl (.inl rfl) (pe_call U_law_next.ok (hr.mono (by omega)) rfl U_law_next.m U_law_next.kp U_law_next.b .nil pass0 (pa_cons (pv 0) (pa_cons pe_int pa_nil))))
    (pss_cons (ps_if (pt_cmpR op_eq (pv 3) pe_int (nomark _)) (pss_one (ps_ret (pe_tup (pa_cons (pv 2) (pa_cons (pv 5) pa_nil))))) pss_nil)
    (pss_cons (ps_if (pt_cmpR op_eq (pv 3) pe_int (nomark _)) (pss_one (ps_ret (pe_tup (pa_cons (pv 4) (pa_cons (pe_callTy call_list_of (by rfl) T.list PyProof.Rows.boot_list (pa_cons (pv 5) pa_nil)) pa_nil))))) pss_nil)
    (pss_cons (ps_if (pt_cmpR op_eq (pv 3) pe_int (nomark _)) (pss_one (ps_ret (pe_lst (pa_cons (pv 4) (pa_cons (pv 5) pa_nil))))) pss_nil)
    (pss_cons (ps_if (pt_cmpR op_eq (pv 3) pe_int (nomark _)) (pss_one (ps_ret (pe_ix ix_list (pe_lst (pa_cons (pe_tup (pa_cons (pv 4) pa_nil)) (pa_cons (pe_tup (pa_cons (pv 4) (pa_cons (pv 5) (pa_cons (pe_tup pa_nil) pa_nil)))) (pa_cons (pe_tup (pa_cons (pv 5) (pa_cons (pv 4) pa_nil))) (pa_cons (pv 4) (pa_cons pe_non (pa_cons (pe_tup pa_nil) (pa_cons pe_int pa_nil)))))))) (pe_call U_law_next.ok (hr.mono (by omega)) rfl U_law_next.m U_law_next.kp U_law_next.b .nil pass0 (pa_cons (pv 0) (pa_cons pe_int pa_nil))) (fun _ _ => rfl)))) pss_nil)
    (pss_cons (ps_if (pt_cmpR op_eq (pv 3) pe_int (nomark _)) (pss_one (ps_ret (pe_tup (pa_cons (pv 4) (pa_cons (pe_op op_catA (pv 5) (pe_tup (pa_cons (pe_ix ix_list (pe_lst (pa_cons pe_non (pa_cons pe_str (pa_cons (pe_tup (pa_cons pe_str pa_nil)) (pa_cons (pe_tup (pa_cons pe_str (pa_cons (pe_lst pa_nil) pa_nil))) pa_nil))))) (pe_call U_law_next.ok (hr.mono (by omega)) rfl U_law_next.m U_law_next.kp U_law_next.b .nil pass0 (pa_cons (pv 0) (pa_cons pe_int pa_nil))) (fun _ _ => rfl)) pa_nil))) pa_nil))))) pss_nil)
    (pss_cons (ps_if (pt_cmpR op_eq (pv 3) pe_int (nomark _)) (pss_one (ps_ret (pe_tup (pa_cons (pv 4) (pa_cons pe_non pa_nil))))) pss_nil)
    (pss_one (ps_ret (pe_tup (pa_cons (pv 4) (pa_cons (pe_op op_repA (pv 5) pe_int) pa_nil)))))))))))))), ?_⟩
  have hgs := gd_tag hsg
  have hls : sg.length ≤ 8 := hsg.2.1
  have hwl := len_wt ks
  cases hv with
  | @tup b xs _ hb hx2 =>
  obtain ⟨x0, y0, _, _, rfl, h00, h1, h2⟩ := DpAll.two hx2 (DpAll.len hx2)
  cases h00
  cases h1
  refine ⟨_, rfl, b, _, rfl, same_t W.fh hb, rfl, _, _, rfl, _, _, rfl, rfl, ?_⟩
  refine ⟨by show 1 ≤ sizeLine; decide, fun p1 hp1 => ?_⟩
  obtain ⟨g1, d1⟩ := gw_tup (K := K) (xs := [.str "a"]) W.fh hp1 (.cons (.str _) .nil)
  refine ⟨by show 1 ≤ sizeLine; decide, fun p2 hp2 => ?_⟩
  obtain ⟨g2, d2⟩ := gw_lst (K := K) (xs := [.str "a"]) g1.fh hp2 (.cons (.str _) .nil)
  refine ⟨by show 10 ≤ sizeLine; decide, fun p3 hp3 => ?_⟩
  have hodd : DpAll K (upd (upd Fd p1 (.tup [.str "a"])) p2 (.lst [.str "a"])) [.str "A", .str "", .str "abcdefghi", .str "a b", .str "a1", .non, .bl true, .int 0, .ref p1, .ref p2] oddDs :=
    .cons (.str _) (.cons (.str _) (.cons (.str _) (.cons (.str _) (.cons (.str _) (.cons .non (.cons (.bl _) (.cons (.int _) (.cons (dp_mono g2.ff _ _ d1) (.cons d2 .nil)))))))))
  obtain ⟨g3, d3⟩ := gw_lst (K := K) g2.fh hp3 hodd
  have G3 := (g1.trans g2).trans g3
  have W3 := W.gw G3
  have e3 := G3.ff
  have hodd3 := dpAll_mono g3.ff _ _ hodd
  have hh3 : (upd (upd (upd Fd p1 (.tup [.str "a"])) p2 (.lst [.str "a"])) p3 (.lst [.str "A", .str "", .str "abcdefghi", .str "a b", .str "a1", .non, .bl true, .int 0, .ref p1, .ref p2])) p3 = some (.lst [.str "A", .str "", .str "abcdefghi", .str "a b", .str "a1", .non, .bl true, .int 0, .ref p1, .ref p2]) := upd_same
  generalize upd (upd (upd Fd p1 (.tup [.str "a"])) p2 (.lst [.str "a"])) p3 (.lst [.str "A", .str "", .str "abcdefghi", .str "a b", .str "a1", .non, .bl true, .int 0, .ref p1, .ref p2]) = F3 at W3 e3 hodd3 hh3
  clear d3 g3 G3 hodd g2 d2 g1 d1
  refine ⟨_, rfl, st, cc, 10, rfl, W3.sa, by decide, by decide, fun r3 o3 hr0 hr1 sa3 => ?_⟩
  have W4 := W3.next sa3
  generalize upd (upd (upd (upd H p1 (.tup [.str "a"])) p2 (.lst [.str "a"])) p3 (.lst [.str "A", .str "", .str "abcdefghi", .str "a b", .str "a1", .non, .bl true, .int 0, .ref p1, .ref p2])) st o3 = H4 at W4
  obtain ⟨ov, od, hat, hmem, hov⟩ := DpAll.pick hodd3 hr0 (show r3 < (oddDs.length : Nat) from hr1)
  obtain ⟨og, odp, owt⟩ := odd_ok od hmem
  refine ⟨p3, _, r3, ov, rfl, rfl, .inl (.inl (W4.fh _ _ hh3)), hat, ?_⟩
  refine ⟨_, rfl, st, cc, 7, rfl, W4.sa, by decide, by decide, fun way o5 hw0 hw1 sa5 => ?_⟩
  have W5 := W4.next sa5
  generalize upd H4 st o5 = H5 at W5
  clear sa5 o5 sa3 W3 W4 hat hmem hh3 hodd3
  have h2' := dp_mono e3 _ _ h2
  have wkk : wt (.tuple ks) = 3 + wtAll ks := by rw [wt]
  have dkk : PyData.depth (.tuple ks) = PyData.depthAll ks + 1 := by rw [PyData.depth]
  have gkk : gd (.tuple ks) = true := by rw [gd]; exact hgk
  have wss : wt (.str sg) ≤ 84 := by rw [wt]; omega
  have dss : PyData.depth (.str sg) = 0 := by rw [PyData.depth]
  refine ⟨_, rfl, rfl, _, rfl, iteE (fun c => ?_) (fun c => ?_)⟩
  · -- (odd, kids)
    refine ⟨_, rfl, _, rfl, by show 2 ≤ sizeLine; decide, fun p6 hp6 => ?_⟩
    obtain ⟨g6, d6⟩ := gw_tup (K := K) (xs := [ov, y0]) W5.fh hp6 (.cons hov (.cons h2' .nil))
    refine k _ _ _ _ (W5.gw g6) (e3.trans g6.ff) d6 (gd_pair og gkk) ?_ ?_
    · have := dep_pair od (.tuple ks)
      omega
    · rw [wt_pair]
      omega
  refine ⟨_, rfl, rfl, _, rfl, iteE (fun c => ?_) (fun c => ?_)⟩
  · -- (tag, list(kids))
    cases h2' with
    | @tup c2 ys _ hc hy =>
    refine ⟨_, rfl, _, rfl, c2, ys, rfl, .inr (same_t W5.fh hc), fun l hl => ?_⟩
    obtain ⟨g6, d6⟩ := gw_lst (K := K) W5.fh hl hy
    refine ⟨by show 2 ≤ sizeLine; decide, fun p7 hp7 => ?_⟩
    obtain ⟨g7, d7⟩ := gw_tup (K := K) (xs := [.str sg, .ref l]) g6.fh hp7 (.cons (.str _) (.cons d6 .nil))
    have G := g6.trans g7
    refine k _ _ _ _ (W5.gw G) (e3.trans G.ff) d7 (gd_pair hgs (by rw [gd]; exact hgk)) ?_ ?_
    · have := dep_pair (.str sg) (.list ks)
      have e : PyData.depth (.list ks) = PyData.depthAll ks + 1 := by rw [PyData.depth]
      omega
    · rw [wt_pair, show wt (.list ks) = 3 + wtAll ks by rw [wt]]
      omega
  refine ⟨_, rfl, rfl, _, rfl, iteE (fun c => ?_) (fun c => ?_)⟩
  · -- [tag, kids]
    refine ⟨_, rfl, _, rfl, by show 2 ≤ sizeLine; decide, fun p6 hp6 => ?_⟩
    obtain ⟨g6, d6⟩ := gw_lst (K := K) (xs := [.str sg, y0]) W5.fh hp6 (.cons (.str _) (.cons h2' .nil))
    refine k _ _ _ _ (W5.gw g6) (e3.trans g6.ff) d6 ?_ ?_ ?_
    · rw [gd, gdAll, gdAll, gdAll, hgs, gkk]
      rfl
    · simp only [PyData.depth, PyData.depthAll]
      omega
    · simp only [wt, wtAll]
      omega
  refine ⟨_, rfl, rfl, _, rfl, iteE (fun c => ?_) (fun c => ?_)⟩
  · -- one of seven
    refine ⟨_, rfl, by show 1 ≤ sizeLine; decide, fun q1 hq1 => ?_⟩
    obtain ⟨g1, d1⟩ := gw_tup (K := K) (xs := [.str sg]) W5.fh hq1 (.cons (.str _) .nil)
    refine ⟨_, rfl, _, rfl, by show 0 ≤ sizeLine; decide, fun q2 hq2 => ?_⟩
    obtain ⟨g2, d2⟩ := gw_tup (K := K) (xs := []) g1.fh hq2 .nil
    have G2 := g1.trans g2
    refine ⟨by show 3 ≤ sizeLine; decide, fun q3 hq3 => ?_⟩
    obtain ⟨g3, d3⟩ := gw_tup (K := K) (xs := [.str sg, y0, .ref q2]) g2.fh hq3 (.cons (.str _) (.cons (dp_mono G2.ff _ _ h2') (.cons d2 .nil)))
    have G3 := G2.trans g3
    refine ⟨_, rfl, _, rfl, by show 2 ≤ sizeLine; decide, fun q4 hq4 => ?_⟩
    obtain ⟨g4, d4⟩ := gw_tup (K := K) (xs := [y0, .str sg]) g3.fh hq4 (.cons (dp_mono G3.ff _ _ h2') (.cons (.str _) .nil))
    have G4 := G3.trans g4
    refine ⟨_, rfl, by show 0 ≤ sizeLine; decide, fun q5 hq5 => ?_⟩
    obtain ⟨g5, d5⟩ := gw_tup (K := K) (xs := []) g4.fh hq5 .nil
    have G5 := G4.trans g5
    refine ⟨by show 7 ≤ sizeLine; decide, fun q6 hq6 => ?_⟩
    have hseven : DpAll K _ [.ref q1, .ref q3, .ref q4, .str sg, .non, .ref q5, .int 0] [.tuple [.str sg], .tuple [.str sg, .tuple ks, .tuple []], .tuple [.tuple ks, .str sg], .str sg, .none, .tuple [], .int 0] :=
      .cons (dp_mono (((g2.ff.trans g3.ff).trans g4.ff).trans g5.ff) _ _ d1) (.cons (dp_mono (g4.ff.trans g5.ff) _ _ d3) (.cons (dp_mono g5.ff _ _ d4) (.cons (.str _) (.cons .non (.cons d5 (.cons (.int _) .nil))))))
    obtain ⟨g6, d6⟩ := gw_lst (K := K) g5.fh hq6 hseven
    have G6 := G5.trans g6
    have W6 := W5.gw G6
    refine ⟨_, rfl, st, cc, 7, rfl, W6.sa, by decide, by decide, fun r7 o7 hr70 hr71 sa7 => ?_⟩
    have W7 := W6.next sa7
    obtain ⟨rv, rd, hat, hmem, hrv⟩ := DpAll.pick (dpAll_mono g6.ff _ _ hseven) hr70 (show r7 < ((7 : Nat) : Int) from hr71)
    refine ⟨q6, _, r7, rv, rfl, rfl, .inl (.inl (W7.fh _ _ upd_same)), hat, ?_⟩
    have good : gd rd = true ∧ rd.depth ≤ PyData.depthAll ks + 5 ∧ wt rd ≤ 4 * wtAll ks + 10000 := by
      simp only [List.mem_cons, List.not_mem_nil, or_false] at hmem
      rcases hmem with rfl | rfl | rfl | rfl | rfl | rfl | rfl
      · refine ⟨by rw [gd, gdAll, gdAll, hgs]; rfl, by simp only [PyData.depth, PyData.depthAll]; omega, by simp only [wt, wtAll]; omega⟩
      · refine ⟨by rw [gd, gdAll, gdAll, gdAll, gdAll, hgs, gkk]; rfl, by simp only [PyData.depth, PyData.depthAll]; omega, by simp only [wt, wtAll]; omega⟩
      · refine ⟨gd_pair gkk hgs, by simp only [PyData.depth, PyData.depthAll]; omega, by simp only [wt, wtAll]; omega⟩
      · exact ⟨hgs, by rw [dss]; omega, by omega⟩
      · exact ⟨rfl, by rw [PyData.depth]; omega, by rw [wt]; omega⟩
      · exact ⟨rfl, by simp only [PyData.depth, PyData.depthAll]; omega, by simp only [wt, wtAll]; omega⟩
      · exact ⟨by decide +kernel, by rw [PyData.depth]; omega, by rw [wt]; omega⟩
    exact k _ _ _ _ W7 (e3.trans G6.ff) hrv good.1 good.2.1 good.2.2
  refine ⟨_, rfl, rfl, _, rfl, iteE (fun c => ?_) (fun c => ?_)⟩
  · -- a kid more
    refine ⟨_, rfl, _, rfl, by show 1 ≤ sizeLine; decide, fun q1 hq1 => ?_⟩
    obtain ⟨g1, d1⟩ := gw_tup (K := K) (xs := [.str "a"]) W5.fh hq1 (.cons (.str _) .nil)
    refine ⟨by show 0 ≤ sizeLine; decide, fun q2 hq2 => ?_⟩
    obtain ⟨g2, d2⟩ := gw_lst (K := K) (xs := []) g1.fh hq2 .nil
    refine ⟨by show 2 ≤ sizeLine; decide, fun q3 hq3 => ?_⟩
    obtain ⟨g3, d3⟩ := gw_tup (K := K) (xs := [.str "a", .ref q2]) g2.fh hq3 (.cons (.str _) (.cons d2 .nil))
    refine ⟨by show 4 ≤ sizeLine; decide, fun q4 hq4 => ?_⟩
    have hfour : DpAll K _ [.non, .str "a", .ref q1, .ref q3] [.none, .str "a", .tuple [.str "a"], .tuple [.str "a", .list []]] := .cons .non (.cons (.str _) (.cons (dp_mono (g2.ff.trans g3.ff) _ _ d1) (.cons d3 .nil)))
    obtain ⟨g4, d4⟩ := gw_lst (K := K) g3.fh hq4 hfour
    have G4 := ((g1.trans g2).trans g3).trans g4
    have W6 := W5.gw G4
    refine ⟨_, rfl, st, cc, 4, rfl, W6.sa, by decide, by decide, fun r7 o7 hr70 hr71 sa7 => ?_⟩
    have W7 := W6.next sa7
    obtain ⟨rv, rd, hat, hmem, hrv⟩ := DpAll.pick (dpAll_mono g4.ff _ _ hfour) hr70 (show r7 < ((4 : Nat) : Int) from hr71)
    refine ⟨q4, _, r7, rv, rfl, rfl, .inl (.inl (W7.fh _ _ upd_same)), hat, by show 1 ≤ sizeLine; decide, fun q5 hq5 => ?_⟩
    obtain ⟨g5, d5⟩ := gw_tup (K := K) (xs := [rv]) W7.fh hq5 (.cons hrv .nil)
    have h2'' := dp_mono (G4.ff.trans g5.ff) _ _ h2'
    cases h2'' with
    | @tup c2 ys _ hc hy =>
    cases d5 with
    | @tup _ xs5 _ hs5 ha5 =>
    have ly := DpAll.len hy
    have l5 := DpAll.len ha5
    refine cat_data (K := K) g5.fh hc hs5 hy ha5 ?_ (fun r8 F8 H8 g8 d8 => ?_)
    · rw [ly, l5]
      exact Nat.le_trans (show ks.length + 1 ≤ 1001 by omega) (by decide)
    refine ⟨by show 2 ≤ sizeLine; decide, fun q9 hq9 => ?_⟩
    obtain ⟨g9, d9⟩ := gw_tup (K := K) (xs := [.str sg, r8]) g8.fh hq9 (.cons (.str _) (.cons d8 .nil))
    have G9 := (g5.trans g8).trans g9
    have good : gd rd = true ∧ rd.depth ≤ 2 ∧ wt rd ≤ 100 := by
      have all : ∀ d ∈ [PyData.none, .str "a", .tuple [.str "a"], .tuple [.str "a", .list []]], gd d = true ∧ d.depth ≤ 2 ∧ wt d ≤ 100 := by decide +kernel
      exact all rd hmem
    refine k _ _ _ _ (W7.gw G9) ((e3.trans G4.ff).trans G9.ff) d9 (gd_pair hgs ?_) ?_ ?_
    · rw [gd, gdAll_app, hgk, gdAll, good.1]
      rfl
    · have h5 := dep_pair (.str sg) (.tuple (ks ++ [rd]))
      simp only [PyData.depth, PyData.depthAll, depthAll_app] at h5 ⊢
      omega
    · rw [wt_pair, wt, wt, wtAll_app, wtAll, wtAll]
      omega
  refine ⟨_, rfl, rfl, _, rfl, iteE (fun c => ?_) (fun c => ?_)⟩
  · -- (tag, None)
    refine ⟨_, rfl, by show 2 ≤ sizeLine; decide, fun p6 hp6 => ?_⟩
    obtain ⟨g6, d6⟩ := gw_tup (K := K) (xs := [.str sg, .non]) W5.fh hp6 (.cons (.str _) (.cons .non .nil))
    refine k _ _ _ _ (W5.gw g6) (e3.trans g6.ff) d6 (gd_pair hgs rfl) ?_ ?_
    · simp only [PyData.depth, PyData.depthAll]
      omega
    · simp only [wt, wtAll]
      omega
  · -- (tag, kids * 3)
    cases h2' with
    | @tup c2 ys _ hc hy =>
    refine ⟨_, rfl, _, rfl, ?_⟩
    dsimp only [tC]
    refine rep_data (K := K) (n := 3) W5.fh hc hy (by decide) (by decide) (by rw [DpAll.len hy]; exact hkl) (fun r8 F8 H8 g8 d8 => ?_)
    refine ⟨by show 2 ≤ sizeLine; decide, fun q9 hq9 => ?_⟩
    obtain ⟨g9, d9⟩ := gw_tup (K := K) (xs := [.str sg, r8]) g8.fh hq9 (.cons (.str _) (.cons d8 .nil))
    have G9 := g8.trans g9
    refine k _ _ _ _ (W5.gw G9) (e3.trans G9.ff) d9 (gd_pair hgs (by rw [gd]; exact gdAll_rep hgk _)) ?_ ?_
    · have h5 := dep_pair (.str sg) (.tuple (List.replicate (Int.toNat 3) ks).flatten)
      have h6 := depthAll_rep ks (Int.toNat 3)
      simp only [PyData.depth, PyData.depthAll] at h5 h6 ⊢
      omega
    · rw [wt_pair, wt, wt, wtAll_rep]
      show _ + (3 + 3 * wtAll ks) + 7 ≤ _
      omega
theorem cut_fromA (xs : List V) (i : Nat) : cutV xs (some (i : Int)) none = xs.drop i := by
  by_cases h : i ≤ xs.length
  · exact cut_from xs i h
  · unfold cutV
    rw [HT.sIx_none, HT.sIx_nat, Nat.min_eq_right (by omega), List.drop_length, List.drop_eq_nil_of_le (by omega), List.take_nil]
theorem sl_to {F H : Hp} {a : Addr} {xs : List V} {ds : List PyData} {i : Nat} {Q : VK} (e : Same F H) (ha : SqT K F a xs) (hx : DpAll K F xs ds)
    (k : ∀ r F' H', Gw F H F' H' → Dp K F' r (.tuple (ds.take i)) → Q r H') : rSlA K (.ref a) none (some (i : Int)) H Q := by
  refine ⟨a, xs, rfl, same_t e ha, fun hh => ?_, fun _ p hp => ?_⟩
  · have h2 := hh.2
    rw [HT.sIx_nat] at h2
    have e2 : ds.take i = ds := List.take_of_length_le (by rw [← DpAll.len hx]; omega)
    rw [e2] at k
    exact k _ F H (Gw.refl e) (.tup ha hx)
  · rw [cut_to]
    obtain ⟨g, d⟩ := gw_tup e hp (DpAll.take i hx)
    exact k _ _ _ g d
theorem sl_from {F H : Hp} {a : Addr} {xs : List V} {ds : List PyData} {i : Nat} {z : Int} {Q : VK} (hz : z = (i : Int)) (e : Same F H) (ha : SqT K F a xs) (hx : DpAll K F xs ds)
    (k : ∀ r F' H', Gw F H F' H' → Dp K F' r (.tuple (ds.drop i)) → Q r H') : rSlA K (.ref a) (some z) none H Q := by
  subst hz
  refine ⟨a, xs, rfl, same_t e ha, fun hh => ?_, fun _ p hp => ?_⟩
  · have h2 := hh.1
    rw [HT.sIx_nat] at h2
    have e2 : ds.drop i = ds := by
      by_cases hi : i = 0
      · rw [hi, List.drop_zero]
      · have h3 : ds = [] := by
          apply List.eq_nil_of_length_eq_zero
          rw [← DpAll.len hx]
          omega
        rw [h3, List.drop_nil]
    rw [e2] at k
    exact k _ F H (Gw.refl e) (.tup ha hx)
  · rw [cut_fromA]
    obtain ⟨g, d⟩ := gw_tup e hp (DpAll.drop i hx)
    exact k _ _ _ g d
/-- a thing that the law asks about -/
def Thing (d : PyData) : Prop := (gd d = true ∧ d.depth ≤ 90 ∧ wt d ≤ 1000000) ∨ d = .dict []
def pathOk (q : List Nat) : Prop := q.length ≤ 20 ∧ ∀ n ∈ q, n < 100000
theorem ints_ok (q : List Nat) (h : ∀ n ∈ q, n < 100000) : gdAll (q.map fun (n : Nat) => PyData.int (n : Int)) = true ∧ wtAll (q.map fun (n : Nat) => PyData.int (n : Int)) = 1932 * q.length ∧ PyData.depthAll (q.map fun (n : Nat) => PyData.int (n : Int)) = 0 := by
  induction q with
  | nil => exact ⟨rfl, rfl, rfl⟩
  | cons n r ih =>
    obtain ⟨h1, h2, h3⟩ := ih fun m hm => h m (List.mem_cons_of_mem _ hm)
    have hn := h n List.mem_cons_self
    refine ⟨?_, ?_, ?_⟩
    · rw [List.map_cons, gdAll, h1, gd, decide_eq_true (Nat.lt_of_lt_of_le (show ((n : Int)).natAbs < 100000 by omega) (by decide))]
      rfl
    · rw [List.map_cons, wtAll, h2, wt, List.length_cons]
      omega
    · rw [List.map_cons, PyData.depthAll, h3, PyData.depth]
      rfl
def spBPath (K : PySem.W.Frag) : Sp := fun vs H Q _ => ∃ (st cc : Addr) (F : Hp) (v : V) (q : List Nat), vs = [.ref st, v] ∧ Wd st cc F H ∧ Dp K F v (pathD q) ∧ pathOk q ∧
  ∀ (r : V) (e : PyData) (F' H' : Hp), Wd st cc F' H' → Same F F' → Dt K F' r e → Thing e → Q r H'
def odd8 : List PyData := [.int 60, .int (-1), .bool true, .none, .str "1", .tuple [.int 1], .int (10 ^ 40), .int 59]
theorem odd8_ok : ∀ d ∈ odd8, gd d = true ∧ d.depth ≤ 1 ∧ wt d ≤ 2000 := by decide +kernel
theorem scBPath : FnScope ["_law_state_here", "_law_path", "_law_spot", "_law_odd", "_law_some"] ["_law_state_here", "_law_path"] (defScope sBPath) := ⟨rfl, rfl, rfl, by decide +kernel, rfl, by decide +kernel, by decide +kernel⟩
theorem ok_bpath {f : Addr} {fd : FuncData} {k j : Nat} (F : Fun K "_law_bent_path" "_law_bent_path" sBPath f fd) (U_law_next : Use P w K mg base "_law_next" ["_law_state_here", "_law_below"] j spNext) (hj : j ≤ k) (T : Bl mg) : FnOk P w K mg base CX0 (k + 1) f fd ["_law_state_here", "_law_path"] (spBPath K) := by
  refine F.ok scBPath (fun vs H Q E h => ?_) (fun cdv A outer s H vs Q E hr h => ?_)
  · obtain ⟨_, _, _, _, _, rfl, _⟩ := h
    rfl
  obtain ⟨st, cc, Fd, v, q, rfl, W, hv, hq, k⟩ := h
  refine ⟨_, (pss_cons (ps_set (i := 2) scBPath.nd rfl (.inl rfl) (pe_call U_law_next.ok (hr.mono (by omega)) rfl U_law_next.m U_law_next.kp U_law_next.b .nil pass0 (pa_cons (pv 0) (pa_cons (pe_op op_add (pe_callB call_len_seq (by rfl) T.len PySem.boot_len (pa_cons (pv 1) pa_nil)) pe_int) pa_nil))))
    (pss_cons (ps_set (i := 3) scBPath.nd rfl (.inl rfl) (pe_ix ix_list (pe_lst (pa_cons pe_int (pa_cons (pe_un un_neg pe_int) (pa_cons pe_bl (pa_cons pe_non (pa_cons pe_str (pa_cons (pe_tup (pa_cons pe_int pa_nil)) (pa_cons (pe_op op_pow pe_int pe_int) (pa_cons pe_int pa_nil))))))))) (pe_call U_law_next.ok (hr.mono (by omega)) rfl U_law_next.m U_law_next.kp U_law_next.b .nil pass0 (pa_cons (pv 0) (pa_cons pe_int pa_nil))) (fun _ _ => rfl)))
    (pss_cons (ps_set (i := 4) scBPath.nd rfl (.inl rfl) (pe_lst (pa_cons (pe_op op_catA (pe_op op_catA (pe_slice sl_tupA (pv 1) po_none (po_some (pv 2))) (pe_tup (pa_cons (pv 3) pa_nil))) (pe_slice sl_tupA (pv 1) (po_some (pe_op op_add (pv 2) pe_int)) po_none)) (pa_cons (pe_callTy call_list_of (by rfl) T.list PyProof.Rows.boot_list (pa_cons (pv 1) pa_nil)) (pa_cons (pe_op op_catA (pv 1) (pe_op op_repA (pe_tup (pa_cons pe_int pa_nil)) (pe_call U_law_next.ok (hr.mono (by omega)) rfl U_law_next.m U_law_next.kp U_law_next.b .nil pass0 (pa_cons (pv 0) (pa_cons pe_int pa_nil))))) (pa_cons pe_non (pa_cons pe_int (pa_cons pe_str (pa_cons pe_dnewK pa_nil)))))))))
    (pss_one (ps_ret (pe_ix ix_list (pv 4) (pe_call U_law_next.ok (hr.mono (by omega)) rfl U_law_next.m U_law_next.kp U_law_next.b .nil pass0 (pa_cons (pv 0) (pa_cons pe_int pa_nil))) (fun _ _ => rfl))))))), ?_⟩
  obtain ⟨a, rfl, ha⟩ := dp_path hv
  obtain ⟨gq, wq, dq⟩ := ints_ok q hq.2
  have hq20 := hq.1
  refine ⟨_, rfl, _, rfl, a, _, rfl, .inr (same_t W.fh ha), _, _, rfl, rfl, st, cc, _, rfl, W.sa, ?_, ?_, fun spot o1 hs0 hs1 sa1 => ?_⟩
  · rw [List.length_map]
    omega
  · rw [List.length_map]
    omega
  rw [List.length_map] at hs1
  have W1 := W.next sa1
  generalize upd H st o1 = H1 at W1
  clear sa1 o1
  refine ⟨1, rfl, by show 1 ≤ sizeLine; decide, fun p1 hp1 => ?_⟩
  obtain ⟨g1, d1⟩ := gw_tup (K := K) (xs := [.int 1]) W1.fh hp1 (.cons (.int _) .nil)
  refine ⟨10, 40, rfl, rfl, ⟨by decide, by decide, by decide⟩, by show 8 ≤ sizeLine; decide, fun p2 hp2 => ?_⟩
  have hodd : DpAll K (upd Fd p1 (.tup [.int 1])) [.int 60, .int (-1), .bl true, .non, .str "1", .ref p1, .int (10 ^ 40), .int 59] odd8 :=
    .cons (.int _) (.cons (.int _) (.cons (.bl _) (.cons .non (.cons (.str _) (.cons d1 (.cons (.int _) (.cons (.int _) .nil)))))))
  obtain ⟨g2, d2⟩ := gw_lst (K := K) g1.fh hp2 hodd
  have G2 := g1.trans g2
  have W2 := W1.gw G2
  refine ⟨_, rfl, st, cc, 8, rfl, W2.sa, by decide, by decide, fun r3 o3 hr0 hr1 sa3 => ?_⟩
  have W3 := W2.next sa3
  obtain ⟨ov, od, hat, hmem, hov⟩ := DpAll.pick (dpAll_mono g2.ff _ _ hodd) hr0 (show r3 < (odd8.length : Nat) from hr1)
  obtain ⟨og, odp, owt⟩ := odd8_ok od hmem
  refine ⟨p2, _, r3, ov, rfl, rfl, .inl (.inl (W3.fh _ _ upd_same)), hat, ?_⟩
  have e3 := G2.ff
  generalize upd (upd Fd p1 (.tup [.int 1])) p2 (.lst [.int 60, .int (-1), .bl true, .non, .str "1", .ref p1, .int (10 ^ 40), .int 59]) = F3 at W3 e3 hov
  clear W2 sa3 g2 d2 hodd d1 g1
  obtain ⟨sp, rfl⟩ : ∃ sp : Nat, spot = (sp : Int) := ⟨spot.toNat, by omega⟩
  refine ⟨_, rfl, _, rfl, _, rfl, ?_⟩
  refine sl_to (K := K) (i := sp) W3.fh (same_t e3 ha) (path_all q) (fun r4 F4 H4 g4 d4 => ?_)
  have W4 := W3.gw g4
  refine ⟨_, rfl, by show 1 ≤ sizeLine; decide, fun p5 hp5 => ?_⟩
  obtain ⟨g5, d5⟩ := gw_tup (K := K) (xs := [ov]) W4.fh hp5 (.cons (dp_mono g4.ff _ _ hov) .nil)
  have d4' := dp_mono g5.ff _ _ d4
  cases d4' with
  | @tup a4 xs4 _ hs4 ha4 =>
  cases d5 with
  | @tup _ xs5 _ hs5 ha5 =>
  have l4 := DpAll.len ha4
  have l5 := DpAll.len ha5
  rw [List.length_take, List.length_map] at l4
  refine cat_data (K := K) g5.fh hs4 hs5 ha4 ha5 ?_ (fun r6 F6 H6 g6 d6 => ?_)
  · rw [l4, l5]
    exact sz1000 (show min sp q.length + 1 ≤ 1000 by omega)
  have G6 := (g4.trans g5).trans g6
  have W6 := W3.gw G6
  have e6 := e3.trans G6.ff
  refine ⟨_, rfl, _, rfl, _, _, rfl, rfl, _, rfl, ?_⟩
  dsimp only [tNoPart]
  refine sl_from (K := K) (i := sp + 1) (z := (sp : Int) + 1) (by omega) W6.fh (same_t e6 ha) (path_all q) (fun r7 F7 H7 g7 d7 => ?_)
  have d6' := dp_mono g7.ff _ _ d6
  cases d6' with
  | @tup a6 xs6 _ hs6 ha6 =>
  cases d7 with
  | @tup a7 xs7 _ hs7 ha7 =>
  have l6 := DpAll.len ha6
  have l7 := DpAll.len ha7
  rw [List.length_append, List.length_take, List.length_map] at l6
  rw [List.length_drop, List.length_map] at l7
  refine cat_data (K := K) g7.fh hs6 hs7 ha6 ha7 ?_ (fun r8 F8 H8 g8 d8 => ?_)
  · rw [l6, l7]
    exact sz1000 (show min sp q.length + 1 + (q.length - (sp + 1)) ≤ 1000 by omega)
  have G8 := (G6.trans g7).trans g8
  have W8 := W3.gw G8
  have e8 := e3.trans G8.ff
  -- list(path)
  refine ⟨_, rfl, a, _, rfl, .inr (same_t (e8.trans W8.fh) ha), fun l9 hl9 => ?_⟩
  obtain ⟨g9, d9⟩ := gw_lst (K := K) (xs := q.map fun (n : Nat) => V.int (n : Int)) W8.fh hl9 (path_all q)
  have W9 := W8.gw g9
  have e9 := e8.trans g9.ff
  -- path + (0,) * n
  refine ⟨_, rfl, by show 1 ≤ sizeLine; decide, fun p10 hp10 => ?_⟩
  obtain ⟨g10, d10⟩ := gw_tup (K := K) (xs := [.int 0]) W9.fh hp10 (.cons (.int _) .nil)
  have W10 := W9.gw g10
  refine ⟨_, rfl, st, cc, 13, rfl, W10.sa, by decide, by decide, fun m o11 hm0 hm1 sa11 => ?_⟩
  have W11 := W10.next sa11
  cases d10 with
  | @tup _ xs10 _ hs10 ha10 =>
  refine rep_data (K := K) (n := m) W11.fh hs10 ha10 (by omega) (by omega) (by rw [DpAll.len ha10]; show 1 ≤ 1000; decide) (fun r12 F12 H12 g12 d12 => ?_)
  have W12 := W11.gw g12
  have e12 := (e9.trans g10.ff).trans g12.ff
  cases d12 with
  | @tup a12 xs12 _ hs12 ha12 =>
  have l12 := DpAll.len ha12
  have l12' : xs12.length ≤ 12 := by
    rw [l12, rep_one, List.length_replicate]
    omega
  refine cat_data (K := K) g12.fh (same_t e12 ha) hs12 (path_all q) ha12 ?_ (fun r13 F13 H13 g13 d13 => ?_)
  · rw [List.length_map]
    exact sz1000 (show q.length + xs12.length ≤ 1000 by omega)
  have W13 := W12.gw g13
  have e13 := e12.trans g13.ff
  intro dd hdd
  have g14 : Gw F13 H13 (upd F13 dd (.dK [])) (upd H13 dd (.dK [])) := Gw.new W13.fh hdd
  have W14 := W13.gw g14
  refine ⟨by show 7 ≤ sizeLine; decide, fun p15 hp15 => ?_⟩
  have g15 : Gw _ _ (upd (upd F13 dd (.dK [])) p15 (.lst [r8, .ref l9, r13, .non, .int 0, .str "", .ref dd])) _ := Gw.new W14.fh hp15
  have W15 := W14.gw g15
  have e15 := (e13.trans g14.ff).trans g15.ff
  refine ⟨_, rfl, _, rfl, st, cc, 7, rfl, W15.sa, by decide, by decide, fun r16 o16 hr160 hr161 sa16 => ?_⟩
  have W16 := W15.next sa16
  have up15 : Same F13 _ := g14.ff.trans g15.ff
  have hsix : DpAll K _ [r8, .ref l9, r13, .non, .int 0, .str ""] [_, _, _, .none, .int 0, .str ""] :=
    .cons (dp_mono ((((g9.ff.trans g10.ff).trans g12.ff).trans g13.ff).trans up15) _ _ d8) (.cons (dp_mono (((g10.ff.trans g12.ff).trans g13.ff).trans up15) _ _ d9) (.cons (dp_mono up15 _ _ d13) (.cons .non (.cons (.int _) (.cons (.str _) .nil)))))
  have hl15 : SqL K _ p15 [r8, .ref l9, r13, .non, .int 0, .str "", .ref dd] := .inl (.inl (W16.fh _ _ upd_same))
  by_cases c6 : r16 = 6
  · subst c6
    refine ⟨p15, _, 6, .ref dd, rfl, rfl, hl15, atI_nat (j := 6) rfl, ?_⟩
    refine k _ _ _ _ W16 e15 (.e (a := dd) ?_) (.inr rfl)
    exact g15.ff _ _ upd_same
  · obtain ⟨x, d, hat, hmem, hx⟩ := DpAll.pick hsix hr160 (show r16 < ((6 : Nat) : Int) by omega)
    have hat' : atI [r8, .ref l9, r13, .non, .int 0, .str "", .ref dd] r16 = some x := by
      obtain ⟨i, rfl⟩ : ∃ i : Nat, r16 = (i : Int) := ⟨r16.toNat, by omega⟩
      have hi : i < 6 := by omega
      match i, hi with
      | 0, _ => exact hat
      | 1, _ => exact hat
      | 2, _ => exact hat
      | 3, _ => exact hat
      | 4, _ => exact hat
      | 5, _ => exact hat
    refine ⟨p15, _, r16, x, rfl, rfl, hl15, hat', ?_⟩
    refine k _ _ _ _ W16 e15 (.d hx) (.inl ?_)
    have tk := wtAll_take_le (q.map fun (n : Nat) => PyData.int (n : Int)) sp
    simp only [List.mem_cons, List.not_mem_nil, or_false] at hmem
    rcases hmem with rfl | rfl | rfl | rfl | rfl | rfl
    · have gt : gdAll ((q.map fun (n : Nat) => PyData.int (n : Int)).take sp) = true ∧ gdAll ((q.map fun (n : Nat) => PyData.int (n : Int)).drop (sp + 1)) = true := by
        rw [← List.map_take, ← List.map_drop]
        exact ⟨(ints_ok _ fun n hn => hq.2 n (List.mem_of_mem_take hn)).1, (ints_ok _ fun n hn => hq.2 n (List.mem_of_mem_drop hn)).1⟩
      have dt : PyData.depthAll ((q.map fun (n : Nat) => PyData.int (n : Int)).take sp) = 0 ∧ PyData.depthAll ((q.map fun (n : Nat) => PyData.int (n : Int)).drop (sp + 1)) = 0 := by
        rw [← List.map_take, ← List.map_drop]
        exact ⟨(ints_ok _ fun n hn => hq.2 n (List.mem_of_mem_take hn)).2.2, (ints_ok _ fun n hn => hq.2 n (List.mem_of_mem_drop hn)).2.2⟩
      have wd : wtAll ((q.map fun (n : Nat) => PyData.int (n : Int)).drop (sp + 1)) ≤ 1932 * q.length := by
        rw [← List.map_drop, (ints_ok _ fun n hn => hq.2 n (List.mem_of_mem_drop hn)).2.1, List.length_drop]
        exact Nat.mul_le_mul_left _ (by omega)
      refine ⟨?_, ?_, ?_⟩
      · rw [gd, gdAll_app, gdAll_app, gt.1, gt.2, gdAll, gdAll, og]
        rfl
      · rw [PyData.depth, depthAll_app, depthAll_app, dt.1, dt.2, PyData.depthAll, PyData.depthAll]
        omega
      · rw [wt, wtAll_app, wtAll_app, wtAll, wtAll]
        omega
    · refine ⟨by rw [gd]; exact gq, by rw [PyData.depth, dq]; omega, by rw [wt, wq]; omega⟩
    · refine ⟨?_, ?_, ?_⟩
      · rw [gd, gdAll_app, gq, gdAll_rep (by decide +kernel)]
        rfl
      · rw [PyData.depth, depthAll_app, dq]
        have := depthAll_rep [PyData.int 0] m.toNat
        have e : PyData.depthAll [PyData.int 0] = 0 := rfl
        omega
      · rw [wt, wtAll_app, wq, wtAll_rep]
        have e : wtAll [PyData.int 0] = 1932 := rfl
        have e3 : m.toNat * 1932 ≤ 12 * 1932 := Nat.mul_le_mul_right _ (by omega)
        rw [e]
        omega
    · exact ⟨rfl, by rw [PyData.depth]; omega, by rw [wt]; omega⟩
    · exact ⟨by decide +kernel, by rw [PyData.depth]; omega, by rw [wt]; omega⟩
    · exact ⟨by decide +kernel, by rw [PyData.depth]; omega, by decide +kernel⟩
end
end Tl

set_option Elab.async false
set_option linter.all false
set_option maxRecDepth 100000
set_option maxHeartbeats 8000000
namespace Tl
open PySem L2
abbrev sTreeL : Stmt := top 15
def nsV (es : List Nat) : List V := es.map fun (n : Nat) => V.int (n : Int)
theorem nsV_get {es : List Nat} {j e : Nat} (h : es[j]? = some e) : atI (nsV es) (j : Int) = some (.int (e : Int)) := atI_nat (by
  unfold nsV
  rw [List.getElem?_map, h]
  rfl)
theorem nsV_app (es : List Nat) (e : Nat) : nsV es ++ [.int (e : Int)] = nsV (es ++ [e]) := by
  unfold nsV
  rw [List.map_append]
  rfl
structure RelEL (es ls : List Nat) : Prop where
  first : ls[0]? = some 1
  lev : ∀ (j l : Nat), ls[j]? = some l → 1 ≤ l ∧ l ≤ 10
  eld : ∀ (j e : Nat), 1 ≤ j → es[j]? = some e → e < j ∧ ∀ (l l' : Nat), ls[e]? = some l → ls[j]? = some l' → l' = l + 1
theorem get_snoc {α : Type} {xs : List α} {x y : α} {j : Nat} (h : (xs ++ [x])[j]? = some y) : (j < xs.length ∧ xs[j]? = some y) ∨ (j = xs.length ∧ y = x) := by
  by_cases c : j < xs.length
  · rw [List.getElem?_append_left c] at h
    exact .inl ⟨c, h⟩
  · rw [List.getElem?_append_right (by omega)] at h
    have e : j - xs.length = 0 := by
      by_cases z : j - xs.length = 0
      · exact z
      · rw [List.getElem?_eq_none (by show 1 ≤ _; omega)] at h
        cases h
    rw [e] at h
    exact .inr ⟨by omega, (Option.some.inj h).symm⟩
theorem RelEL.app {es ls : List Nat} (r : RelEL es ls) {e l : Nat} (hlen : es.length = ls.length) (he : ls[e]? = some l) (hl : l ≤ 9) : RelEL (es ++ [e]) (ls ++ [l + 1]) := by
  have hel : e < ls.length := (List.getElem?_eq_some_iff.mp he).1
  refine ⟨?_, fun j m h => ?_, fun j e' hj h => ?_⟩
  · rw [List.getElem?_append_left (by omega)]
    exact r.first
  · rcases get_snoc h with ⟨_, h⟩ | ⟨_, rfl⟩
    · exact r.lev j m h
    · omega
  · rcases get_snoc h with ⟨c, h⟩ | ⟨rfl, rfl⟩
    · obtain ⟨h1, h2⟩ := r.eld j e' hj h
      refine ⟨h1, fun a b ha hb => ?_⟩
      rw [List.getElem?_append_left (by omega)] at ha hb
      exact h2 a b ha hb
    · refine ⟨by omega, fun a b ha hb => ?_⟩
      rw [List.getElem?_append_left hel] at ha
      rw [hlen, List.getElem?_append_right (Nat.le_refl _), Nat.sub_self] at hb
      rw [he] at ha
      cases ha
      exact (Option.some.inj hb).symm
theorem RelEL.one : RelEL [0] [1] := by
  refine ⟨rfl, fun j l h => ?_, fun j e hj h => ?_⟩
  · match j, h with
    | 0, h => have := Option.some.inj h; omega
    | j + 1, h => simp at h
  · match j, h with
    | 0, _ => omega
    | j + 1, h => simp at h
/-- the weights of the first m lists together -/
def sw (m : Nat) (tss : List (List PyData)) : Nat := ((tss.take m).map wtAll).sum
theorem sw_succ {m : Nat} {tss : List (List PyData)} {ts : List PyData} (h : tss[m]? = some ts) : sw (m + 1) tss = sw m tss + wtAll ts := by
  unfold sw
  rw [List.take_add_one, h, List.map_append, List.sum_append]
  simp
theorem sw_set : ∀ {m e : Nat} {tss : List (List PyData)} {ts : List PyData} {T : PyData}, e < m → tss[e]? = some ts → sw m (tss.set e (ts ++ [T])) = sw m tss + (wt T + 2)
  | 0, _, _, _, _, h, _ => by omega
  | m + 1, 0, a :: r, ts, T, _, h => by
    have e : a = ts := Option.some.inj h
    subst e
    show ((a ++ [T]) :: r.take m |>.map wtAll).sum = ((a :: r.take m).map wtAll).sum + _
    rw [List.map_cons, List.map_cons, List.sum_cons, List.sum_cons, wtAll_app, wtAll, wtAll]
    omega
  | m + 1, e + 1, a :: r, ts, T, h, h2 => by
    have ih := sw_set (m := m) (e := e) (tss := r) (ts := ts) (T := T) (by omega) h2
    unfold sw at ih ⊢
    show ((a :: (r.set e (ts ++ [T])).take m).map wtAll).sum = ((a :: r.take m).map wtAll).sum + _
    rw [List.map_cons, List.map_cons, List.sum_cons, List.sum_cons, ih]
    omega
  | _ + 1, _, [], _, _, _, h => by simp at h
theorem wt_sw : ∀ {m e : Nat} {tss : List (List PyData)} {ts : List PyData}, e < m → tss[e]? = some ts → wtAll ts ≤ sw m tss
  | 0, _, _, _, h, _ => by omega
  | m + 1, 0, a :: r, ts, _, h => by
    have e : a = ts := Option.some.inj h
    subst e
    show wtAll a ≤ ((a :: r.take m).map wtAll).sum
    rw [List.map_cons, List.sum_cons]
    omega
  | m + 1, e + 1, a :: r, ts, h, h2 => by
    have ih := wt_sw (m := m) (e := e) (tss := r) (ts := ts) (by omega) h2
    unfold sw at ih ⊢
    show _ ≤ ((a :: r.take m).map wtAll).sum
    rw [List.map_cons, List.sum_cons]
    omega
  | _ + 1, _, [], _, _, h => by simp at h
theorem sw_rep (m n : Nat) : sw m (List.replicate n []) = 0 := by
  unfold sw
  rw [List.take_replicate, List.map_replicate]
  generalize min m n = k
  induction k with
  | zero => rfl
  | succ k ih => rw [List.replicate_succ, List.sum_cons, ih]; rfl
theorem wtAll_rev (ts : List PyData) : wtAll ts.reverse = wtAll ts := by
  induction ts with
  | nil => rfl
  | cons a r ih => rw [List.reverse_cons, wtAll_app, ih, wtAll, wtAll, wtAll]; omega
def tags5 : List Str := ["a", "b", "ab", "zz", "abcdefgh"]
theorem tags5_ok : ∀ s ∈ tags5, 1 ≤ s.length ∧ s.length ≤ 8 ∧ (PyData.strOk s = true ∧ s ∈ tags6) := by decide +kernel
/-- the lists of kids: tss[j] at as[j] -/
structure KidsAt (K : PySem.W.Frag) (D : Addr) (as : List Addr) (tss : List (List PyData)) (F H : Hp) : Prop where
  lst : H D = some (.lst (as.map V.ref))
  nd : as.Nodup
  len : as.length = tss.length
  noD : ¬ D ∈ as
  at_ : ∀ (j : Nat) (a : Addr) (ts : List PyData), as[j]? = some a → tss[j]? = some ts → ∃ vs, H a = some (.lst vs) ∧ DpAll K F vs ts
  noF : ∀ a ∈ as, F a = none
theorem KidsAt.gw {K : PySem.W.Frag} {D : Addr} {as : List Addr} {tss : List (List PyData)} {F H F' H' : Hp} (k : KidsAt K D as tss F H) (g : Gw F H F' H') : KidsAt K D as tss F' H' := by
  refine ⟨g.hh _ _ k.lst, k.nd, k.len, k.noD, fun j a ts h1 h2 => ?_, fun a ha => ?_⟩
  · obtain ⟨vs, h3, h4⟩ := k.at_ j a ts h1 h2
    exact ⟨vs, g.hh _ _ h3, dpAll_mono g.ff _ _ h4⟩
  · obtain ⟨j, hj, rfl⟩ := List.getElem_of_mem ha
    obtain ⟨vs, h3, _⟩ := k.at_ j as[j] (tss[j]'(by rw [← k.len]; exact hj)) (List.getElem?_eq_getElem hj) (List.getElem?_eq_getElem _)
    exact g.nw _ (by rw [h3]; exact fun z => nomatch z) (k.noF _ ha)
theorem KidsAt.next {K : PySem.W.Frag} {D st : Addr} {as : List Addr} {tss : List (List PyData)} {F H : Hp} {o : HO} (k : KidsAt K D as tss F H) (h1 : st ≠ D) (h2 : ¬ st ∈ as) : KidsAt K D as tss F (upd H st o) := by
  refine ⟨by rw [upd_ne (Ne.symm h1)]; exact k.lst, k.nd, k.len, k.noD, fun j a ts h3 h4 => ?_, k.noF⟩
  obtain ⟨vs, h5, h6⟩ := k.at_ j a ts h3 h4
  exact ⟨vs, by rw [upd_ne (fun z => h2 (by rw [← z]; exact List.mem_of_getElem? h3))]; exact h5, h6⟩
theorem KidsAt.put {K : PySem.W.Frag} {D : Addr} {as : List Addr} {tss : List (List PyData)} {F H : Hp} {e : Nat} {a : Addr} {ts : List PyData} {vs : List V} {v : V} {T : PyData} (k : KidsAt K D as tss F H) (h1 : as[e]? = some a) (h2 : tss[e]? = some ts)
    (h3 : H a = some (.lst vs)) (h4 : DpAll K F vs ts) (hv : Dp K F v T) : KidsAt K D as (tss.set e (ts ++ [T])) F (upd H a (.lst (vs ++ [v]))) := by
  have ham := List.mem_of_getElem? h1
  refine ⟨by rw [upd_ne (fun z => k.noD (by rw [z]; exact ham))]; exact k.lst, k.nd, by rw [List.length_set]; exact k.len, k.noD, fun j b us h5 h6 => ?_, k.noF⟩
  by_cases c : j = e
  · subst c
    have e1 : b = a := Option.some.inj (h5.symm.trans h1)
    subst e1
    rw [List.getElem?_set_self (List.getElem?_eq_some_iff.mp h2).1] at h6
    cases h6
    exact ⟨vs ++ [v], upd_same, DpAll.app h4 (.cons hv .nil)⟩
  · rw [List.getElem?_set_ne (fun z => c z.symm)] at h6
    obtain ⟨ws, h7, h8⟩ := k.at_ j b us h5 h6
    exact ⟨ws, by rw [upd_ne (fun z => c (nd_ix k.nd h5 (by rw [z]; exact h1)))]; exact h7, h8⟩
def spTreeL (K : PySem.W.Frag) : Sp := fun vs H Q _ => ∃ (st cc : Addr) (F : Hp) (most : Int), vs = [.ref st, .int most] ∧ Wd st cc F H ∧ 1 ≤ most ∧ most ≤ 100 ∧
  ∀ (r : V) (d : PyData) (F' H' : Hp), Wd st cc F' H' → Same F F' → Dp K F' r d → TrD 10 d → wt d ≤ 9800 → Q r H'
section
variable {P : Program} {w : World} {K : PySem.W.Frag} {mg : Str → Option Value} {base : Heap}
theorem scTreeL : FnScope ["_law_state_here", "_law_most", "_law_tags", "_law_many", "_law_slope", "_law_elders", "_law_levels", "_law_k", "_law_kids", "_law_elder"] ["_law_state_here", "_law_most"] (defScope sTreeL) := ⟨rfl, rfl, rfl, by decide +kernel, rfl, by decide +kernel, by decide +kernel⟩
theorem ok_treeL {f : Addr} {fd : FuncData} {k j : Nat} (F : Fun K "_law_tree" "_law_tree" sTreeL f fd) (U_law_next : Use P w K mg base "_law_next" ["_law_state_here", "_law_below"] j spNext) (hj : j ≤ k) (T : Bl mg) : FnOk P w K mg base CX0 (k + 1) f fd ["_law_state_here", "_law_most"] (spTreeL K) := by
  refine F.ok scTreeL (fun vs H Q E h => ?_) (fun cdv A outer s H vs Q E hr h => ?_)
  · obtain ⟨_, _, _, _, rfl, _⟩ := h
    rfl
  obtain ⟨st, cc, Fd, most, rfl, W, hm1, hm2, k⟩ := h
  refine ⟨_, (pss_cons (ps_set (i := 2) scTreeL.nd rfl (.inl rfl) (pe_lst (pa_cons pe_str (pa_cons pe_str (pa_cons pe_str (pa_cons pe_str (pa_cons pe_str pa_nil)))))))
    (pss_cons (ps_set (i := 3) scTreeL.nd rfl (.inl rfl) (pe_op op_add pe_int (pe_call U_law_next.ok (hr.mono (by omega)) rfl U_law_next.m U_law_next.kp U_law_next.b .nil pass0 (pa_cons (pv 0) (pa_cons (pv 1) pa_nil)))))
    (pss_cons (ps_set (i := 4) scTreeL.nd rfl (.inl rfl) (pe_call U_law_next.ok (hr.mono (by omega)) rfl U_law_next.m U_law_next.kp U_law_next.b .nil pass0 (pa_cons (pv 0) (pa_cons pe_int pa_nil))))
    (pss_cons (ps_set (i := 5) scTreeL.nd rfl (.inl rfl) (pe_lst (pa_cons pe_int pa_nil)))
    (pss_cons (ps_set (i := 6) scTreeL.nd rfl (.inl rfl) (pe_lst (pa_cons pe_int pa_nil)))
    (pss_cons (ps_for PassesOwn.never rfl (pi_range2 (by rfl) T.range (pa_cons pe_int (pa_cons (pv 3) pa_nil))) (pg_name (i := 7) scTreeL.nd rfl (.inl rfl)) (pss_cons (ps_set (i := 9) scTreeL.nd rfl (.inl rfl) (pe_ix ix_list (pe_lst (pa_cons (pe_call U_law_next.ok (hr.mono (by omega)) rfl U_law_next.m U_law_next.kp U_law_next.b .nil pass0 (pa_cons (pv 0) (pa_cons (pv 7) pa_nil))) (pa_cons (pe_op op_sub (pv 7) pe_int) (pa_cons (pe_callB (call_max2 rfl) (by rfl) T.max PyProof.Rows.boot_max (pa_cons pe_int (pa_cons (pe_op op_sub (pe_op op_sub (pv 7) pe_int) (pe_call U_law_next.ok (hr.mono (by omega)) rfl U_law_next.m U_law_next.kp U_law_next.b .nil pass0 (pa_cons (pv 0) (pa_cons pe_int pa_nil)))) pa_nil))) pa_nil)))) (pv 4) (fun _ _ => rfl)))
      (pss_cons (ps_if (pt_cmpR op_gt (pe_ix ix_list (pv 6) (pv 9) (fun _ _ => rfl)) pe_int (nomark _)) (pss_one (ps_set (i := 9) scTreeL.nd rfl (.inl rfl) pe_int)) pss_nil)
      (pss_cons (ps_expr (pe_bm PySem.F.plainAttrs_list PySem.F.slot_list_append PySem.F.type_list_append mt_append (pv 5) (pa_cons (pv 9) pa_nil)))
      (pss_one (ps_expr (pe_bm PySem.F.plainAttrs_list PySem.F.slot_list_append PySem.F.type_list_append mt_append (pv 6) (pa_cons (pe_op op_add (pe_ix ix_list (pv 6) (pv 9) (fun _ _ => rfl)) pe_int) pa_nil))))))))
    (pss_cons (ps_setLc (i := 8) (own := [("_law_k", 7)]) (g := gName 7) (tt := tYes) (by rfl) scTreeL.nd rfl rfl (sw_true rfl rfl rfl (by decide +kernel)) (pi_range1 (by rfl) T.range (pa_cons (pv 3) pa_nil)) (blkOk_by (N := ["_law_state_here", "_law_most", "_law_tags", "_law_many", "_law_slope", "_law_elders", "_law_levels", "_law_k", "_law_kids", "_law_elder"]) (sc := defScope sTreeL) (own := [("_law_k", 7)]) (by decide +kernel)) (fun _ _ _ _ _ => pg_name (i := 7) scTreeL.nd rfl (Or.inl rfl)) (fun _ _ _ _ _ => pts_nil) (fun _ _ _ _ _ => (pe_lst pa_nil)))
    (pss_cons (ps_for PassesOwn.never rfl (pi_range3 (by rfl) T.range (pa_cons (pe_op op_sub (pv 3) pe_int) (pa_cons pe_int (pa_cons (pe_un un_neg pe_int) pa_nil)))) (pg_name (i := 7) scTreeL.nd rfl (.inl rfl)) (pss_one (ps_expr (pe_bm PySem.F.plainAttrs_list PySem.F.slot_list_append PySem.F.type_list_append mt_append (pe_ix ix_list (pv 8) (pe_ix ix_list (pv 5) (pv 7) (fun _ _ => rfl)) (fun _ _ => rfl)) (pa_cons (pe_tup (pa_cons (pe_ix ix_list (pv 2) (pe_call U_law_next.ok (hr.mono (by omega)) rfl U_law_next.m U_law_next.kp U_law_next.b .nil pass0 (pa_cons (pv 0) (pa_cons pe_int pa_nil))) (fun _ _ => rfl)) (pa_cons (pe_callTy call_tuple_of (by rfl) T.tuple PyProof.Rows.boot_tuple (pa_cons (pe_revL (pe_ix ix_list (pv 8) (pv 7) (fun _ _ => rfl))) pa_nil)) pa_nil))) pa_nil)))))
    (pss_one (ps_ret (pe_tup (pa_cons (pe_ix ix_list (pv 2) (pe_call U_law_next.ok (hr.mono (by omega)) rfl U_law_next.m U_law_next.kp U_law_next.b .nil pass0 (pa_cons (pv 0) (pa_cons pe_int pa_nil))) (fun _ _ => rfl)) (pa_cons (pe_callTy call_tuple_of (by rfl) T.tuple PyProof.Rows.boot_tuple (pa_cons (pe_revL (pe_ix ix_list (pv 8) pe_int (fun _ _ => rfl))) pa_nil)) pa_nil))))))))))))), ?_⟩
  refine ⟨by show 5 ≤ sizeLine; decide, fun tg htg => ?_⟩
  obtain ⟨g0, d0⟩ := gw_lst (K := K) (xs := tags5.map V.str) (ds := tags5.map PyData.str) W.fh htg (.cons (.str _) (.cons (.str _) (.cons (.str _) (.cons (.str _) (.cons (.str _) .nil)))))
  have W0 := W.gw g0
  have e0 := g0.ff
  have htg0 : (upd Fd tg (.lst (tags5.map V.str))) tg = some (.lst (tags5.map V.str)) := upd_same
  generalize upd Fd tg (.lst (tags5.map V.str)) = F0 at W0 e0 htg0
  clear d0 g0
  refine ⟨_, rfl, _, rfl, st, cc, most, rfl, W0.sa, by omega, by omega, fun m0 o1 hm00 hm01 sa1 => ?_⟩
  have W1 := W0.next sa1
  refine ⟨1, m0, rfl, rfl, ?_⟩
  refine ⟨_, rfl, st, cc, 3, rfl, W1.sa, by decide, by decide, fun slope o2 hs0 hs1 sa2 => ?_⟩
  have W2 := W1.next sa2
  obtain ⟨mn, hmn⟩ : ∃ mn : Nat, 1 + m0 = ((mn + 1 : Nat) : Int) := ⟨m0.toNat, by omega⟩
  have hmn2 : mn + 1 ≤ 100 := by omega
  refine ⟨by show 1 ≤ sizeLine; decide, fun el hel => ?_⟩
  have W3 := W2.same (same_new (o := .lst [.int 0]) hel)
  refine ⟨by show 1 ≤ sizeLine; decide, fun lv hlv => ?_⟩
  have W4 := W3.same (same_new (o := .lst [.int 1]) hlv)
  obtain ⟨nel, nelc⟩ := W2.ne hel
  obtain ⟨nlv, nlvc⟩ := W3.ne hlv
  have fel : F0 el = none := W2.fh.free hel
  have flv : F0 lv = none := W3.fh.free hlv
  have nll : el ≠ lv := ne_of_none upd_same hlv
  refine ⟨_, rfl, 1, 1 + m0, rfl, ⟨by omega, by omega, by omega, by omega⟩, ?_⟩
  refine for_range (lo := 1) (n := (1 + m0 - 1).toNat) (fun i σ H2 => ∃ (es ls : List Nat) (y7 y9 : Option V), σ = [some (.ref st), some (.int most), some (.ref tg), some (.int (1 + m0)), some (.int slope), some (.ref el), some (.ref lv), y7, none, y9] ∧ Wd st cc F0 H2 ∧ H2 el = some (.lst (nsV es)) ∧ H2 lv = some (.lst (nsV ls)) ∧ es.length = i + 1 ∧ ls.length = i + 1 ∧ RelEL es ls)
    ⟨[0], [1], none, none, rfl, W4, ?_, upd_same, rfl, rfl, RelEL.one⟩ (fun i σ H2 hi p => ?_) (fun σ H2 p => ?_)
  · rw [upd_ne nll]
    exact upd_same
  · obtain ⟨es, ls, y7, y9, rfl, W5, hE, hL, le, ll, R⟩ := p
    -- the three elders
    refine ⟨_, rfl, _, rfl, st, cc, _, rfl, W5.sa, by omega, by omega, fun a1 o6 ha10 ha11 sa6 => ?_⟩
    have W6 := W5.next sa6
    refine ⟨_, rfl, _, _, rfl, rfl, _, rfl, _, _, rfl, rfl, _, rfl, st, cc, 3, rfl, W6.sa, by decide, by decide, fun a2 o7 ha20 ha21 sa7 => ?_⟩
    have W7 := W6.next sa7
    refine ⟨_, _, rfl, rfl, 0, _, rfl, by show 3 ≤ sizeLine; decide, fun p8 hp8 => ?_⟩
    have E7 : (upd (upd H2 st o6) st o7) el = some (.lst (nsV es)) := by rw [upd_ne nel, upd_ne nel]; exact hE
    have L7 : (upd (upd H2 st o6) st o7) lv = some (.lst (nsV ls)) := by rw [upd_ne nlv, upd_ne nlv]; exact hL
    have s8 := same_new (o := HO.lst [V.int a1, V.int (1 + (i : Int) - 1), V.int (if 1 + (i : Int) - 1 - a2 > 0 then 1 + (i : Int) - 1 - a2 else 0)]) hp8
    have W8 := W7.same s8
    have E8 := s8 _ _ E7
    have L8 := s8 _ _ L7
    have pick : ∃ e : Nat, e ≤ i ∧ atI [V.int a1, V.int (1 + (i : Int) - 1), V.int (if 1 + (i : Int) - 1 - a2 > 0 then 1 + (i : Int) - 1 - a2 else 0)] slope = some (.int (e : Int)) := by
      rcases (show slope = 0 ∨ slope = 1 ∨ slope = 2 by omega) with rfl | rfl | rfl
      · exact ⟨a1.toNat, by omega, by rw [show ((a1.toNat : Nat) : Int) = a1 by omega]; exact atI_nat (j := 0) rfl⟩
      · exact ⟨i, Nat.le_refl _, (atI_nat (j := 1) rfl).trans (congrArg (fun z => some (V.int z)) (by omega))⟩
      · by_cases c : 1 + (i : Int) - 1 - a2 > 0
        · exact ⟨(1 + (i : Int) - 1 - a2).toNat, by omega, by rw [if_pos c, show (((1 + (i : Int) - 1 - a2).toNat : Nat) : Int) = 1 + (i : Int) - 1 - a2 by omega]; exact atI_nat (j := 2) rfl⟩
        · exact ⟨0, by omega, by rw [if_neg c]; exact atI_nat (j := 2) rfl⟩
    obtain ⟨e, hei, hat⟩ := pick
    refine ⟨_, rfl, p8, _, slope, _, rfl, rfl, SqL.of upd_same, hat, ?_⟩
    obtain ⟨l, hl⟩ : ∃ l, ls[e]? = some l := ⟨ls[e]'(by omega), List.getElem?_eq_getElem _⟩
    have hl10 := R.lev e l hl
    refine ⟨_, rfl, _, rfl, lv, _, _, _, rfl, rfl, SqL.of L8, nsV_get hl, _, _, rfl, rfl, _, rfl, ?_⟩
    refine iteD (fun c => ?_) (fun c => ?_)
    · have h0 : ls[0]? = some 1 := R.first
      refine ⟨_, rfl, .inl ⟨rfl, _, SqL.of E8⟩, _, rfl, el, _, _, rfl, rfl, E8, ?_, ?_⟩
      · unfold nsV
        rw [List.length_map]
        exact small1000 (by omega)
      have W9 := W8.mut (o := .lst (nsV es ++ [.int ((0 : Nat) : Int)])) fel nel nelc
      have L9 : (upd (upd (upd (upd H2 st o6) st o7) p8 (.lst [V.int a1, V.int (1 + (i : Int) - 1), V.int (if 1 + (i : Int) - 1 - a2 > 0 then 1 + (i : Int) - 1 - a2 else 0)])) el (.lst (nsV es ++ [.int ((0 : Nat) : Int)]))) lv = some (.lst (nsV ls)) := by rw [upd_ne (Ne.symm nll)]; exact L8
      refine ⟨_, rfl, .inl ⟨rfl, _, SqL.of L9⟩, _, rfl, _, rfl, lv, _, _, _, rfl, rfl, SqL.of L9, nsV_get h0, _, _, rfl, rfl, lv, _, _, rfl, rfl, L9, ?_, ?_⟩
      · unfold nsV
        rw [List.length_map]
        exact small1000 (by omega)
      have W10 := W9.mut (o := .lst (nsV ls ++ [.int (((1 : Nat) : Int) + 1)])) flv nlv nlvc
      refine ⟨es ++ [(0 : Nat)], ls ++ [(1 : Nat) + 1], _, _, rfl, W10, ?_, ?_, by rw [List.length_append, le]; rfl, by rw [List.length_append, ll]; rfl, R.app (by omega) h0 (by omega)⟩
      · rw [upd_ne nll, upd_same]
        exact congrArg (fun z => some (HO.lst z)) (nsV_app es _)
      · rw [upd_same]
        exact congrArg (fun z => some (HO.lst z)) (nsV_app ls _)
    · skip
      refine ⟨_, rfl, .inl ⟨rfl, _, SqL.of E8⟩, _, rfl, el, _, _, rfl, rfl, E8, ?_, ?_⟩
      · unfold nsV
        rw [List.length_map]
        exact small1000 (by omega)
      have W9 := W8.mut (o := .lst (nsV es ++ [.int (e : Int)])) fel nel nelc
      have L9 : (upd (upd (upd (upd H2 st o6) st o7) p8 (.lst [V.int a1, V.int (1 + (i : Int) - 1), V.int (if 1 + (i : Int) - 1 - a2 > 0 then 1 + (i : Int) - 1 - a2 else 0)])) el (.lst (nsV es ++ [.int (e : Int)]))) lv = some (.lst (nsV ls)) := by rw [upd_ne (Ne.symm nll)]; exact L8
      refine ⟨_, rfl, .inl ⟨rfl, _, SqL.of L9⟩, _, rfl, _, rfl, lv, _, _, _, rfl, rfl, SqL.of L9, nsV_get hl, _, _, rfl, rfl, lv, _, _, rfl, rfl, L9, ?_, ?_⟩
      · unfold nsV
        rw [List.length_map]
        exact small1000 (by omega)
      have W10 := W9.mut (o := .lst (nsV ls ++ [.int ((l : Int) + 1)])) flv nlv nlvc
      refine ⟨es ++ [e], ls ++ [l + 1], _, _, rfl, W10, ?_, ?_, by rw [List.length_append, le]; rfl, by rw [List.length_append, ll]; rfl, R.app (by omega) hl (by omega)⟩
      · rw [upd_ne nll, upd_same]
        exact congrArg (fun z => some (HO.lst z)) (nsV_app es _)
      · rw [upd_same]
        exact congrArg (fun z => some (HO.lst z)) (nsV_app ls _)
  · obtain ⟨es, ls, y7, y9, rfl, W5, hE, hL, le, ll, R⟩ := p
    have hn : (1 + m0 - 1).toNat = mn := by omega
    rw [hn] at le ll
    have hn1 : (1 + m0).toNat = mn + 1 := by omega
    refine ⟨_, rfl, 1 + m0, rfl, by omega, by omega, fun D hD => ?_⟩
    have hDs := W5.ne hD
    refine lc_range (lo := 0) (n := (1 + m0).toNat) (fun i H3 => ∃ as : List Addr, as.length = i ∧ H3 D = some (.lst (as.map V.ref)) ∧ as.Nodup ∧ (¬ D ∈ as) ∧ (∀ a ∈ as, H3 a = some (.lst []) ∧ H2 a = none) ∧ Same H2 H3)
      ⟨[], rfl, upd_same, List.nodup_nil, List.not_mem_nil, fun a h => absurd h List.not_mem_nil, same_new hD⟩ (fun i H3 hi p => ?_) (fun H3 p => ?_)
    · obtain ⟨as, l1, l2, l3, l4, l5, l6⟩ := p
      refine ⟨rfl, ?_⟩
      refine ⟨by show 0 ≤ sizeLine; decide, fun p hp => ?_⟩
      have npD : D ≠ p := ne_of_none l2 hp
      have npas : ¬ p ∈ as := fun h => by rw [(l5 p h).1] at hp; cases hp
      refine ⟨as.map V.ref, by rw [upd_ne npD]; exact l2, ?_, as ++ [p], by rw [List.length_append, l1]; rfl, ?_, ?_, ?_, fun a ha => ?_, ?_⟩
      · rw [List.length_map, l1]
        exact small1000 (by omega)
      · rw [upd_same, List.map_append]
        rfl
      · rw [List.nodup_append]
        exact ⟨l3, by simp, fun x hx y hy => by
          rw [List.mem_singleton.mp hy]
          exact fun z => npas (by rw [← z]; exact hx)⟩
      · intro h
        rcases List.mem_append.mp h with h | h
        · exact l4 h
        · exact npD (List.mem_singleton.mp h)
      · rcases List.mem_append.mp ha with ha | ha
        · have naD : a ≠ D := fun z => l4 (by rw [← z]; exact ha)
          have nap : a ≠ p := fun z => npas (by rw [← z]; exact ha)
          rw [upd_ne naD, upd_ne nap]
          exact l5 a ha
        · rw [List.mem_singleton.mp ha]
          refine ⟨?_, l6.free hp⟩
          rw [upd_ne (Ne.symm npD)]
          exact upd_same
      · exact same_mut (l6.trans (same_new hp)) hD
    obtain ⟨as, l1, l2, l3, l4, l5, l6⟩ := p
    rw [hn1] at l1
    have W6 := W5.same l6
    have E6 := l6 _ _ hE
    have asok : ∀ a ∈ as, a ≠ st ∧ a ≠ cc ∧ a ≠ el := fun a ha => ⟨(W5.ne (l5 a ha).2).1, (W5.ne (l5 a ha).2).2, (ne_of_none hE (l5 a ha).2).symm⟩
    have K6 : KidsAt K D as (List.replicate (mn + 1) []) F0 H3 := by
      refine ⟨l2, l3, by rw [l1, List.length_replicate], l4, fun j a ts h1 h2 => ?_, fun a ha => W5.fh.free (l5 a ha).2⟩
      rw [(List.mem_replicate.mp (List.mem_of_getElem? h2)).2]
      exact ⟨[], (l5 a (List.mem_of_getElem? h1)).1, .nil⟩
    refine ⟨_, rfl, _, _, rfl, rfl, 1, rfl, 1 + m0 - 1, 0, -1, _, rfl, RgC.neg (by omega) (by omega) (by omega) (by omega), ?_⟩
    have hn2 : (1 + m0 - 1 - 0).toNat = mn := by omega
    refine for_rangeC (lo := 1 + m0 - 1) (c := -1) (n := (1 + m0 - 1 - 0).toNat) (fun i σ H4 => ∃ (tss : List (List PyData)) (F2 : Hp) (z7 : Option V), σ = [some (.ref st), some (.int most), some (.ref tg), some (.int (1 + m0)), some (.int slope), some (.ref el), some (.ref lv), z7, some (.ref D), y9] ∧ Wd st cc F2 H4 ∧ Same F0 F2 ∧ H4 el = some (.lst (nsV es)) ∧ KidsAt K D as tss F2 H4 ∧ tss.length = mn + 1 ∧ sw (mn + 1 - i) tss ≤ 98 * i ∧ ∀ (j l : Nat) (ts : List PyData), tss[j]? = some ts → ls[j]? = some l → ∀ t ∈ ts, TrD (10 - l) t)
      ⟨List.replicate (mn + 1) [], F0, _, rfl, W6, Same.refl _, E6, K6, List.length_replicate, by rw [sw_rep]; exact Nat.zero_le _, fun j l ts h1 _ t ht => ?_⟩ (fun i σ H4 hi p => ?_) (fun σ H4 p => ?_)
    · rw [(List.mem_replicate.mp (List.mem_of_getElem? h1)).2] at ht
      cases ht
    · obtain ⟨tss, F2, z7, rfl, W7, e7, E7, K7, lt7, sw7, tr7⟩ := p
      rw [hn2] at hi
      obtain ⟨kk, hkk⟩ : ∃ kk : Nat, kk + i = mn := ⟨mn - i, by omega⟩
      have hkv : 1 + m0 - 1 + ((i : Nat) : Int) * -1 = (kk : Int) := by omega
      have hk1 : 1 ≤ kk := by omega
      obtain ⟨e, he⟩ : ∃ e, es[kk]? = some e := ⟨es[kk]'(by omega), List.getElem?_eq_getElem _⟩
      obtain ⟨hek, hlev⟩ := R.eld kk e hk1 he
      obtain ⟨ae, hae⟩ : ∃ a, as[e]? = some a := ⟨as[e]'(by omega), List.getElem?_eq_getElem _⟩
      obtain ⟨ak, hak⟩ : ∃ a, as[kk]? = some a := ⟨as[kk]'(by omega), List.getElem?_eq_getElem _⟩
      obtain ⟨te, hte⟩ : ∃ t, tss[e]? = some t := ⟨tss[e]'(by omega), List.getElem?_eq_getElem _⟩
      obtain ⟨tk, htk⟩ : ∃ t, tss[kk]? = some t := ⟨tss[kk]'(by omega), List.getElem?_eq_getElem _⟩
      obtain ⟨le', hle'⟩ : ∃ l, ls[e]? = some l := ⟨ls[e]'(by omega), List.getElem?_eq_getElem _⟩
      obtain ⟨lk, hlk⟩ : ∃ l, ls[kk]? = some l := ⟨ls[kk]'(by omega), List.getElem?_eq_getElem _⟩
      have hll := hlev le' lk hle' hlk
      have hlk10 := R.lev kk lk hlk
      obtain ⟨aest, aecc, aeel⟩ := asok ae (List.mem_of_getElem? hae)
      obtain ⟨akst, akcc, akel⟩ := asok ak (List.mem_of_getElem? hak)
      have stD : st ≠ D := (hDs.1).symm
      have stas : ¬ st ∈ as := fun h => (asok st h).1 rfl
      have atk : ∀ {xs : List V} {v : V}, xs[kk]? = some v → atI xs (1 + m0 - 1 + ((i : Nat) : Int) * -1) = some v := fun h => at_of hkv h
      have atE : atI (nsV es) (1 + m0 - 1 + ((i : Nat) : Int) * -1) = some (.int (e : Int)) := by rw [hkv]; exact nsV_get he
      obtain ⟨ve, hve, dve⟩ := K7.at_ e ae te hae hte
      have atAe : atI (as.map V.ref) (e : Int) = some (.ref ae) := atI_nat (by rw [List.getElem?_map, hae]; rfl)
      have atAk : atI (as.map V.ref) (1 + m0 - 1 + ((i : Nat) : Int) * -1) = some (.ref ak) := atk (by rw [List.getElem?_map, hak]; rfl)
      refine ⟨_, rfl, _, rfl, _, rfl, el, _, _, _, rfl, rfl, SqL.of E7, atE, D, _, _, _, rfl, rfl, SqL.of K7.lst, atAe, .inl ⟨rfl, _, SqL.of hve⟩, ?_⟩
      refine ⟨_, rfl, _, rfl, st, cc, 5, rfl, W7.sa, by decide, by decide, fun r8 o8 hr80 hr81 sa8 => ?_⟩
      have W8 := W7.next sa8
      have K8 := K7.next (o := o8) stD stas
      obtain ⟨tgs, htgs, hat⟩ : ∃ s, s ∈ tags5 ∧ atI (tags5.map V.str) r8 = some (.str s) := by
        obtain ⟨r, rfl⟩ : ∃ r : Nat, r8 = (r : Int) := ⟨r8.toNat, by omega⟩
        have hr5 : r < tags5.length := by show r < 5; omega
        exact ⟨tags5[r], List.getElem_mem hr5, atI_nat (by rw [List.getElem?_map, List.getElem?_eq_getElem hr5]; rfl)⟩
      have htag := tags5_ok tgs htgs
      refine ⟨tg, _, r8, _, rfl, rfl, SqL.of (W8.fh _ _ (e7 _ _ htg0)), hat, ?_⟩
      obtain ⟨vk, hvk, dvk⟩ := K8.at_ kk ak tk hak htk
      refine ⟨_, rfl, _, rfl, D, _, _, _, rfl, rfl, SqL.of K8.lst, atAk, ak, vk, rfl, SqL.of hvk, fun p9 hp9 => ?_⟩
      have g9 : Gw F2 (upd H4 st o8) F2 (upd (upd H4 st o8) p9 (.lst vk.reverse)) := Gw.temp W8.fh hp9
      refine ⟨p9, _, rfl, .inl ⟨SqL.of upd_same, fun p10 hp10 => ?_⟩⟩
      obtain ⟨g10, d10⟩ := gw_tup (K := K) (xs := vk.reverse) g9.fh hp10 (DpAll.rev dvk)
      refine ⟨by show 2 ≤ sizeLine; decide, fun p11 hp11 => ?_⟩
      obtain ⟨g11, d11⟩ := gw_tup (K := K) (xs := [.str tgs, .ref p10]) g10.fh hp11 (.cons (.str _) (.cons d10 .nil))
      have G := (g9.trans g10).trans g11
      have W12 := W8.gw G
      have K12 := K8.gw G
      obtain ⟨ve2, hve2, dve2⟩ := K12.at_ e ae te hae hte
      have hlt : wtAll te ≤ sw (mn + 1 - i) tss := wt_sw (by omega) hte
      have hl2 := len_wt te
      refine ⟨ae, ve2, _, rfl, rfl, hve2, ?_, ?_⟩
      · rw [DpAll.len dve2]
        exact Nat.lt_of_le_of_lt (show te.length ≤ 100000 by omega) (by decide)
      have W13 := W12.mut (o := .lst (ve2 ++ [.ref p11])) (K12.noF ae (List.mem_of_getElem? hae)) aest aecc
      have K13 := K12.put hae hte hve2 dve2 d11
      refine ⟨_, _, _, rfl, W13, e7.trans G.ff, ?_, K13, by rw [List.length_set]; exact lt7, ?_, fun j l ts h1 h2 t ht => ?_⟩
      · rw [upd_ne (Ne.symm aeel)]
        refine G.hh _ _ ?_
        rw [upd_ne nel]
        exact E7
      · have e1 : mn + 1 - (i + 1) = kk := by omega
        have e2 : mn + 1 - i = kk + 1 := by omega
        rw [e2, sw_succ htk] at sw7
        rw [e1, sw_set hek hte, wt_node, wtAll_rev]
        omega
      · by_cases cj : j = e
        · subst cj
          rw [List.getElem?_set_self (by omega)] at h1
          cases h1
          rw [hle'] at h2
          cases h2
          rcases List.mem_append.mp ht with ht | ht
          · exact tr7 j _ te hte hle' t ht
          · rw [List.mem_singleton.mp ht]
            refine TrD.mono (show 10 - lk + 1 ≤ 10 - le' by omega) ⟨tgs, _, rfl, htag, fun kd hkd => ?_⟩
            exact tr7 kk lk tk htk hlk kd (List.mem_reverse.mp hkd)
        · rw [List.getElem?_set_ne (fun z => cj z.symm)] at h1
          exact tr7 j l ts h1 h2 t ht
    · obtain ⟨tss, F2, z7, rfl, W7, e7, E7, K7, lt7, sw7, tr7⟩ := p
      rw [hn2, show mn + 1 - mn = 1 by omega] at sw7
      have stD : st ≠ D := (hDs.1).symm
      have stas : ¬ st ∈ as := fun h => (asok st h).1 rfl
      obtain ⟨ak, hak⟩ : ∃ a, as[0]? = some a := ⟨as[0]'(by omega), List.getElem?_eq_getElem _⟩
      obtain ⟨tk, htk⟩ : ∃ t, tss[0]? = some t := ⟨tss[0]'(by omega), List.getElem?_eq_getElem _⟩
      refine ⟨_, rfl, _, rfl, st, cc, 5, rfl, W7.sa, by decide, by decide, fun r8 o8 hr80 hr81 sa8 => ?_⟩
      have W8 := W7.next sa8
      have K8 := K7.next (o := o8) stD stas
      obtain ⟨tgs, htgs, hat⟩ : ∃ s, s ∈ tags5 ∧ atI (tags5.map V.str) r8 = some (.str s) := by
        obtain ⟨r, rfl⟩ : ∃ r : Nat, r8 = (r : Int) := ⟨r8.toNat, by omega⟩
        have hr5 : r < tags5.length := by show r < 5; omega
        exact ⟨tags5[r], List.getElem_mem hr5, atI_nat (by rw [List.getElem?_map, List.getElem?_eq_getElem hr5]; rfl)⟩
      have htag := tags5_ok tgs htgs
      refine ⟨tg, _, r8, _, rfl, rfl, SqL.of (W8.fh _ _ (e7 _ _ htg0)), hat, ?_⟩
      obtain ⟨vk, hvk, dvk⟩ := K8.at_ 0 ak tk hak htk
      refine ⟨_, rfl, D, _, 0, _, rfl, rfl, SqL.of K8.lst, atI_nat (j := 0) (by rw [List.getElem?_map, hak]; rfl), ak, vk, rfl, SqL.of hvk, fun p9 hp9 => ?_⟩
      have g9 : Gw F2 (upd H4 st o8) F2 (upd (upd H4 st o8) p9 (.lst vk.reverse)) := Gw.temp W8.fh hp9
      refine ⟨p9, _, rfl, .inl ⟨SqL.of upd_same, fun p10 hp10 => ?_⟩⟩
      obtain ⟨g10, d10⟩ := gw_tup (K := K) (xs := vk.reverse) g9.fh hp10 (DpAll.rev dvk)
      refine ⟨by show 2 ≤ sizeLine; decide, fun p11 hp11 => ?_⟩
      obtain ⟨g11, d11⟩ := gw_tup (K := K) (xs := [.str tgs, .ref p10]) g10.fh hp11 (.cons (.str _) (.cons d10 .nil))
      have G := (g9.trans g10).trans g11
      refine k _ _ _ _ (W8.gw G) ((e0.trans e7).trans G.ff) d11 ?_ ?_
      · refine ⟨tgs, _, rfl, htag, fun kd hkd => ?_⟩
        exact tr7 0 1 tk htk R.first kd (List.mem_reverse.mp hkd)
      · have hs1 : wtAll tk ≤ sw 1 tss := wt_sw (by omega) htk
        rw [wt_node, wtAll_rev]
        omega
end
end Tl

set_option Elab.async false
set_option linter.all false
set_option maxRecDepth 100000
set_option maxHeartbeats 4000000
/-! A def called at one place alone (what stands around it is known), and a law's end by it. -/
namespace Tl
open PySem PySem.Spec PyProof.Rows L2
theorem run_at {P : Program} {w : World} {K : PySem.W.Frag} {mg : Str → Option Value} {base : Heap} {k : Nat} {f : Addr} {fd : FuncData} {x qual : Str} {st : Stmt} {N ps : List Str} {A0 : Around} {outer : List Env} {s : Shared} {H : Hp} {args : Args} {us : List Value} {vs : List V} {Q : VK} {E : XK}
    (F : Fun K x qual st f fd) (S : FnScope N ps (defScope st)) (hr : Room (k + 1) A0) (e0 : Env0 P w K mg base A0 outer s H) (hb : BindsTo s fd args (ps.zip us)) (r : Vals vs us) (hl : vs.length = ps.length)
    (body : ∀ cdv : Value, Room k (A0.deeper (envOfC qual (defScope st) s.heap.objs.size f cdv)) →
      ∃ t, PSs (cxOf CX0 P w K mg base N qual (defScope st) f cdv A0 outer s H E).nox (defBody st) t ∧ t { nx := fun _ H' => Q .non H', rt := Q } (start N vs) H) :
    codeAny (model P w) A0 (.call (.ref f) args) (CR CX0 outer P w H s Q E) s := by
  obtain ⟨oc, od, kV, doc, pm, an, cdv, ct, osl, rfl, lk, hcd⟩ := F.ex
  have keep : ∀ b o, base.get? b = some o → s.heap.get? b = some o := fun b o q => (e0.bs b o q).1
  have KX : K.In s.heap := e0.mod.kin.keeps keep
  have hkind : ∀ y ∈ ps.zip us, (defScope st).names.lookup y.1 = some .local ∨
      ((defScope st).names.lookup y.1 = some .cell ∧ ((cellsFrom (s.heap.objs.size + 1) (defScope st).names []).lookup y.1).isSome = true) := by
    rintro ⟨n, v⟩ hy
    exact (S.par n (List.of_mem_zip hy).1).imp id fun q => ⟨q, PySem.W.cellsFrom_some _ _ _ (.inl q)⟩
  refine codeAny_call_function hr.depth (KX _ _ lk) rfl S.co S.gen rfl
    (PySem.W.codeRec_of KX hcd) (hb _ _ _ _ ?_)
  refine wpAny_newFunctionEnv_cells S.kind hkind fun env he s1 xx => ?_
  subst he
  refine ⟨(e0.mod.nolimit.keeps keep).keeps xx.toInCall.keep, codeAny_func ?_⟩
  obtain ⟨t, ht, hq⟩ := body cdv (hr.deeper _)
  have I := inv_start (CX := CX0) (E := E) S hr.hd e0 hl r xx
  refine wpAny_mono (ht.nox.run [] s1 (start N vs) H _ I hq) (fun fl s' hs => ?_) fun e s' hs => hs
  cases fl with
  | ret u =>
    obtain ⟨v, σ', H', J, rv, q⟩ := hs
    exact ⟨v, H', J.os, J.bare, J.base, J.hok, rv, q⟩
  | next =>
    obtain ⟨σ', H', J, q⟩ := hs
    exact ⟨V.non, H', J.os, J.bare, J.base, J.hok, rfl, q⟩
  | brk =>
    obtain ⟨_, _, _, q⟩ := hs
    exact q.elim
  | cont =>
    obtain ⟨_, _, _, q⟩ := hs
    exact q.elim
/-- what is tracked as a law begins: nothing, or the script alone, locked -/
def onlyAt (a : Addr) (o : Obj) (xs : List V) : Hp := fun b => if b = a then some (.frz o (.lst xs)) else none
theorem end_at {P : Program} {w : World} {K : PySem.W.Frag} {mg mb : Str → Option Value} {fa a : Addr} {s₁ : Shared} {vs : List Value} {ns : List Int}
    (KX : K.In s₁.heap) (hns : s₁.heap.Ns mainGlobals mg) (hmb : s₁.heap.Ns builtinsNs mb) (hbb : ∀ x : Str, x ≠ "__name__" → mb x = bootBuiltins x)
    (hlim : s₁.heap.NoLimit) (hg : s₁.gens = #[]) (ha : s₁.heap.get? a = some { cls := .type "list", data := .seq vs.toArray }) (hi : IntsAre vs ns) (hl : ns.length ≤ sizeLine)
    (run : ∀ (base : Heap) (H : Hp), K.In base → base.Ns mainGlobals mg → SqL K H a (ns.map V.int) → Env0 P w K mg base callerA [] s₁ H →
      codeAny (model P w) callerA (.call (.ref fa) ⟨[.ref a], []⟩) (CR CX0 [] P w H s₁ (fun v _ => v = V.bl true) fun _ _ _ => False) s₁) :
    codeAny (model P w) callerA (.call (.ref fa) ⟨[.ref a], []⟩)
      (fun r s' => r = .ok (.ret (.bool true)) ∧ OldK s₁.heap s'.heap ∧ s'.os = s₁.os ∧ AllBare s'.gens) s₁ := by
  have rv := vals_ints hi
  have go : ∀ H : Hp, (∀ b u, H b = some u → b = a ∧ ∃ o xs, u = .frz o (.lst xs)) → SqL K H a (ns.map V.int) → HOk P w H s₁.heap → (H a ≠ none → K.lookup a = none) →
      codeAny (model P w) callerA (.call (.ref fa) ⟨[.ref a], []⟩)
        (fun r s' => r = .ok (.ret (.bool true)) ∧ OldK s₁.heap s'.heap ∧ s'.os = s₁.os ∧ AllBare s'.gens) s₁ := by
    intro H hO hS hok hK
    have bo : ∀ {b : Addr} {o : Obj}, s₁.heap.get? b = some o → H b = none → (hidT s₁.heap H).get? b = some o := fun q n => hidT_get q n
    have nd : ∀ {b : Addr} {o : Obj} {es : Array DictEntry} {ep : Nat}, s₁.heap.get? b = some o → o.data = .dict es ep → H b = none := by
      intro b o es ep q d
      cases z : H b with
      | none => rfl
      | some u =>
        obtain ⟨rfl, _⟩ := hO b u z
        rw [ha] at q
        cases q
        have d' : Data.seq vs.toArray _ = Data.dict es ep := d
        cases d'
    have nsK : ∀ {b : Addr} {m : Str → Option Value}, s₁.heap.Ns b m → (hidT s₁.heap H).Ns b m := by
      rintro b m ⟨o, es, ep, q, d, r⟩
      exact ⟨o, es, ep, bo q (nd q d), d, r⟩
    have hKb : K.In (hidT s₁.heap H) := fun b o q => bo (KX b o q) (by
      cases z : H b with
      | none => rfl
      | some u =>
        obtain ⟨rfl, _⟩ := hO b u z
        have := hK (by rw [z]; exact fun y => nomatch y)
        rw [this] at q
        cases q)
    obtain ⟨mc, l1, l2⟩ := hlim
    have hM : Mod K mg (hidT s₁.heap H) := ⟨hKb, nsK hns, ⟨mb, nsK hmb, hbb⟩, ⟨mc, nsK l1, l2⟩⟩
    have e0 : Env0 P w K mg (hidT s₁.heap H) callerA [] s₁ H :=
      ⟨rfl, hM, fun b o q => of_hidT q, Nat.le_of_eq (hidT_size _ _), trivial, fun b hb => absurd (show b ∈ ([] : List Addr) from hb) (by simp), hok, .of_eq hg⟩
    refine codeAny_mono (run _ H hKb (nsK hns) hS e0) fun r s' h => ?_
    cases r with
    | error e => exact h.elim
    | ok fl =>
      cases fl with
      | ret u =>
        obtain ⟨v, H', os, bare, un, hok', r', q⟩ := h
        have q' : v = .bl true := q
        subst q'
        obtain rfl : u = Value.bool true := r'
        refine ⟨rfl, OldK.of_keep fun b o e => ?_, os, bare⟩
        cases z : H b with
        | none => exact un.keep b o e z (fun y => absurd (show b ∈ ([] : List Addr) from y) (by simp)) (by simp)
        | some u =>
          obtain ⟨rfl, ob, xs, rfl⟩ := hO b u z
          have z2 := un.frzs b ob _ z
          obtain ⟨e1, _⟩ := hok b _ z
          obtain ⟨e2, _⟩ := hok' b _ z2
          rw [e] at e1
          cases e1
          exact e2
      | next => exact h.elim
      | brk => exact h.elim
      | cont => exact h.elim
  have lenV := hi.length
  cases hk : K.lookup a with
  | some o =>
    have e := KX a o hk
    rw [ha] at e
    cases e
    have no : ∀ (b : Addr) (u : HO), (fun _ : Addr => (none : Option HO)) b = some u → False := fun b u z => by
      have z' : (none : Option HO) = some u := z
      cases z'
    exact go (fun _ => none) (fun b u z => (no b u z).elim) (.inr ⟨_, vs.toArray, _, hk, rfl, rfl, rfl, by rw [List.size_toArray, lenV]; exact hl, by simpa using rv⟩)
      (fun b u z => (no b u z).elim) fun z => absurd rfl z
  | none =>
    have at_a : onlyAt a { cls := .type "list", data := .seq vs.toArray } (ns.map V.int) a = some (.frz { cls := .type "list", data := .seq vs.toArray } (.lst (ns.map V.int))) := if_pos rfl
    have only : ∀ b u, onlyAt a { cls := .type "list", data := .seq vs.toArray } (ns.map V.int) b = some u → b = a ∧ u = .frz { cls := .type "list", data := .seq vs.toArray } (.lst (ns.map V.int)) := fun b u z => by
      unfold onlyAt at z
      by_cases hb : b = a
      · rw [if_pos hb] at z
        exact ⟨hb, (Option.some.inj z).symm⟩
      · rw [if_neg hb] at z
        cases z
    refine go (onlyAt a { cls := .type "list", data := .seq vs.toArray } (ns.map V.int)) (fun b u z => ?_) (.inl (.inr ⟨_, at_a⟩)) (fun b u z => ?_) fun _ => hk
    · obtain ⟨h1, h2⟩ := only b u z
      exact ⟨h1, _, _, h2⟩
    · obtain ⟨rfl, rfl⟩ := only b u z
      exact ⟨ha, by rw [List.length_map]; exact hl, vs, _, rv, ha⟩
theorem walk_at_top {l : PySem.W.OpenLaw} {n : Nat} {q : Program} {loose : List Str} {XP : (Str → Option Value) → Heap → Prop} {YP : World → Heap → Prop} {d : DefRec} {K : Params → PySem.W.Frag}
    (hn : l.most = some n) (hn2 : n ≤ sizeLine) (hdf : d.params.defaults = []) (hY : ∀ (w : World) (h : Heap), YP w h → (K w.params).In h)
    (F : ∀ (w : World) (mg : Str → Option Value) (fa : Addr) (h : Heap), (K w.params).In h → h.Ns mainGlobals mg → mg d.name = some (.ref fa) →
      ∀ (s₁ : Shared) (base : Heap) (H : Hp) (a : Addr) (ns : List Int), ns.length ≤ n → (K w.params).In base → base.Ns mainGlobals mg → SqL (K w.params) H a (ns.map V.int) → Env0 l.prog w (K w.params) mg base callerA [] s₁ H →
        codeAny (model l.prog w) callerA (.call (.ref fa) ⟨[.ref a], []⟩) (CR CX0 [] l.prog w H s₁ (fun v _ => v = V.bl true) fun _ _ _ => False) s₁) :
    PySem.W.WalkO q loose XP YP l.row.toRowW d [] (fun f vs => PySem.call f vs) := by
  refine Att.attach_call hn hdf fun w s₀ s₁ mg mb fa o pm cd doc a vs ns G Y ho hd hcd hmg hobj hints hlen hg => ?_
  have KX := hY w _ Y
  exact end_at KX G.T.g G.T.b G.T.builtins G.T.nolimit hg hobj hints (Nat.le_trans hlen hn2)
    fun base H h1 h2 h3 h4 => F w mg fa _ KX G.T.g hmg s₁ base H a ns hlen h1 h2 h3 h4
end Tl

set_option Elab.async false
set_option linter.all false
set_option maxRecDepth 100000
set_option maxHeartbeats 16000000
namespace Tl
open PySem L2
abbrev sLaw : Stmt := top 26
theorem upper_ok : ∀ s ∈ tags6, gd (.str (Txt.upper s)) = true ∧ wt (.str (Txt.upper s)) ≤ 100 := by decide +kernel
theorem cut_ok : ∀ s ∈ tags6, gd (.str (cutS s (some 1) none)) = true ∧ wt (.str (cutS s (some 1) none)) ≤ 100 := by decide +kernel
theorem blank_ok : ∀ s ∈ tags6, gd (.str (s ++ " ")) = true ∧ wt (.str (s ++ " ")) ≤ 100 := by decide +kernel
theorem q_ok : ∀ s ∈ tags6, ∀ n < 8, gd (.str (s ++ repS "q" n)) = true ∧ wt (.str (s ++ repS "q" n)) ≤ 200 := by decide +kernel
theorem q_len : ("q" : Str).length = 1 := by decide +kernel
theorem sub_tr : ∀ (q : List Nat) (h : Nat) (d e : PyData), TrD h d → sub d q = some e → ∃ h', TrD h' e ∧ h' + q.length ≤ h ∧ wt e ≤ wt d ∧ ∀ n ∈ q, 2 * n ≤ wt d
  | [], h, d, e, t, hs => by
    rw [sub] at hs
    cases hs
    exact ⟨h, t, Nat.le_refl _, Nat.le_refl _, fun n hn => nomatch hn⟩
  | i :: q, 0, d, e, t, hs => t.elim
  | i :: q, h + 1, d, e, t, hs => by
    obtain ⟨s, ks, k, rfl, hk, hs2⟩ := sub_cons hs
    obtain ⟨s', ks', he, _, hall⟩ := t
    cases he
    obtain ⟨h', t', hl, hw, hq⟩ := sub_tr q h k e (hall k (List.mem_of_getElem? hk)) hs2
    have w1 := wtAll_take_le ks (i + 1)
    rw [wtAll_take hk] at w1
    have w2 := len_wt ks
    have hi := (List.getElem?_eq_some_iff.mp hk).1
    have w3 := wt_node s' ks
    refine ⟨h', t', by rw [List.length_cons]; omega, by omega, fun n hn => ?_⟩
    rcases List.mem_cons.mp hn with rfl | hn
    · omega
    · have := hq n hn
      omega
theorem tr_wt {h : Nat} {d : PyData} (t : TrD h d) : 24 ≤ wt d := by
  cases h with
  | zero => exact t.elim
  | succ h =>
    obtain ⟨s, ks, rfl, hs, _⟩ := t
    rw [wt_node]
    have := hs.1
    omega
theorem len26 {h : Nat} : ∀ ks : List PyData, (∀ k ∈ ks, TrD h k) → 26 * ks.length ≤ wtAll ks
  | [], _ => Nat.zero_le _
  | a :: r, t => by
    have h1 := tr_wt (t a List.mem_cons_self)
    have h2 := len26 r fun k hk => t k (List.mem_cons_of_mem _ hk)
    rw [List.length_cons, wtAll]
    omega
theorem set_ok : ∀ (q : List Nat) (d e t : PyData), gd d = true → gd t = true → sub d q = some e → gd (setD d q t) = true ∧ (setD d q t).depth ≤ d.depth + t.depth ∧ wt (setD d q t) ≤ wt d + wt t
  | [], d, e, t, h1, h2, _ => by
    rw [setD]
    exact ⟨h2, by omega, by omega⟩
  | i :: q, d, e, t, h1, h2, hs => by
    obtain ⟨s, ks, k, rfl, hk, hs2⟩ := sub_cons hs
    have hi := (List.getElem?_eq_some_iff.mp hk).1
    have ek : ks.getD i .none = k := by
      rw [List.getD_eq_getElem?_getD, hk]
      rfl
    have split : ks = ks.take i ++ [k] ++ ks.drop (i + 1) := by
      have h3 : ks[i] = k := (List.getElem?_eq_some_iff.mp hk).2
      rw [List.append_assoc, ← h3]
      conv => lhs; rw [← List.take_append_drop i ks, List.drop_eq_getElem_cons hi]
      rfl
    rw [gd, gdAll, gdAll, gdAll, gd] at h1
    simp only [Bool.and_eq_true, and_true] at h1
    obtain ⟨gs, gk⟩ := h1
    have gk2 := gk
    rw [split, gdAll_app, gdAll_app, gdAll, gdAll] at gk2
    simp only [Bool.and_eq_true, and_true] at gk2
    obtain ⟨⟨g1, g2⟩, g3⟩ := gk2
    obtain ⟨r1, r2, r3⟩ := set_ok q k e t g2 h2 hs2
    have dk : PyData.depthAll ks = max (max (PyData.depthAll (ks.take i)) k.depth) (PyData.depthAll (ks.drop (i + 1))) := by
      conv => lhs; rw [split, depthAll_app, depthAll_app, PyData.depthAll, PyData.depthAll]
      omega
    have wk : wtAll ks = wtAll (ks.take i) + (wt k + 2) + wtAll (ks.drop (i + 1)) := by
      conv => lhs; rw [split, wtAll_app, wtAll_app, wtAll, wtAll]
    rw [setD, ek]
    refine ⟨?_, ?_, ?_⟩
    · rw [gd, gdAll, gdAll, gdAll, gd, gdAll_app, gdAll_app, gdAll, gdAll, gs, g1, r1, g3]
      rfl
    · simp only [PyData.depth, PyData.depthAll, depthAll_app]
      omega
    · simp only [wt, wtAll, wtAll_app]
      omega
theorem Thing.facts {d : PyData} (h : Thing d) : txt d = true ∧ d.showable = true ∧ d.depth ≤ 100 ∧ d.shown.length ≤ sizeLine := by
  rcases h with ⟨h1, h2, h3⟩ | rfl
  · exact ⟨gd_txt d h1, gd_show d h1, by omega, Nat.le_trans (Nat.le_trans (shown_le d h1) h3) (by decide)⟩
  · exact ⟨rfl, by decide +kernel, by decide +kernel, by decide +kernel⟩
theorem eqv3 (a b c : Bool) : PyData.eqv (.list [.bool a, .bool b, .bool c]) (.list [.bool a, .bool b, .bool c]) = true := by
  cases a <;> cases b <;> cases c <;> decide +kernel
theorem shaped3 (a b c : Bool) : SeqAt.shaped (.list [.bool a, .bool b, .bool c]) = true := flat_shaped rfl
section
variable {P : Program} {w : World} {K : PySem.W.Frag} {mg : Str → Option Value} {base : Heap}
/-- all that law calls -/
structure Calls (P : Program) (w : World) (K : PySem.W.Frag) (mg : Str → Option Value) (base : Heap) where
  is_tag : Use P w K mg base "is_tag" ["thing"] 1 (spB K isTag)
  is_tree : Use P w K mg base "is_tree" ["thing"] 16 (spB K isTreeD)
  is_path : Use P w K mg base "is_path" ["thing"] 3 (spB K isPath)
  state : Use P w K mg base "_law_state" ["_law_script"] 1 (spState K)
  next : Use P w K mg base "_law_next" ["_law_state_here", "_law_below"] 1 spNext
  tree : Use P w K mg base "_law_tree" ["_law_state_here", "_law_most"] 2 (spTreeL K)
  places : Use P w K mg base "_law_places" ["_law_tree_here", "_law_path"] 13 (spPlaces K 13)
  reach : Use P w K mg base "_law_reach" ["_law_tree_here", "_law_path"] 1 (spReach K)
  ltag : Use P w K mg base "_law_is_tag" ["_law_thing"] 1 (spB K isTag)
  count : Use P w K mg base "_law_count" ["_law_thing", "_law_level"] 15 (spCnt K 13)
  lpath : Use P w K mg base "_law_is_path" ["_law_thing"] 2 (spB K isPath)
  great : Use P w K mg base "_law_great" ["_law_state_here"] 2 (spGen K Great)
  set : Use P w K mg base "_law_set" ["_law_tree_here", "_law_path", "_law_thing"] 14 (spSet K 14)
  bpart : Use P w K mg base "_law_bent_part" ["_law_state_here", "_law_part"] 2 (spBPart K)
  bpath : Use P w K mg base "_law_bent_path" ["_law_state_here", "_law_path"] 2 (spBPath K)
  shared : Use P w K mg base "_law_shared" ["_law_wide"] 1 (spShared K)
theorem scLaw : FnScope ["_law_script", "_law_state_here", "_law_turn", "_law_tree_here", "_law_places_here", "_law_path", "_law_bent", "_law_tags", "_law_things", "_law_thing", "_law_before", "_law_told", "_law_due", "_law_one"] ["_law_script"] (defScope sLaw) := ⟨rfl, rfl, rfl, by decide +kernel, rfl, by decide +kernel, by decide +kernel⟩
theorem ok_law {f : Addr} {fd : FuncData} {s : Shared} {H : Hp} {a : Addr} {ns : List Int} (F : Fun K "law" "law" sLaw f fd) (T : Bl mg) (C : Cs mg) (U : Calls P w K mg base) (hS : SqL K H a (ns.map V.int)) (e0 : Env0 P w K mg base callerA [] s H) :
    codeAny (model P w) callerA (.call (.ref f) ⟨[.ref a], []⟩) (CR CX0 [] P w H s (fun v _ => v = V.bl true) fun _ _ _ => False) s := by
  have hb := F.binds (ps := ["_law_script"]) fun _ _ _ _ _ _ us hl => match us, hl with | [_], _ => rfl
  have KX : K.In s.heap := e0.mod.kin.keeps fun b o q => (e0.bs b o q).1
  obtain ⟨Uis_tag, Uis_tree, Uis_path, U_law_state, U_law_next, U_law_tree, U_law_places, U_law_reach, U_law_is_tag, U_law_count, U_law_is_path, U_law_great, U_law_set, U_law_bent_part, U_law_bent_path, U_law_shared⟩ := U
  refine run_at (k := 20) (vs := [V.ref a]) (us := [Value.ref a]) F scLaw ⟨rfl, by decide, by decide⟩ e0 (hb s [.ref a] KX rfl) (.cons rfl .nil) rfl (fun cdv hr => ?_)
  have hgu : (callerA.deeper (PyProof.Rows.envOfC "law" (defScope sLaw) s.heap.objs.size f cdv)).guards = some [] := rfl
  have hun : (callerA.deeper (PyProof.Rows.envOfC "law" (defScope sLaw) s.heap.objs.size f cdv)).units + 200 < cLine := by
    have := hr.un
    omega
  refine ⟨_, (pss_cons (ps_set (i := 1) scLaw.nd rfl (.inl rfl) (pe_call U_law_state.ok (hr.mono (by omega)) rfl U_law_state.m U_law_state.kp U_law_state.b .nil pass0 (pa_cons (pv 0) pa_nil)))
    (pss_cons (ps_if (PW.pt (pw_or (pt_cmpR (op_neD hr.units) (pe_lst (pa_cons (c_DEPTH C) (pa_cons (c_SIGNS C) (pa_cons (c_SIZE C) pa_nil)))) (pe_lst (pa_cons pe_int (pa_cons pe_int (pa_cons pe_int pa_nil)))) (nomark _)) (pw_or1 (pt_cmpR op_notBl (pe_call Uis_tree.ok (hr.mono (by omega)) rfl Uis_tree.m Uis_tree.kp Uis_tree.b .nil pass0 (pa_cons (pe_call U_law_shared.ok (hr.mono (by omega)) rfl U_law_shared.m U_law_shared.kp U_law_shared.b .nil pass0 (pa_cons (pe_op op_add pe_int (pe_call U_law_next.ok (hr.mono (by omega)) rfl U_law_next.m U_law_next.kp U_law_next.b .nil pass0 (pa_cons (pv 1) (pa_cons pe_int pa_nil)))) pa_nil)) pa_nil)) pe_bl (nomark _))))) (pss_one (ps_ret pe_bl)) pss_nil)
    (pss_cons (ps_for PassesOwn.never rfl (pi_range1 (by rfl) T.range (pa_cons pe_int pa_nil)) (pg_name (i := 2) scLaw.nd rfl (.inl rfl)) (pss_cons (ps_set (i := 3) scLaw.nd rfl (.inl rfl) (pe_ix ix_list (pe_lst (pa_cons (pe_call U_law_tree.ok (hr.mono (by omega)) rfl U_law_tree.m U_law_tree.kp U_law_tree.b .nil pass0 (pa_cons (pv 1) (pa_cons pe_int pa_nil))) (pa_cons (pe_call U_law_great.ok (hr.mono (by omega)) rfl U_law_great.m U_law_great.kp U_law_great.b .nil pass0 (pa_cons (pv 1) pa_nil)) pa_nil))) (pe_callTy call_int1 (by rfl) T.int PyProof.Rows.boot_int (pa_cons (pe_cmpR op_eq (pe_call U_law_next.ok (hr.mono (by omega)) rfl U_law_next.m U_law_next.kp U_law_next.b .nil pass0 (pa_cons (pv 1) (pa_cons pe_int pa_nil))) pe_int (nomark _)) pa_nil)) (fun _ _ => rfl)))
      (pss_cons (ps_set (i := 4) scLaw.nd rfl (.inl rfl) (pe_call U_law_places.ok (hr.mono (by omega)) rfl U_law_places.m U_law_places.kp U_law_places.b .nil pass0 (pa_cons (pv 3) (pa_cons (pe_tup pa_nil) pa_nil))))
      (pss_cons (ps_set (i := 5) scLaw.nd rfl (.inl rfl) (pe_ix ix_list (pv 4) (pe_call U_law_next.ok (hr.mono (by omega)) rfl U_law_next.m U_law_next.kp U_law_next.b .nil pass0 (pa_cons (pv 1) (pa_cons (pe_callB call_len_seq (by rfl) T.len PySem.boot_len (pa_cons (pv 4) pa_nil)) pa_nil))) (fun _ _ => rfl)))
      (pss_cons (ps_set (i := 6) scLaw.nd rfl (.inl rfl) (pe_call U_law_set.ok (hr.mono (by omega)) rfl U_law_set.m U_law_set.kp U_law_set.b .nil pass0 (pa_cons (pv 3) (pa_cons (pv 5) (pa_cons (pe_call U_law_bent_part.ok (hr.mono (by omega)) rfl U_law_bent_part.m U_law_bent_part.kp U_law_bent_part.b .nil pass0 (pa_cons (pv 1) (pa_cons (pe_call U_law_reach.ok (hr.mono (by omega)) rfl U_law_reach.m U_law_reach.kp U_law_reach.b .nil pass0 (pa_cons (pv 3) (pa_cons (pv 5) pa_nil))) pa_nil))) pa_nil)))))
      (pss_cons (ps_set (i := 7) scLaw.nd rfl (.inl rfl) (pe_lst (pa_cons (pe_ix ix_tup (pv 3) pe_int (fun _ _ => rfl)) (pa_cons (pe_op op_add_str (pe_ix ix_tup (pv 3) pe_int (fun _ _ => rfl)) (pe_op op_rep_str pe_str (pe_call U_law_next.ok (hr.mono (by omega)) rfl U_law_next.m U_law_next.kp U_law_next.b .nil pass0 (pa_cons (pv 1) (pa_cons pe_int pa_nil))))) (pa_cons (pe_slice sl_str (pe_ix ix_tup (pv 3) pe_int (fun _ _ => rfl)) (po_some pe_int) po_none) (pa_cons (pe_op op_add_str (pe_ix ix_tup (pv 3) pe_int (fun _ _ => rfl)) pe_str) (pa_cons (pe_upper (pe_ix ix_tup (pv 3) pe_int (fun _ _ => rfl))) pa_nil)))))))
      (pss_cons (ps_set (i := 8) scLaw.nd rfl (.inl rfl) (pe_op op_cat (pe_lst (pa_cons (pv 3) (pa_cons (pv 6) (pa_cons (pv 5) (pa_cons (pe_call U_law_bent_path.ok (hr.mono (by omega)) rfl U_law_bent_path.m U_law_bent_path.kp U_law_bent_path.b .nil pass0 (pa_cons (pv 1) (pa_cons (pv 5) pa_nil))) (pa_cons (pe_call U_law_bent_path.ok (hr.mono (by omega)) rfl U_law_bent_path.m U_law_bent_path.kp U_law_bent_path.b .nil pass0 (pa_cons (pv 1) (pa_cons (pv 5) pa_nil))) pa_nil)))))) (pv 7)))
      (pss_one (ps_for PassesOwn.never rfl (pi_list (pe_op op_cat (pv 8) (pe_lst (pa_cons (pe_lst (pa_cons (pv 3) pa_nil)) (pa_cons (pe_tup (pa_cons (pv 3) pa_nil)) (pa_cons pe_non (pa_cons (pe_tup pa_nil) (pa_cons pe_int (pa_cons (pe_ix ix_tup (pv 3) pe_int (fun _ _ => rfl)) pa_nil))))))))) (pg_name (i := 9) scLaw.nd rfl (.inl rfl)) (pss_cons (ps_set (i := 10) scLaw.nd rfl (.inl rfl) (pe_callB (call_reprD hgu hun) (by rfl) T.repr PyProof.Rows.boot_repr (pa_cons (pv 9) pa_nil)))
        (pss_cons (ps_set (i := 11) scLaw.nd rfl (.inl rfl) (pe_lst (pa_cons (pe_call Uis_tag.ok (hr.mono (by omega)) rfl Uis_tag.m Uis_tag.kp Uis_tag.b .nil pass0 (pa_cons (pv 9) pa_nil)) (pa_cons (pe_call Uis_tree.ok (hr.mono (by omega)) rfl Uis_tree.m Uis_tree.kp Uis_tree.b .nil pass0 (pa_cons (pv 9) pa_nil)) (pa_cons (pe_call Uis_path.ok (hr.mono (by omega)) rfl Uis_path.m Uis_path.kp Uis_path.b .nil pass0 (pa_cons (pv 9) pa_nil)) pa_nil)))))
        (pss_cons (ps_set (i := 12) scLaw.nd rfl (.inl rfl) (pe_lst (pa_cons (pe_call U_law_is_tag.ok (hr.mono (by omega)) rfl U_law_is_tag.m U_law_is_tag.kp U_law_is_tag.b .nil pass0 (pa_cons (pv 9) pa_nil)) (pa_cons (pe_cmpR op_le (pe_call U_law_count.ok (hr.mono (by omega)) rfl U_law_count.m U_law_count.kp U_law_count.b .nil pass0 (pa_cons (pv 9) (pa_cons pe_int pa_nil))) pe_int (nomark _)) (pa_cons (pe_call U_law_is_path.ok (hr.mono (by omega)) rfl U_law_is_path.m U_law_is_path.kp U_law_is_path.b .nil pass0 (pa_cons (pv 9) pa_nil)) pa_nil)))))
        (pss_one (ps_if (PW.pt (pw_or (pt_cmpR (op_neD hr.units) (pe_lc (own := [("_law_one", 13)]) (g := gName 13) (by rfl) scLaw.nd (pi_list (pv 11)) (blkOk_by (N := ["_law_script", "_law_state_here", "_law_turn", "_law_tree_here", "_law_places_here", "_law_path", "_law_bent", "_law_tags", "_law_things", "_law_thing", "_law_before", "_law_told", "_law_due", "_law_one"]) (sc := defScope sLaw) (own := [("_law_one", 13)]) (by decide +kernel)) (fun _ _ _ _ _ => pg_name (i := 13) scLaw.nd rfl (Or.inl rfl)) (fun _ _ _ _ _ => (pts_one (pt_not (pt_val (pe_callB (r := rIsi K) call_isi (by rfl) T.isi PyProof.Rows.boot_isinstance (pa_cons (pv 13) (pa_cons (b_bool T) pa_nil))))))) (fun _ _ _ _ _ => pe_int)) (pe_lst pa_nil) (nomark _)) (pw_or (pt_cmpR (op_neD hr.units) (pv 11) (pv 12) (nomark _)) (pw_or1 (pt_cmpR op_ne (pe_callB (call_reprD hgu hun) (by rfl) T.repr PyProof.Rows.boot_repr (pa_cons (pv 9) pa_nil)) (pv 10) (nomark _)))))) (pss_one (ps_ret pe_bl)) pss_nil))))))))))))))
    (pss_one (ps_ret pe_bl))))), ?_⟩
  refine ⟨_, rfl, a, ns, rfl, hS, fun st cc H1 e1 hst sa1 => ?_⟩
  have W1 : Wd st cc (fun _ => none) H1 := ⟨fun b o q => (by cases q), rfl, sa1⟩
  -- the program's numbers
  refine ⟨by show 3 ≤ sizeLine; decide, fun p1 hp1 => ⟨by show 3 ≤ sizeLine; decide, fun p2 hp2 => ?_⟩⟩
  have W2 := (W1.same (same_new (o := .lst [.int 12, .int 8, .int 60]) hp1)).same (same_new (o := .lst [.int 12, .int 8, .int 60]) hp2)
  have n12 : p1 ≠ p2 := ne_of_none upd_same hp2
  refine ⟨.list [.int 12, .int 8, .int 60], .list [.int 12, .int 8, .int 60], .lst (SqL.of (by rw [upd_ne n12]; exact upd_same)) (.cons (.int _) (.cons (.int _) (.cons (.int _) .nil))), .lst (SqL.of upd_same) (.cons (.int _) (.cons (.int _) (.cons (.int _) .nil))), by decide +kernel, by decide +kernel, _, rfl, ?_⟩
  rw [show PyData.eqv (.list [.int 12, .int 8, .int 60]) (.list [.int 12, .int 8, .int 60]) = true by decide +kernel]
  refine iteF ?_
  -- a thing that says one part very often is no tree
  refine ⟨_, rfl, st, cc, 59, rfl, W2.sa, by decide, by decide, fun r3 o3 hr30 hr31 sa3 => ?_⟩
  have W3 := W2.next sa3
  refine ⟨2, r3, rfl, rfl, (2 + r3).toNat, ?_, by omega, by omega, fun sv sd H4 e4 hsd hst4 hno => ?_⟩
  · show [V.int (2 + r3)] = _
    rw [show (((2 + r3).toNat : Nat) : Int) = 2 + r3 by omega]
  have W4 := W3.same e4
  refine ⟨sv, sd, rfl, .d hsd, hst4, fun H5 e5 => ⟨_, _, rfl, rfl, _, rfl, ?_⟩⟩
  refine iteN (fun z => absurd hno z) (fun _ => ?_)
  have W5 := W4.same e5
  refine ⟨3, rfl, by decide, by decide, ?_⟩
  refine for_range (n := 3) (fun i σ H6 => ∃ (F6 : Hp) (y2 y3 y4 y5 y6 y7 y8 y9 y10 y11 y12 y13 : Option V), σ = [some (.ref a), some (.ref st), y2, y3, y4, y5, y6, y7, y8, y9, y10, y11, y12, y13] ∧ Wd st cc F6 H6)
    ⟨_, none, none, none, none, none, none, none, none, none, none, none, none, rfl, W5⟩ (fun i σ H6 hi p => ?_) (fun σ H6 p => ?_)
  · obtain ⟨F6, y2, y3, y4, y5, y6, y7, y8, y9, y10, y11, y12, y13, rfl, W6⟩ := p
    refine ⟨_, rfl, st, cc, F6, 20, rfl, W6, by decide, by decide, fun v1 d1 F7 H7 W7 e7 dv1 tr1 wt1 => ?_⟩
    refine ⟨_, rfl, st, cc, F7, rfl, W7, fun v2 d2 F8 H8 W8 e8 dv2 gr2 => ?_⟩
    refine ⟨by show 2 ≤ sizeLine; decide, fun p9 hp9 => ?_⟩
    have W9 := W8.same (same_new (o := .lst [v1, v2]) hp9)
    refine ⟨_, rfl, st, cc, 3, rfl, W9.sa, by decide, by decide, fun m o10 hm0 hm1 sa10 => ?_⟩
    have W10 := W9.next sa10
    have np9 : p9 ≠ st := (W8.ne hp9).1
    obtain ⟨tv, td, hat, dtv, ttv, wtv⟩ : ∃ tv td, atI [v1, v2] (if decide (V.int m = V.int 0) = true then 1 else 0) = some tv ∧ Dp K F8 tv td ∧ TrD 13 td ∧ wt td ≤ 10000 := by
      by_cases c : decide (V.int m = V.int 0) = true
      · rw [if_pos c]
        exact ⟨v2, d2, atI_nat (j := 1) rfl, dv2, gr2.1, gr2.2⟩
      · rw [if_neg c]
        exact ⟨v1, d1, atI_nat (j := 0) rfl, dp_mono e8 _ _ dv1, TrD.mono (by decide) tr1, by omega⟩
    refine ⟨rfl, .inr ⟨_, rfl, p9, _, _, tv, rfl, rfl, SqL.of (by rw [upd_ne np9]; exact upd_same), hat, ?_⟩⟩
    -- the places
    refine ⟨_, rfl, by show 0 ≤ sizeLine; decide, fun p11 hp11 => ?_⟩
    obtain ⟨g11, d11⟩ := gw_tup (K := K) (xs := []) (ds := []) W10.fh hp11 .nil
    have W11 := W10.gw g11
    refine ⟨_, tv, td, .ref p11, [], rfl, W11.fh, dp_mono g11.ff _ _ dtv, ttv, d11, by omega, by decide, by decide, fun pa xs L F12 H12 g12 hpa hxs hL0 hL1 hLp => ?_⟩
    have W12 := W11.gw g12
    have e12 := g11.ff.trans g12.ff
    have lx := DpAll.len hxs
    rw [List.length_map] at lx
    refine ⟨_, rfl, _, rfl, _, rfl, pa, xs, rfl, .inl (SqL.of (W12.fh _ _ hpa)), st, cc, _, rfl, W12.sa, by omega, by omega, fun m13 o13 hm130 hm131 sa13 => ?_⟩
    have W13 := W12.next sa13
    obtain ⟨pv, pd, hat13, hmem13, dpv⟩ := DpAll.pick hxs hm130 (by rw [List.length_map]; omega)
    obtain ⟨q, hqL, rfl⟩ := List.mem_map.mp hmem13
    obtain ⟨q', e, hq', hsub⟩ := hLp q hqL
    rw [List.nil_append] at hq'
    subst hq'
    obtain ⟨h', te, hlen, hwe, hqs⟩ := sub_tr q 13 td e ttv hsub
    refine ⟨pa, xs, m13, pv, rfl, rfl, SqL.of (W13.fh _ _ hpa), hat13, ?_⟩
    have dtv13 := dp_mono e12 _ _ dtv
    -- the bent tree
    obtain ⟨h'', rfl⟩ : ∃ n, h' = n + 1 := by
      cases h' with
      | zero => exact te.elim
      | succ n => exact ⟨n, rfl⟩
    obtain ⟨sg, ks, rfl, htg, hks⟩ := te
    have gks : gdAll ks = true := gdAll_of fun k hk => (TrD.gd (hks k hk)).1
    have dks : PyData.depthAll ks ≤ 2 * h'' := depthAll_le fun k hk => (TrD.gd (hks k hk)).2
    have wks := wt_node sg ks
    have lks := len_wt ks
    have gtd := TrD.gd ttv
    refine ⟨_, rfl, _, rfl, _, rfl, _, rfl, _, rfl, F12, tv, td, pv, q, _, rfl, W13.fh, dtv13, dpv, hsub, fun rv drv => ?_⟩
    refine ⟨st, cc, F12, rv, sg, ks, rfl, W13, drv, htg, gks, by have := len26 ks hks; omega, fun bv be F14 H14 W14 e14 dbv gbe dbe wbe => ?_⟩
    refine ⟨F14, tv, td, pv, q, bv, be, _, rfl, W14.fh, dp_mono e14 _ _ dtv13, dp_mono e14 _ _ dpv, dbv, hsub, by omega, by omega, by omega, fun sv2 F15 H15 g15 dsv => ?_⟩
    have W15 := W14.gw g15
    have e15 := e14.trans g15.ff
    obtain ⟨gset, dset, wset⟩ := set_ok q td _ be gtd.1 gbe hsub
    -- the tags
    have dtv15 := dp_mono e15 _ _ dtv13
    obtain ⟨s0, k0, rfl, ht0, hk0⟩ := (show ∃ (s : Str) (ks : List PyData), td = .tuple [.str s, .tuple ks] ∧ tagOk s ∧ ∀ k ∈ ks, TrD 12 k from ttv)
    have m6 := ht0.2.2.2
    have l08 := ht0.2.1
    cases dtv15 with
    | @tup ta txs _ hta htx =>
    obtain ⟨x0, y0, _, _, rfl, h00, dx0, dy0⟩ := DpAll.two htx (DpAll.len htx)
    cases h00
    cases dx0
    have tag0 : ∀ {H' : Hp}, Same F15 H' → SqT K H' ta [.str s0, y0] := fun e => same_t e hta
    have at0 : atI [V.str s0, y0] 0 = some (.str s0) := atI_nat (j := 0) rfl
    refine ⟨_, rfl, ta, _, 0, _, rfl, rfl, tag0 W15.fh, at0, ?_⟩
    refine ⟨_, rfl, ta, _, 0, _, rfl, rfl, tag0 W15.fh, at0, _, rfl, st, cc, 8, rfl, W15.sa, by decide, by decide, fun m16 o16 hm160 hm161 sa16 => ?_⟩
    have W16 := W15.next sa16
    have qq := q_ok s0 m6 m16.toNat (by omega)
    refine ⟨_, m16, rfl, rfl, q_len, by omega, by omega, _, _, rfl, rfl, ?_, ?_⟩
    · rw [repS_len, q_len]
      exact sz1000 (by omega)
    refine ⟨_, rfl, ta, _, 0, _, rfl, rfl, tag0 W16.fh, at0, 1, rfl, _, rfl, sz1000 (by omega), ?_⟩
    refine ⟨_, rfl, ta, _, 0, _, rfl, rfl, tag0 W16.fh, at0, _, _, rfl, rfl, ?_, ?_⟩
    · show s0.length + 1 ≤ sizeLine
      exact sz1000 (by omega)
    refine ⟨_, rfl, ta, _, 0, _, rfl, rfl, tag0 W16.fh, at0, ⟨_, rfl⟩, _, rfl, rfl, by omega, ?_⟩
    refine ⟨by show 5 ≤ sizeLine; decide, fun p17 hp17 => ?_⟩
    obtain ⟨g17, d17⟩ := gw_lst (K := K) (xs := [.str s0, .str (s0 ++ repS "q" m16.toNat), .str (cutS s0 (some 1) none), .str (s0 ++ " "), .str (Txt.upper s0)]) W16.fh hp17 (.cons (.str _) (.cons (.str _) (.cons (.str _) (.cons (.str _) (.cons (.str _) .nil)))))
    have W17 := W16.gw g17
    have hp17F : (upd F15 p17 (.lst [.str s0, .str (s0 ++ repS "q" m16.toNat), .str (cutS s0 (some 1) none), .str (s0 ++ " "), .str (Txt.upper s0)])) p17 = some (.lst [.str s0, .str (s0 ++ repS "q" m16.toNat), .str (cutS s0 (some 1) none), .str (s0 ++ " "), .str (Txt.upper s0)]) := upd_same
    have e17 := g17.ff
    generalize upd F15 p17 (.lst [.str s0, .str (s0 ++ repS "q" m16.toNat), .str (cutS s0 (some 1) none), .str (s0 ++ " "), .str (Txt.upper s0)]) = F17 at W17 hp17F e17
    clear d17 g17
    have pok : pathOk q := ⟨by omega, fun n hn => by have := hqs n hn; omega⟩
    have dpv15 := dp_mono (e15.trans e17) _ _ dpv
    refine ⟨_, rfl, _, rfl, _, rfl, _, rfl, _, rfl, st, cc, F17, pv, q, rfl, W17, dpv15, pok, fun b1 bd1 F18 H18 W18 e18 db1 tb1 => ?_⟩
    refine ⟨_, rfl, _, rfl, st, cc, F18, pv, q, rfl, W18, dp_mono e18 _ _ dpv15, pok, fun b2 bd2 F19 H19 W19 e19 db2 tb2 => ?_⟩
    refine ⟨by show 5 ≤ sizeLine; decide, fun p20 hp20 => ?_⟩
    have e20 := e18.trans e19
    have s20 := same_new (o := HO.lst [.ref ta, sv2, pv, b1, b2]) hp20
    have W20 := W19.same s20
    refine ⟨_, rfl, p20, p17, [.ref ta, sv2, pv, b1, b2], [.str s0, .str (s0 ++ repS "q" m16.toNat), .str (cutS s0 (some 1) none), .str (s0 ++ " "), .str (Txt.upper s0)], rfl, rfl, upd_same, W20.fh _ _ (e20 _ _ hp17F), by show 10 ≤ sizeLine; decide, fun p21 hp21 => ?_⟩
    have s21 := same_new (o := HO.lst ([.ref ta, sv2, pv, b1, b2] ++ [.str s0, .str (s0 ++ repS "q" m16.toNat), .str (cutS s0 (some 1) none), .str (s0 ++ " "), .str (Txt.upper s0)])) hp21
    have W21 := W20.same s21
    have h21 : (upd (upd H19 p20 (HO.lst [.ref ta, sv2, pv, b1, b2])) p21 (HO.lst ([.ref ta, sv2, pv, b1, b2] ++ [.str s0, .str (s0 ++ repS "q" m16.toNat), .str (cutS s0 (some 1) none), .str (s0 ++ " "), .str (Txt.upper s0)]))) p21 = some (HO.lst ([.ref ta, sv2, pv, b1, b2] ++ [.str s0, .str (s0 ++ repS "q" m16.toNat), .str (cutS s0 (some 1) none), .str (s0 ++ " "), .str (Txt.upper s0)])) := upd_same
    -- what is asked besides
    have e19' : Same F15 F19 := e17.trans e20
    have dtv19 : Dp K F19 (.ref ta) (.tuple [.str s0, .tuple k0]) := dp_mono e19' _ _ (.tup hta htx)
    have dy19 := dp_mono e19' _ _ dy0
    refine ⟨_, rfl, _, rfl, by show 1 ≤ sizeLine; decide, fun p22 hp22 => ?_⟩
    obtain ⟨g22, d22⟩ := gw_lst (K := K) (xs := [.ref ta]) W21.fh hp22 (.cons dtv19 .nil)
    refine ⟨_, rfl, by show 1 ≤ sizeLine; decide, fun p23 hp23 => ?_⟩
    obtain ⟨g23, d23⟩ := gw_tup (K := K) (xs := [.ref ta]) g22.fh hp23 (.cons (dp_mono g22.ff _ _ dtv19) .nil)
    refine ⟨by show 0 ≤ sizeLine; decide, fun p24 hp24 => ?_⟩
    obtain ⟨g24, d24⟩ := gw_tup (K := K) (xs := []) (ds := []) g23.fh hp24 .nil
    have G24 := (g22.trans g23).trans g24
    have W24 := W21.gw G24
    refine ⟨_, rfl, ta, _, 1, _, rfl, rfl, same_t ((e19'.trans G24.ff).trans W24.fh) hta, atI_nat (j := 1) rfl, by show 6 ≤ sizeLine; decide, fun p25 hp25 => ?_⟩
    have s25 := same_new (o := HO.lst [.ref p22, .ref p23, .non, .ref p24, .int 0, y0]) hp25
    refine ⟨p21, p25, [.ref ta, sv2, pv, b1, b2] ++ [.str s0, .str (s0 ++ repS "q" m16.toNat), .str (cutS s0 (some 1) none), .str (s0 ++ " "), .str (Txt.upper s0)], [.ref p22, .ref p23, .non, .ref p24, .int 0, y0], rfl, rfl, s25 _ _ (G24.hh _ _ h21), upd_same, by show 16 ≤ sizeLine; decide, fun p26 hp26 => ?_⟩
    have s26 := same_new (o := HO.lst ([.ref ta, sv2, pv, b1, b2] ++ [.str s0, .str (s0 ++ repS "q" m16.toNat), .str (cutS s0 (some 1) none), .str (s0 ++ " "), .str (Txt.upper s0)] ++ [.ref p22, .ref p23, .non, .ref p24, .int 0, y0])) hp26
    have W26 := (W24.same s25).same s26
    obtain ⟨Fz, Wz, dz⟩ : ∃ Fz, Wd st cc Fz _ ∧ ∀ x ∈ (([.ref ta, sv2, pv, b1, b2] ++ [.str s0, .str (s0 ++ repS "q" m16.toNat), .str (cutS s0 (some 1) none), .str (s0 ++ " "), .str (Txt.upper s0)] ++ [.ref p22, .ref p23, .non, .ref p24, .int 0, y0]) : List V), ∃ d, Dt K Fz x d ∧ Thing d := by
      refine ⟨_, W26, ?_⟩
      have up := G24.ff
      have big : wt (.tuple [.str s0, .tuple k0]) ≤ 10000 := wtv
      have gk0 : gdAll k0 = true := gdAll_of fun k hk => (TrD.gd (hk0 k hk)).1
      have dk0 : PyData.depthAll k0 ≤ 24 := depthAll_le fun k hk => (TrD.gd (hk0 k hk)).2
      have wk0 := wt_node s0 k0
      have txtT : ∀ {G : Hp} (t : Str), gd (.str t) = true → wt (.str t) ≤ 200 → ∃ d, Dt K G (V.str t) d ∧ Thing d := fun t h1 h2 => ⟨.str t, .d (.str t), .inl ⟨h1, by rw [PyData.depth]; omega, by omega⟩⟩
      have iq := ints_ok q pok.2
      simp only [List.cons_append, List.nil_append, List.forall_mem_cons]
      refine ⟨⟨_, .d (dp_mono up _ _ dtv19), .inl ⟨gtd.1, by omega, by omega⟩⟩, ⟨_, .d (dp_mono ((e17.trans e20).trans up) _ _ dsv), .inl ⟨gset, by omega, by omega⟩⟩,
        ⟨_, .d (dp_mono (e20.trans up) _ _ dpv15), .inl ⟨?_, ?_, ?_⟩⟩, ⟨_, (db1.mono (e19.trans up)), tb1⟩, ⟨_, db2.mono up, tb2⟩,
        txtT _ (gd_tag ht0) (by rw [wt]; omega), txtT _ qq.1 qq.2, txtT _ (cut_ok s0 m6).1 (Nat.le_trans (cut_ok s0 m6).2 (by decide)), txtT _ (blank_ok s0 m6).1 (Nat.le_trans (blank_ok s0 m6).2 (by decide)), txtT _ (upper_ok s0 m6).1 (Nat.le_trans (upper_ok s0 m6).2 (by decide)),
        ⟨_, .d (dp_mono (g23.ff.trans g24.ff) _ _ d22), .inl ⟨?_, ?_, ?_⟩⟩, ⟨_, .d (dp_mono g24.ff _ _ d23), .inl ⟨?_, ?_, ?_⟩⟩, ⟨.none, .d .non, .inl ⟨rfl, by decide +kernel, by decide +kernel⟩⟩,
        ⟨_, .d d24, .inl ⟨rfl, by decide +kernel, by decide +kernel⟩⟩, ⟨.int 0, .d (.int 0), .inl ⟨by decide +kernel, by decide +kernel, by decide +kernel⟩⟩, ⟨_, .d (dp_mono up _ _ dy19), .inl ⟨?_, ?_, ?_⟩⟩, fun x hx => absurd hx List.not_mem_nil⟩
      · rw [pathD, gd]
        exact iq.1
      · rw [pathD, PyData.depth, iq.2.2]
        omega
      · rw [pathD, wt, iq.2.1]
        have := pok.1
        omega
      · rw [gd, gdAll, gdAll, gtd.1]
        rfl
      · have := gtd.2
        rw [PyData.depth, PyData.depthAll, PyData.depthAll]
        omega
      · rw [wt, wtAll, wtAll]
        omega
      · rw [gd, gdAll, gdAll, gtd.1]
        rfl
      · have := gtd.2
        rw [PyData.depth, PyData.depthAll, PyData.depthAll]
        omega
      · rw [wt, wtAll, wtAll]
        omega
      · rw [gd]
        exact gk0
      · rw [PyData.depth]
        omega
      · rw [wt]
        omega
    refine ⟨p26, rfl, ⟨_, SqL.of upd_same⟩, ?_⟩
    refine for_list (xs := ([.ref ta, sv2, pv, b1, b2] ++ [.str s0, .str (s0 ++ repS "q" m16.toNat), .str (cutS s0 (some 1) none), .str (s0 ++ " "), .str (Txt.upper s0)] ++ [.ref p22, .ref p23, .non, .ref p24, .int 0, y0])) (fun i σ H27 => ∃ (y2 y3 y4 y5 y6 y7 y8 y9 y10 y11 y12 y13 : Option V), σ = [some (.ref a), some (.ref st), y2, y3, y4, y5, y6, y7, y8, y9, y10, y11, y12, y13] ∧ Wd st cc Fz H27 ∧ H27 p26 = some (.lst ([.ref ta, sv2, pv, b1, b2] ++ [.str s0, .str (s0 ++ repS "q" m16.toNat), .str (cutS s0 (some 1) none), .str (s0 ++ " "), .str (Txt.upper s0)] ++ [.ref p22, .ref p23, .non, .ref p24, .int 0, y0])))
      ⟨_, _, _, _, _, _, _, _, _, _, _, _, rfl, Wz, upd_same⟩ (fun i σ H27 _ p => ?_) (fun i x σ H27 hx p => ?_) (fun σ H27 p => ?_)
    · obtain ⟨_, _, _, _, _, _, _, _, _, _, _, _, _, _, h⟩ := p
      exact SqL.of h
    · obtain ⟨z2, z3, z4, z5, z6, z7, z8, z9, z10, z11, z12, z13, rfl, W27, h27⟩ := p
      obtain ⟨d, hdt, hth⟩ := dz x (List.mem_of_getElem? hx)
      obtain ⟨htx2, hshow, hdep, hlen2⟩ := hth.facts
      clear hx
      -- repr
      refine ⟨_, rfl, x, d, rfl, hdt.mono W27.fh, hshow, hdep, hlen2, ?_⟩
      -- told
      refine ⟨_, rfl, x, d, rfl, hdt.mono W27.fh, htx2, fun H28 s28 => ?_⟩
      have W28 := W27.same s28
      refine ⟨_, rfl, x, d, rfl, hdt.mono W28.fh, htx2, fun H29 s29 => ?_⟩
      have W29 := W28.same s29
      refine ⟨_, rfl, x, d, rfl, hdt.mono W29.fh, htx2, fun H30 s30 => ?_⟩
      have W30 := W29.same s30
      refine ⟨by show 3 ≤ sizeLine; decide, fun p31 hp31 => ?_⟩
      have s31 := same_new (o := HO.lst [V.bl (isTag d), V.bl (isTreeD d), V.bl (isPath d)]) hp31
      have W31 := W30.same s31
      have h31 : (upd H30 p31 (HO.lst [V.bl (isTag d), V.bl (isTreeD d), V.bl (isPath d)])) p31 = some (HO.lst [V.bl (isTag d), V.bl (isTreeD d), V.bl (isPath d)]) := upd_same
      have u31 := ((s28.trans s29).trans s30).trans s31
      generalize upd H30 p31 (HO.lst [V.bl (isTag d), V.bl (isTreeD d), V.bl (isPath d)]) = H31 at W31 h31 u31
      -- due
      refine ⟨_, rfl, x, d, rfl, hdt.mono W31.fh, htx2, fun H32 s32 => ?_⟩
      have W32 := W31.same s32
      refine ⟨_, rfl, x, d, 12, rfl, hdt.mono W32.fh, htx2, by decide, by decide, fun H33 s33 => ⟨_, _, rfl, rfl, ?_⟩⟩
      have W33 := W32.same s33
      refine ⟨_, rfl, x, d, rfl, hdt.mono W33.fh, htx2, fun H34 s34 => ?_⟩
      have W34 := W33.same s34
      refine ⟨by show 3 ≤ sizeLine; decide, fun p35 hp35 => ?_⟩
      have eb : V.bl (decide (cntB 12 d ≤ 60)) = V.bl (isTreeD d) := by rw [tree_cnt]
      have s35 := same_new (o := HO.lst [V.bl (isTag d), V.bl (decide (cntB 12 d ≤ 60)), V.bl (isPath d)]) hp35
      have W35 := W34.same s35
      have h35 : (upd H34 p35 (HO.lst [V.bl (isTag d), V.bl (decide (cntB 12 d ≤ 60)), V.bl (isPath d)])) p35 = some (HO.lst [V.bl (isTag d), V.bl (decide (cntB 12 d ≤ 60)), V.bl (isPath d)]) := upd_same
      have u35 := ((s32.trans s33).trans s34).trans s35
      have h31' := u35 _ _ h31
      -- all are truths
      refine ⟨_, rfl, p31, rfl, ⟨_, SqL.of h31'⟩, fun D hD => ?_⟩
      refine lc_pure (n := 3) (G := fun H => SqL K H p31 [V.bl (isTag d), V.bl (isTreeD d), V.bl (isPath d)]) (fn_list (xs := [V.bl (isTag d), V.bl (isTreeD d), V.bl (isPath d)])) (fun _ => false) (fun _ => .int 1) (fun _ e => same_l e (SqL.of h31')) (by decide) (fun x => rfl) hD (fun j H3 hj3 _ Qt k => ?_) (fun j H3 hj3 hf _ Qe k => nomatch hf) (fun H36 s36 h36 => ?_)
      · obtain ⟨b, hb⟩ : ∃ b : Bool, [V.bl (isTag d), V.bl (isTreeD d), V.bl (isPath d)].getD j .non = .bl b := by
          match j, hj3 with
          | 0, _ => exact ⟨_, rfl⟩
          | 1, _ => exact ⟨_, rfl⟩
          | 2, _ => exact ⟨_, rfl⟩
        rw [hb]
        exact ⟨_, rfl, .bl b, .ty "bool", _, _, _, rfl, .ty "bool", ty_data (.d (.bl b)), kit_ty (kit_bl (.bool b)), _, rfl, k H3 (Same.refl _)⟩
      have W36 := W35.same s36
      have h36' : H36 D = some (.lst []) := h36
      refine ⟨by show 0 ≤ sizeLine; decide, fun p37 hp37 => ?_⟩
      have s37 := same_new (o := HO.lst []) hp37
      have W37 := W36.same s37
      refine ⟨.list [], .list [], .lst (SqL.of (s37 _ _ h36')) .nil, .lst (SqL.of upd_same) .nil, rfl, rfl, _, rfl, ?_⟩
      rw [show PyData.eqv (.list []) (.list []) = true by decide +kernel]
      refine iteF ?_
      have u37 := (s35.trans s36).trans s37
      have h31'' := s37 _ _ (s36 _ _ h31')
      have h35'' := s37 _ _ (s36 _ _ h35)
      refine ⟨_, rfl, _, rfl, .list [.bool (isTag d), .bool (isTreeD d), .bool (isPath d)], .list [.bool (isTag d), .bool (isTreeD d), .bool (isPath d)], .lst (SqL.of h31'') (.cons (.bl _) (.cons (.bl _) (.cons (.bl _) .nil))), .lst (SqL.of h35'') (.cons (.bl _) (.cons (by rw [eb]; exact .bl _) (.cons (.bl _) .nil))), shaped3 _ _ _, shaped3 _ _ _, _, rfl, ?_⟩
      rw [eqv3]
      refine iteF ?_
      refine ⟨_, rfl, x, d, rfl, hdt.mono W37.fh, hshow, hdep, hlen2, _, rfl, rfl, _, rfl, ?_⟩
      refine iteN (fun z => absurd rfl z) (fun _ => ?_)
      refine ⟨_, _, _, _, _, _, _, _, _, _, _, _, rfl, W37, ?_⟩
      exact s37 _ _ (s36 _ _ (u35 _ _ (u31 _ _ h27)))
    · obtain ⟨z2, z3, z4, z5, z6, z7, z8, z9, z10, z11, z12, z13, rfl, W27, h27⟩ := p
      exact ⟨Fz, z2, z3, z4, z5, z6, z7, z8, z9, z10, z11, z12, z13, rfl, W27⟩
  · obtain ⟨F6, y2, y3, y4, y5, y6, y7, y8, y9, y10, y11, y12, y13, rfl, W6⟩ := p
    rfl
end
end Tl

set_option Elab.async false
set_option linter.all false
set_option maxRecDepth 100000
set_option maxHeartbeats 16000000
namespace Tl
open PySem L2
section
variable {P : Program} {w : World} {K : PySem.W.Frag} {mg : Str → Option Value}
/-- a def as the top has left it -/
structure At (K : PySem.W.Frag) (mg : Str → Option Value) (x : Str) (st : Stmt) where
  f : Addr
  fd : FuncData
  F : Fun K x x st f fd
  m : mg x = some (.ref f)
/-- all defs of the text -/
structure Defs (K : PySem.W.Frag) (mg : Str → Option Value) where
  d_is_count : At K mg "is_count" sIsCount
  d_is_number : At K mg "is_number" sIsNumber
  d_is_tag : At K mg "is_tag" sIsTag
  d_is_path : At K mg "is_path" sIsPath
  d_is_tree : At K mg "is_tree" sIsTree
  d_room_behind : At K mg "room_behind" sRoom
  d_is_tag_and_kids : At K mg "is_tag_and_kids" sTagKids
  d_law_state : At K mg "_law_state" sState
  d_law_next : At K mg "_law_next" sNext
  d_law_whole : At K mg "_law_whole" sWhole
  d_law_tree : At K mg "_law_tree" sTreeL
  d_law_places : At K mg "_law_places" sPlaces
  d_law_reach : At K mg "_law_reach" sReach
  d_law_is_tag : At K mg "_law_is_tag" sLTag
  d_law_count : At K mg "_law_count" sLCount
  d_law_is_path : At K mg "_law_is_path" sLPath
  d_law_great : At K mg "_law_great" sGreat
  d_law_set : At K mg "_law_set" sSet
  d_law_bent_part : At K mg "_law_bent_part" sBPart
  d_law_bent_path : At K mg "_law_bent_path" sBPath
  d_law_shared : At K mg "_law_shared" sShared
  d_law : At K mg "law" sLaw
def use {base : Heap} {x : Str} {st : Stmt} {ps : List Str} {k : Nat} {sp : Sp} (d : At K mg x st) (b : Binds K d.fd ps []) (ok : FnOk P w K mg base CX0 k d.f d.fd ps sp) : Use P w K mg base x ps k sp := ⟨d.f, d.fd, ok, d.m, d.F.kp, b⟩
def calls (D : Defs K mg) (T : Bl mg) (C : Cs mg) (base : Heap) : Calls P w K mg base :=
  let uCount := use (P := P) (w := w) (base := base) D.d_is_count (D.d_is_count.F.binds (ps := ["thing"]) fun _ _ _ _ _ _ us hl => match us, hl with | [_], _ => rfl) (ok_count (k := 0) D.d_is_count.F T)
  let uNumber := use (P := P) (w := w) (base := base) D.d_is_number (D.d_is_number.F.binds (ps := ["thing", "most"]) fun _ _ _ _ _ _ us hl => match us, hl with | [_, _], _ => rfl) (ok_number (k := 1) D.d_is_number.F uCount (Nat.le_refl _) T)
  let uTag := use (P := P) (w := w) (base := base) D.d_is_tag (D.d_is_tag.F.binds (ps := ["thing"]) fun _ _ _ _ _ _ us hl => match us, hl with | [_], _ => rfl) (ok_tag (k := 0) D.d_is_tag.F T C)
  let uPath := use (P := P) (w := w) (base := base) D.d_is_path (D.d_is_path.F.binds (ps := ["thing"]) fun _ _ _ _ _ _ us hl => match us, hl with | [_], _ => rfl) (ok_path (k := 2) D.d_is_path.F uNumber (Nat.le_refl _) T C)
  let uTagKids := use (P := P) (w := w) (base := base) D.d_is_tag_and_kids (D.d_is_tag_and_kids.F.binds (ps := ["thing"]) fun _ _ _ _ _ _ us hl => match us, hl with | [_], _ => rfl) (ok_tagKids (k := 1) D.d_is_tag_and_kids.F uTag (Nat.le_refl _) T)
  let uRoom := use (P := P) (w := w) (base := base) D.d_room_behind (D.d_room_behind.F.binds (ps := ["thing", "levels", "room"]) fun _ _ _ _ _ _ us hl => match us, hl with | [_, _, _], _ => rfl) (ok_room D.d_room_behind.F D.d_room_behind.m uTagKids (Nat.le_refl _) T 13)
  let uTree := use (P := P) (w := w) (base := base) D.d_is_tree (D.d_is_tree.F.binds (ps := ["thing"]) fun _ _ _ _ _ _ us hl => match us, hl with | [_], _ => rfl) (ok_tree (k := 15) D.d_is_tree.F uRoom (Nat.le_refl _) C)
  let uState := use (P := P) (w := w) (base := base) D.d_law_state (D.d_law_state.F.binds (ps := ["_law_script"]) fun _ _ _ _ _ _ us hl => match us, hl with | [_], _ => rfl) (ok_state (k := 0) D.d_law_state.F T)
  let uNext := use (P := P) (w := w) (base := base) D.d_law_next (D.d_law_next.F.binds (ps := ["_law_state_here", "_law_below"]) fun _ _ _ _ _ _ us hl => match us, hl with | [_, _], _ => rfl) (ok_next (k := 0) D.d_law_next.F T)
  let uWhole := use (P := P) (w := w) (base := base) D.d_law_whole (D.d_law_whole.F.binds (ps := ["_law_found"]) fun _ _ _ _ _ _ us hl => match us, hl with | [_], _ => rfl) (ok_whole (k := 0) D.d_law_whole.F T)
  let uTreeL := use (P := P) (w := w) (base := base) D.d_law_tree (D.d_law_tree.F.binds (ps := ["_law_state_here", "_law_most"]) fun _ _ _ _ _ _ us hl => match us, hl with | [_, _], _ => rfl) (ok_treeL (k := 1) D.d_law_tree.F uNext (Nat.le_refl _) T)
  let uPlaces := use (P := P) (w := w) (base := base) D.d_law_places (D.d_law_places.F.binds (ps := ["_law_tree_here", "_law_path"]) fun _ _ _ _ _ _ us hl => match us, hl with | [_, _], _ => rfl) (ok_places D.d_law_places.F D.d_law_places.m T 13)
  let uReach := use (P := P) (w := w) (base := base) D.d_law_reach (D.d_law_reach.F.binds (ps := ["_law_tree_here", "_law_path"]) fun _ _ _ _ _ _ us hl => match us, hl with | [_, _], _ => rfl) (ok_reach (k := 0) D.d_law_reach.F T)
  let uLTag := use (P := P) (w := w) (base := base) D.d_law_is_tag (D.d_law_is_tag.F.binds (ps := ["_law_thing"]) fun _ _ _ _ _ _ us hl => match us, hl with | [_], _ => rfl) (ok_ltag (k := 0) D.d_law_is_tag.F T)
  let uLCount := use (P := P) (w := w) (base := base) D.d_law_count (D.d_law_count.F.binds (ps := ["_law_thing", "_law_level"]) fun _ _ _ _ _ _ us hl => match us, hl with | [_, _], _ => rfl) (ok_lcount D.d_law_count.F D.d_law_count.m uLTag (by decide) T 13)
  let uLPath := use (P := P) (w := w) (base := base) D.d_law_is_path (D.d_law_is_path.F.binds (ps := ["_law_thing"]) fun _ _ _ _ _ _ us hl => match us, hl with | [_], _ => rfl) (ok_lpath (k := 1) D.d_law_is_path.F uWhole (Nat.le_refl _) T)
  let uGreat := use (P := P) (w := w) (base := base) D.d_law_great (D.d_law_great.F.binds (ps := ["_law_state_here"]) fun _ _ _ _ _ _ us hl => match us, hl with | [_], _ => rfl) (ok_great (k := 1) D.d_law_great.F uNext (Nat.le_refl _) T)
  let uSet := use (P := P) (w := w) (base := base) D.d_law_set (D.d_law_set.F.binds (ps := ["_law_tree_here", "_law_path", "_law_thing"]) fun _ _ _ _ _ _ us hl => match us, hl with | [_, _, _], _ => rfl) (ok_set D.d_law_set.F D.d_law_set.m T 14)
  let uBPart := use (P := P) (w := w) (base := base) D.d_law_bent_part (D.d_law_bent_part.F.binds (ps := ["_law_state_here", "_law_part"]) fun _ _ _ _ _ _ us hl => match us, hl with | [_, _], _ => rfl) (ok_bpart (k := 1) D.d_law_bent_part.F uNext (Nat.le_refl _) T)
  let uBPath := use (P := P) (w := w) (base := base) D.d_law_bent_path (D.d_law_bent_path.F.binds (ps := ["_law_state_here", "_law_path"]) fun _ _ _ _ _ _ us hl => match us, hl with | [_, _], _ => rfl) (ok_bpath (k := 1) D.d_law_bent_path.F uNext (Nat.le_refl _) T)
  let uShared := use (P := P) (w := w) (base := base) D.d_law_shared (D.d_law_shared.F.binds (ps := ["_law_wide"]) fun _ _ _ _ _ _ us hl => match us, hl with | [_], _ => rfl) (ok_shared (k := 0) D.d_law_shared.F T)
  ⟨uTag, uTree, uPath, uState, uNext, uTreeL, uPlaces, uReach, uLTag, uLCount, uLPath, uGreat, uSet, uBPart, uBPath, uShared⟩
/-- one def, from what the top has written -/
def at_mk {h : Heap} {x : Str} {st : Stmt} (X : K.In h) (G : h.Ns mainGlobals mg) {f : Addr} {od an : Option Addr} {sl : Array (Option Value)} {oc kV dc pm cd ct : Value} (a : PySem.W.nsIn K mainGlobals x = some (some (.ref f)))
    (l : K.lookup f = some ⟨oc, od, .func (PySem.W.fnOf x x (defArgs st) (defBody st) (defScope st) .none kV dc pm an cd ct), sl⟩) (c : PySem.W.codeIn K cd x = true) (k : PySem.W.keepIn K (.ref f) = true) : At K mg x st :=
  ⟨f, _, fun_mk (st := st) l c k, PySem.W.mg_of X G a⟩
end
theorem all_mk {P : Program} {w : World} {K : PySem.W.Frag} {h : Heap} {mg : Str → Option Value} {fa : Addr} (X : K.In h) (G : h.Ns mainGlobals mg) (hfa : mg "law" = some (.ref fa)) {t1 t2 t3 : Tok}
    {f1 : Addr} {od1 an1 : Option Addr} {sl1 : Array (Option Value)} {oc1 kV1 dc1 pm1 cd1 ct1 : Value}
    {f2 : Addr} {od2 an2 : Option Addr} {sl2 : Array (Option Value)} {oc2 kV2 dc2 pm2 cd2 ct2 : Value}
    {f3 : Addr} {od3 an3 : Option Addr} {sl3 : Array (Option Value)} {oc3 kV3 dc3 pm3 cd3 ct3 : Value}
    {f4 : Addr} {od4 an4 : Option Addr} {sl4 : Array (Option Value)} {oc4 kV4 dc4 pm4 cd4 ct4 : Value}
    {f5 : Addr} {od5 an5 : Option Addr} {sl5 : Array (Option Value)} {oc5 kV5 dc5 pm5 cd5 ct5 : Value}
    {f6 : Addr} {od6 an6 : Option Addr} {sl6 : Array (Option Value)} {oc6 kV6 dc6 pm6 cd6 ct6 : Value}
    {f7 : Addr} {od7 an7 : Option Addr} {sl7 : Array (Option Value)} {oc7 kV7 dc7 pm7 cd7 ct7 : Value}
    {f8 : Addr} {od8 an8 : Option Addr} {sl8 : Array (Option Value)} {oc8 kV8 dc8 pm8 cd8 ct8 : Value}
    {f9 : Addr} {od9 an9 : Option Addr} {sl9 : Array (Option Value)} {oc9 kV9 dc9 pm9 cd9 ct9 : Value}
    {f10 : Addr} {od10 an10 : Option Addr} {sl10 : Array (Option Value)} {oc10 kV10 dc10 pm10 cd10 ct10 : Value}
    {f11 : Addr} {od11 an11 : Option Addr} {sl11 : Array (Option Value)} {oc11 kV11 dc11 pm11 cd11 ct11 : Value}
    {f12 : Addr} {od12 an12 : Option Addr} {sl12 : Array (Option Value)} {oc12 kV12 dc12 pm12 cd12 ct12 : Value}
    {f13 : Addr} {od13 an13 : Option Addr} {sl13 : Array (Option Value)} {oc13 kV13 dc13 pm13 cd13 ct13 : Value}
    {f14 : Addr} {od14 an14 : Option Addr} {sl14 : Array (Option Value)} {oc14 kV14 dc14 pm14 cd14 ct14 : Value}
    {f15 : Addr} {od15 an15 : Option Addr} {sl15 : Array (Option Value)} {oc15 kV15 dc15 pm15 cd15 ct15 : Value}
    {f16 : Addr} {od16 an16 : Option Addr} {sl16 : Array (Option Value)} {oc16 kV16 dc16 pm16 cd16 ct16 : Value}
    {f17 : Addr} {od17 an17 : Option Addr} {sl17 : Array (Option Value)} {oc17 kV17 dc17 pm17 cd17 ct17 : Value}
    {f18 : Addr} {od18 an18 : Option Addr} {sl18 : Array (Option Value)} {oc18 kV18 dc18 pm18 cd18 ct18 : Value}
    {f19 : Addr} {od19 an19 : Option Addr} {sl19 : Array (Option Value)} {oc19 kV19 dc19 pm19 cd19 ct19 : Value}
    {f20 : Addr} {od20 an20 : Option Addr} {sl20 : Array (Option Value)} {oc20 kV20 dc20 pm20 cd20 ct20 : Value}
    {f21 : Addr} {od21 an21 : Option Addr} {sl21 : Array (Option Value)} {oc21 kV21 dc21 pm21 cd21 ct21 : Value}
    {f22 : Addr} {od22 an22 : Option Addr} {sl22 : Array (Option Value)} {oc22 kV22 dc22 pm22 cd22 ct22 : Value}
    (a1 : PySem.W.nsIn K mainGlobals "is_count" = some (some (.ref f1))) (l1 : K.lookup f1 = some ⟨oc1, od1, .func (PySem.W.fnOf "is_count" "is_count" (defArgs sIsCount) (defBody sIsCount) (defScope sIsCount) .none kV1 dc1 pm1 an1 cd1 ct1), sl1⟩) (c1 : PySem.W.codeIn K cd1 "is_count" = true) (k1 : PySem.W.keepIn K (.ref f1) = true)
    (a2 : PySem.W.nsIn K mainGlobals "is_number" = some (some (.ref f2))) (l2 : K.lookup f2 = some ⟨oc2, od2, .func (PySem.W.fnOf "is_number" "is_number" (defArgs sIsNumber) (defBody sIsNumber) (defScope sIsNumber) .none kV2 dc2 pm2 an2 cd2 ct2), sl2⟩) (c2 : PySem.W.codeIn K cd2 "is_number" = true) (k2 : PySem.W.keepIn K (.ref f2) = true)
    (a3 : PySem.W.nsIn K mainGlobals "is_tag" = some (some (.ref f3))) (l3 : K.lookup f3 = some ⟨oc3, od3, .func (PySem.W.fnOf "is_tag" "is_tag" (defArgs sIsTag) (defBody sIsTag) (defScope sIsTag) .none kV3 dc3 pm3 an3 cd3 ct3), sl3⟩) (c3 : PySem.W.codeIn K cd3 "is_tag" = true) (k3 : PySem.W.keepIn K (.ref f3) = true)
    (a4 : PySem.W.nsIn K mainGlobals "is_path" = some (some (.ref f4))) (l4 : K.lookup f4 = some ⟨oc4, od4, .func (PySem.W.fnOf "is_path" "is_path" (defArgs sIsPath) (defBody sIsPath) (defScope sIsPath) .none kV4 dc4 pm4 an4 cd4 ct4), sl4⟩) (c4 : PySem.W.codeIn K cd4 "is_path" = true) (k4 : PySem.W.keepIn K (.ref f4) = true)
    (a5 : PySem.W.nsIn K mainGlobals "is_tree" = some (some (.ref f5))) (l5 : K.lookup f5 = some ⟨oc5, od5, .func (PySem.W.fnOf "is_tree" "is_tree" (defArgs sIsTree) (defBody sIsTree) (defScope sIsTree) .none kV5 dc5 pm5 an5 cd5 ct5), sl5⟩) (c5 : PySem.W.codeIn K cd5 "is_tree" = true) (k5 : PySem.W.keepIn K (.ref f5) = true)
    (a6 : PySem.W.nsIn K mainGlobals "room_behind" = some (some (.ref f6))) (l6 : K.lookup f6 = some ⟨oc6, od6, .func (PySem.W.fnOf "room_behind" "room_behind" (defArgs sRoom) (defBody sRoom) (defScope sRoom) .none kV6 dc6 pm6 an6 cd6 ct6), sl6⟩) (c6 : PySem.W.codeIn K cd6 "room_behind" = true) (k6 : PySem.W.keepIn K (.ref f6) = true)
    (a7 : PySem.W.nsIn K mainGlobals "is_tag_and_kids" = some (some (.ref f7))) (l7 : K.lookup f7 = some ⟨oc7, od7, .func (PySem.W.fnOf "is_tag_and_kids" "is_tag_and_kids" (defArgs sTagKids) (defBody sTagKids) (defScope sTagKids) .none kV7 dc7 pm7 an7 cd7 ct7), sl7⟩) (c7 : PySem.W.codeIn K cd7 "is_tag_and_kids" = true) (k7 : PySem.W.keepIn K (.ref f7) = true)
    (a8 : PySem.W.nsIn K mainGlobals "_law_state" = some (some (.ref f8))) (l8 : K.lookup f8 = some ⟨oc8, od8, .func (PySem.W.fnOf "_law_state" "_law_state" (defArgs sState) (defBody sState) (defScope sState) .none kV8 dc8 pm8 an8 cd8 ct8), sl8⟩) (c8 : PySem.W.codeIn K cd8 "_law_state" = true) (k8 : PySem.W.keepIn K (.ref f8) = true)
    (a9 : PySem.W.nsIn K mainGlobals "_law_next" = some (some (.ref f9))) (l9 : K.lookup f9 = some ⟨oc9, od9, .func (PySem.W.fnOf "_law_next" "_law_next" (defArgs sNext) (defBody sNext) (defScope sNext) .none kV9 dc9 pm9 an9 cd9 ct9), sl9⟩) (c9 : PySem.W.codeIn K cd9 "_law_next" = true) (k9 : PySem.W.keepIn K (.ref f9) = true)
    (a10 : PySem.W.nsIn K mainGlobals "_law_whole" = some (some (.ref f10))) (l10 : K.lookup f10 = some ⟨oc10, od10, .func (PySem.W.fnOf "_law_whole" "_law_whole" (defArgs sWhole) (defBody sWhole) (defScope sWhole) .none kV10 dc10 pm10 an10 cd10 ct10), sl10⟩) (c10 : PySem.W.codeIn K cd10 "_law_whole" = true) (k10 : PySem.W.keepIn K (.ref f10) = true)
    (a11 : PySem.W.nsIn K mainGlobals "_law_tree" = some (some (.ref f11))) (l11 : K.lookup f11 = some ⟨oc11, od11, .func (PySem.W.fnOf "_law_tree" "_law_tree" (defArgs sTreeL) (defBody sTreeL) (defScope sTreeL) .none kV11 dc11 pm11 an11 cd11 ct11), sl11⟩) (c11 : PySem.W.codeIn K cd11 "_law_tree" = true) (k11 : PySem.W.keepIn K (.ref f11) = true)
    (a12 : PySem.W.nsIn K mainGlobals "_law_places" = some (some (.ref f12))) (l12 : K.lookup f12 = some ⟨oc12, od12, .func (PySem.W.fnOf "_law_places" "_law_places" (defArgs sPlaces) (defBody sPlaces) (defScope sPlaces) .none kV12 dc12 pm12 an12 cd12 ct12), sl12⟩) (c12 : PySem.W.codeIn K cd12 "_law_places" = true) (k12 : PySem.W.keepIn K (.ref f12) = true)
    (a13 : PySem.W.nsIn K mainGlobals "_law_reach" = some (some (.ref f13))) (l13 : K.lookup f13 = some ⟨oc13, od13, .func (PySem.W.fnOf "_law_reach" "_law_reach" (defArgs sReach) (defBody sReach) (defScope sReach) .none kV13 dc13 pm13 an13 cd13 ct13), sl13⟩) (c13 : PySem.W.codeIn K cd13 "_law_reach" = true) (k13 : PySem.W.keepIn K (.ref f13) = true)
    (a14 : PySem.W.nsIn K mainGlobals "_law_is_tag" = some (some (.ref f14))) (l14 : K.lookup f14 = some ⟨oc14, od14, .func (PySem.W.fnOf "_law_is_tag" "_law_is_tag" (defArgs sLTag) (defBody sLTag) (defScope sLTag) .none kV14 dc14 pm14 an14 cd14 ct14), sl14⟩) (c14 : PySem.W.codeIn K cd14 "_law_is_tag" = true) (k14 : PySem.W.keepIn K (.ref f14) = true)
    (a15 : PySem.W.nsIn K mainGlobals "_law_count" = some (some (.ref f15))) (l15 : K.lookup f15 = some ⟨oc15, od15, .func (PySem.W.fnOf "_law_count" "_law_count" (defArgs sLCount) (defBody sLCount) (defScope sLCount) .none kV15 dc15 pm15 an15 cd15 ct15), sl15⟩) (c15 : PySem.W.codeIn K cd15 "_law_count" = true) (k15 : PySem.W.keepIn K (.ref f15) = true)
    (a16 : PySem.W.nsIn K mainGlobals "_law_is_path" = some (some (.ref f16))) (l16 : K.lookup f16 = some ⟨oc16, od16, .func (PySem.W.fnOf "_law_is_path" "_law_is_path" (defArgs sLPath) (defBody sLPath) (defScope sLPath) .none kV16 dc16 pm16 an16 cd16 ct16), sl16⟩) (c16 : PySem.W.codeIn K cd16 "_law_is_path" = true) (k16 : PySem.W.keepIn K (.ref f16) = true)
    (a17 : PySem.W.nsIn K mainGlobals "_law_great" = some (some (.ref f17))) (l17 : K.lookup f17 = some ⟨oc17, od17, .func (PySem.W.fnOf "_law_great" "_law_great" (defArgs sGreat) (defBody sGreat) (defScope sGreat) .none kV17 dc17 pm17 an17 cd17 ct17), sl17⟩) (c17 : PySem.W.codeIn K cd17 "_law_great" = true) (k17 : PySem.W.keepIn K (.ref f17) = true)
    (a18 : PySem.W.nsIn K mainGlobals "_law_set" = some (some (.ref f18))) (l18 : K.lookup f18 = some ⟨oc18, od18, .func (PySem.W.fnOf "_law_set" "_law_set" (defArgs sSet) (defBody sSet) (defScope sSet) .none kV18 dc18 pm18 an18 cd18 ct18), sl18⟩) (c18 : PySem.W.codeIn K cd18 "_law_set" = true) (k18 : PySem.W.keepIn K (.ref f18) = true)
    (a19 : PySem.W.nsIn K mainGlobals "_law_bent_part" = some (some (.ref f19))) (l19 : K.lookup f19 = some ⟨oc19, od19, .func (PySem.W.fnOf "_law_bent_part" "_law_bent_part" (defArgs sBPart) (defBody sBPart) (defScope sBPart) .none kV19 dc19 pm19 an19 cd19 ct19), sl19⟩) (c19 : PySem.W.codeIn K cd19 "_law_bent_part" = true) (k19 : PySem.W.keepIn K (.ref f19) = true)
    (a20 : PySem.W.nsIn K mainGlobals "_law_bent_path" = some (some (.ref f20))) (l20 : K.lookup f20 = some ⟨oc20, od20, .func (PySem.W.fnOf "_law_bent_path" "_law_bent_path" (defArgs sBPath) (defBody sBPath) (defScope sBPath) .none kV20 dc20 pm20 an20 cd20 ct20), sl20⟩) (c20 : PySem.W.codeIn K cd20 "_law_bent_path" = true) (k20 : PySem.W.keepIn K (.ref f20) = true)
    (a21 : PySem.W.nsIn K mainGlobals "_law_shared" = some (some (.ref f21))) (l21 : K.lookup f21 = some ⟨oc21, od21, .func (PySem.W.fnOf "_law_shared" "_law_shared" (defArgs sShared) (defBody sShared) (defScope sShared) .none kV21 dc21 pm21 an21 cd21 ct21), sl21⟩) (c21 : PySem.W.codeIn K cd21 "_law_shared" = true) (k21 : PySem.W.keepIn K (.ref f21) = true)
    (a22 : PySem.W.nsIn K mainGlobals "law" = some (some (.ref f22))) (l22 : K.lookup f22 = some ⟨oc22, od22, .func (PySem.W.fnOf "law" "law" (defArgs sLaw) (defBody sLaw) (defScope sLaw) .none kV22 dc22 pm22 an22 cd22 ct22), sl22⟩) (c22 : PySem.W.codeIn K cd22 "law" = true) (k22 : PySem.W.keepIn K (.ref f22) = true)
    (z1 : PySem.W.nsIn K mainGlobals "isinstance" = some none)
    (z2 : PySem.W.nsIn K mainGlobals "int" = some none)
    (z3 : PySem.W.nsIn K mainGlobals "bool" = some none)
    (z4 : PySem.W.nsIn K mainGlobals "str" = some none)
    (z5 : PySem.W.nsIn K mainGlobals "tuple" = some none)
    (z6 : PySem.W.nsIn K mainGlobals "list" = some none)
    (z7 : PySem.W.nsIn K mainGlobals "len" = some none)
    (z8 : PySem.W.nsIn K mainGlobals "all" = some none)
    (z9 : PySem.W.nsIn K mainGlobals "repr" = some none)
    (z10 : PySem.W.nsIn K mainGlobals "max" = some none)
    (z11 : PySem.W.nsIn K mainGlobals "range" = some none)
    (z12 : PySem.W.nsIn K mainGlobals "enumerate" = some none)
    (n1 : PySem.W.nsIn K mainGlobals "SIZE" = some (some (.int 60 t1)))
    (n2 : PySem.W.nsIn K mainGlobals "DEPTH" = some (some (.int 12 t2)))
    (n3 : PySem.W.nsIn K mainGlobals "SIGNS" = some (some (.int 8 t3)))
    {s₁ : Shared} {base : Heap} {H : Hp} {a : Addr} {ns : List Int} (hS : SqL K H a (ns.map V.int)) (e0 : Env0 P w K mg base callerA [] s₁ H) :
    codeAny (model P w) callerA (.call (.ref fa) ⟨[.ref a], []⟩) (CR CX0 [] P w H s₁ (fun v _ => v = V.bl true) fun _ _ _ => False) s₁ := by
  have T : Bl mg := ⟨PySem.W.mg_none_of X G z1, PySem.W.mg_none_of X G z2, PySem.W.mg_none_of X G z3, PySem.W.mg_none_of X G z4, PySem.W.mg_none_of X G z5, PySem.W.mg_none_of X G z6, PySem.W.mg_none_of X G z7, PySem.W.mg_none_of X G z8, PySem.W.mg_none_of X G z9, PySem.W.mg_none_of X G z10, PySem.W.mg_none_of X G z11, PySem.W.mg_none_of X G z12⟩
  have C : Cs mg := ⟨⟨_, PySem.W.mg_of X G n1⟩, ⟨_, PySem.W.mg_of X G n2⟩, ⟨_, PySem.W.mg_of X G n3⟩⟩
  have D : Nonempty (Defs K mg) := ⟨⟨at_mk X G a1 l1 c1 k1, at_mk X G a2 l2 c2 k2, at_mk X G a3 l3 c3 k3, at_mk X G a4 l4 c4 k4, at_mk X G a5 l5 c5 k5, at_mk X G a6 l6 c6 k6, at_mk X G a7 l7 c7 k7, at_mk X G a8 l8 c8 k8, at_mk X G a9 l9 c9 k9, at_mk X G a10 l10 c10 k10, at_mk X G a11 l11 c11 k11, at_mk X G a12 l12 c12 k12, at_mk X G a13 l13 c13 k13, at_mk X G a14 l14 c14 k14, at_mk X G a15 l15 c15 k15, at_mk X G a16 l16 c16 k16, at_mk X G a17 l17 c17 k17, at_mk X G a18 l18 c18 k18, at_mk X G a19 l19 c19 k19, at_mk X G a20 l20 c20 k20, at_mk X G a21 l21 c21 k21, at_mk X G a22 l22 c22 k22⟩⟩
  obtain ⟨D⟩ := D
  have e : D.d_law.f = fa := by
    have := hfa.symm.trans D.d_law.m
    cases this
    rfl
  rw [← e]
  exact ok_law D.d_law.F T C (calls D T C base) hS e0
end Tl

open PySem PySem.W PyProof.Rows
set_option Elab.async false
set_option maxRecDepth 100000 in
set_option maxHeartbeats 0 in
theorem PySem.Challenge.cw_treelore_k01_tags_trees_paths_holds : PySem.Challenge.rw_treelore_k01_tags_trees_paths.Holds := by
  w_on; o_law; k_head; (case hw => w_witness2)
  k_fill
  refine Tl.walk_at_top (l := PySem.Challenge.rw_treelore_k01_tags_trees_paths) (n := 63) rfl (by decide) rfl (fun w h Y => PySem.W.kIn_of Y) ?F
  case F =>
    intro w mg fa h KX G hmg s₁ base H a ns hlen hKb hNb hS e0
    refine' Tl.all_mk KX G hmg ?a1 ?l1 ?c1 ?k1 ?a2 ?l2 ?c2 ?k2 ?a3 ?l3 ?c3 ?k3 ?a4 ?l4 ?c4 ?k4 ?a5 ?l5 ?c5 ?k5 ?a6 ?l6 ?c6 ?k6 ?a7 ?l7 ?c7 ?k7 ?a8 ?l8 ?c8 ?k8 ?a9 ?l9 ?c9 ?k9 ?a10 ?l10 ?c10 ?k10 ?a11 ?l11 ?c11 ?k11 ?a12 ?l12 ?c12 ?k12 ?a13 ?l13 ?c13 ?k13 ?a14 ?l14 ?c14 ?k14 ?a15 ?l15 ?c15 ?k15 ?a16 ?l16 ?c16 ?k16 ?a17 ?l17 ?c17 ?k17 ?a18 ?l18 ?c18 ?k18 ?a19 ?l19 ?c19 ?k19 ?a20 ?l20 ?c20 ?k20 ?a21 ?l21 ?c21 ?k21 ?a22 ?l22 ?c22 ?k22 ?z1 ?z2 ?z3 ?z4 ?z5 ?z6 ?z7 ?z8 ?z9 ?z10 ?z11 ?z12 ?n1 ?n2 ?n3 hS e0
    (case a1 => k_is)
    (case l1 => k_is)
    (case c1 => k_is)
    (case k1 => k_is)
    (case a2 => k_is)
    (case l2 => k_is)
    (case c2 => k_is)
    (case k2 => k_is)
    (case a3 => k_is)
    (case l3 => k_is)
    (case c3 => k_is)
    (case k3 => k_is)
    (case a4 => k_is)
    (case l4 => k_is)
    (case c4 => k_is)
    (case k4 => k_is)
    (case a5 => k_is)
    (case l5 => k_is)
    (case c5 => k_is)
    (case k5 => k_is)
    (case a6 => k_is)
    (case l6 => k_is)
    (case c6 => k_is)
    (case k6 => k_is)
    (case a7 => k_is)
    (case l7 => k_is)
    (case c7 => k_is)
    (case k7 => k_is)
    (case a8 => k_is)
    (case l8 => k_is)
    (case c8 => k_is)
    (case k8 => k_is)
    (case a9 => k_is)
    (case l9 => k_is)
    (case c9 => k_is)
    (case k9 => k_is)
    (case a10 => k_is)
    (case l10 => k_is)
    (case c10 => k_is)
    (case k10 => k_is)
    (case a11 => k_is)
    (case l11 => k_is)
    (case c11 => k_is)
    (case k11 => k_is)
    (case a12 => k_is)
    (case l12 => k_is)
    (case c12 => k_is)
    (case k12 => k_is)
    (case a13 => k_is)
    (case l13 => k_is)
    (case c13 => k_is)
    (case k13 => k_is)
    (case a14 => k_is)
    (case l14 => k_is)
    (case c14 => k_is)
    (case k14 => k_is)
    (case a15 => k_is)
    (case l15 => k_is)
    (case c15 => k_is)
    (case k15 => k_is)
    (case a16 => k_is)
    (case l16 => k_is)
    (case c16 => k_is)
    (case k16 => k_is)
    (case a17 => k_is)
    (case l17 => k_is)
    (case c17 => k_is)
    (case k17 => k_is)
    (case a18 => k_is)
    (case l18 => k_is)
    (case c18 => k_is)
    (case k18 => k_is)
    (case a19 => k_is)
    (case l19 => k_is)
    (case c19 => k_is)
    (case k19 => k_is)
    (case a20 => k_is)
    (case l20 => k_is)
    (case c20 => k_is)
    (case k20 => k_is)
    (case a21 => k_is)
    (case l21 => k_is)
    (case c21 => k_is)
    (case k21 => k_is)
    (case a22 => k_is)
    (case l22 => k_is)
    (case c22 => k_is)
    (case k22 => k_is)
    (case z1 => k_is)
    (case z2 => k_is)
    (case z3 => k_is)
    (case z4 => k_is)
    (case z5 => k_is)
    (case z6 => k_is)
    (case z7 => k_is)
    (case z8 => k_is)
    (case z9 => k_is)
    (case z10 => k_is)
    (case z11 => k_is)
    (case z12 => k_is)
    (case n1 => k_is)
    (case n2 => k_is)
    (case n3 => k_is)

