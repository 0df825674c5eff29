import PyProof.Rows.All
import Wide.All
import OpenK.AllK
import Wide.FinOn
import HandS.ForMost
import HandS.IsInst
import HandS.TupAny
import HandS.TupMul
import HandS.Style
import HandS.Flow
import HandS.Walk
import KE.GoesMore
import HandS.FStrTup
import HandS.Zip
import HandS.More
import PySem.Challenge.RW_treelore_k03_deeds_or_not
set_option Elab.async false
set_option linter.all false
set_option maxRecDepth 100000
set_option maxHeartbeats 4000000
/-! Data in the heap, by value: what stays when the heap grows, what isinstance and len answer of it. -/
namespace Tl
open PySem L2

theorem same_new {H : Hp} {p : Addr} {o : HO} (h : H p = none) : Same H (upd H p o) := fun b u q => by
  rw [upd_ne (ne_of_none q h)]
  exact q
/-- what F does not know may change -/
theorem same_mut {F H : Hp} {p : Addr} {o : HO} (e : Same F H) (h : F p = none) : Same F (upd H p o) := fun b u q => by
  rw [upd_ne (ne_of_none q h)]
  exact e b u q
theorem same_rd {H H' : Hp} {a : Addr} {u : HO} (e : Same H H') (h : Rd H a u) : Rd H' a u := by
  rcases h with h | ⟨o, h⟩
  · exact .inl (e a _ h)
  · exact .inr ⟨o, e a _ h⟩
theorem same_t {K : PySem.W.Frag} {H H' : Hp} {a : Addr} {xs : List V} (e : Same H H') (h : SqT K H a xs) : SqT K H' a xs := by
  rcases h with h | h
  · exact .inl (same_rd e h)
  · exact .inr h
theorem same_l {K : PySem.W.Frag} {H H' : Hp} {a : Addr} {xs : List V} (e : Same H H') (h : SqL K H a xs) : SqL K H' a xs := by
  rcases h with h | h
  · exact .inl (same_rd e h)
  · exact .inr h
mutual
theorem dp_mono {K : PySem.W.Frag} {H H' : Hp} (e : Same H H') : ∀ (d : PyData) (v : V), Dp K H v d → Dp K H' v d
  | .none, _, h => by cases h; exact .non
  | .bool b, _, h => by cases h; exact .bl b
  | .int i, _, h => by cases h; exact .int i
  | .str x, _, h => by cases h; exact .str x
  | .list ds, _, h => by
    cases h with
    | lst hs ha => exact .lst (same_l e hs) (dpAll_mono e ds _ ha)
  | .tuple ds, _, h => by
    cases h with
    | tup hs ha => exact .tup (same_t e hs) (dpAll_mono e ds _ ha)
  | .dict _, _, h => by cases h
theorem dpAll_mono {K : PySem.W.Frag} {H H' : Hp} (e : Same H H') : ∀ (ds : List PyData) (vs : List V), DpAll K H vs ds → DpAll K H' vs ds
  | [], _, h => by cases h; exact .nil
  | d :: ds, _, h => by
    cases h with
    | cons h1 h2 => exact .cons (dp_mono e d _ h1) (dpAll_mono e ds _ h2)
end
/-- a thing of the law: data, or the empty dict -/
inductive Dt (K : PySem.W.Frag) (H : Hp) : V → PyData → Prop
  | d {v : V} {d : PyData} : Dp K H v d → Dt K H v d
  | e {a : Addr} : H a = some (.dK []) → Dt K H (.ref a) (.dict [])
theorem Dt.mono {K : PySem.W.Frag} {H H' : Hp} {v : V} {d : PyData} (e : Same H H') (h : Dt K H v d) : Dt K H' v d := by
  cases h with
  | d h => exact .d (dp_mono e _ _ h)
  | e h => exact .e (e _ _ h)
theorem DpAll.len {K : PySem.W.Frag} {H : Hp} : ∀ {vs : List V} {ds : List PyData}, DpAll K H vs ds → vs.length = ds.length
  | _, _, .nil => rfl
  | _, _, .cons _ h => by rw [List.length_cons, List.length_cons, DpAll.len h]
theorem DpAll.get {K : PySem.W.Frag} {H : Hp} : ∀ {vs : List V} {ds : List PyData} {i : Nat} {v : V}, DpAll K H vs ds → vs[i]? = some v → ∃ d, ds[i]? = some d ∧ Dp K H v d
  | _, _, _, _, .nil, e => by simp at e
  | _, _, 0, _, .cons h _, e => by simp at e; subst e; exact ⟨_, rfl, h⟩
  | _, _, i + 1, v, .cons _ h, e => by
    obtain ⟨d, h1, h2⟩ := DpAll.get (i := i) (v := v) h (by simpa using e)
    exact ⟨d, by simpa using h1, h2⟩
theorem DpAll.got {K : PySem.W.Frag} {H : Hp} : ∀ {vs : List V} {ds : List PyData} {i : Nat} {d : PyData}, DpAll K H vs ds → ds[i]? = some d → ∃ v, vs[i]? = some v ∧ Dp K H v d
  | _, _, _, _, .nil, e => by simp at e
  | _, _, 0, _, .cons h _, e => by simp at e; subst e; exact ⟨_, rfl, h⟩
  | _, _, i + 1, d, .cons _ h, e => by
    obtain ⟨v, h1, h2⟩ := DpAll.got (i := i) (d := d) h (by simpa using e)
    exact ⟨v, by simpa using h1, h2⟩
theorem DpAll.app {K : PySem.W.Frag} {H : Hp} : ∀ {vs ws : List V} {ds es : List PyData}, DpAll K H vs ds → DpAll K H ws es → DpAll K H (vs ++ ws) (ds ++ es)
  | _, _, _, _, .nil, h => h
  | _, _, _, _, .cons a b, h => .cons a (DpAll.app b h)
theorem DpAll.take {K : PySem.W.Frag} {H : Hp} : ∀ {vs : List V} {ds : List PyData} (n : Nat), DpAll K H vs ds → DpAll K H (vs.take n) (ds.take n)
  | _, _, 0, _ => .nil
  | _, _, _ + 1, .nil => .nil
  | _, _, n + 1, .cons a b => .cons a (DpAll.take n b)
theorem DpAll.drop {K : PySem.W.Frag} {H : Hp} : ∀ {vs : List V} {ds : List PyData} (n : Nat), DpAll K H vs ds → DpAll K H (vs.drop n) (ds.drop n)
  | _, _, 0, h => h
  | _, _, _ + 1, .nil => .nil
  | _, _, n + 1, .cons a b => DpAll.drop n b
theorem DpAll.rev {K : PySem.W.Frag} {H : Hp} : ∀ {vs : List V} {ds : List PyData}, DpAll K H vs ds → DpAll K H vs.reverse ds.reverse
  | _, _, .nil => .nil
  | _, _, .cons a b => by rw [List.reverse_cons, List.reverse_cons]; exact DpAll.app (DpAll.rev b) (.cons a .nil)
theorem DpAll.rep {K : PySem.W.Frag} {H : Hp} {vs : List V} {ds : List PyData} (h : DpAll K H vs ds) : ∀ n : Nat, DpAll K H (List.replicate n vs).flatten (List.replicate n ds).flatten
  | 0 => .nil
  | n + 1 => by
    rw [List.replicate_succ, List.replicate_succ, List.flatten_cons, List.flatten_cons]
    exact DpAll.app h (DpAll.rep h n)

theorem DpAll.two {K : PySem.W.Frag} {H : Hp} : ∀ {vs : List V} {ds : List PyData}, DpAll K H vs ds → vs.length = 2 → ∃ x y a b, vs = [x, y] ∧ ds = [a, b] ∧ Dp K H x a ∧ Dp K H y b
  | _, _, .nil, e => by simp at e
  | _, _, .cons _ .nil, e => by simp at e
  | _, _, .cons h1 (.cons h2 .nil), _ => ⟨_, _, _, _, rfl, rfl, h1, h2⟩
  | _, _, .cons _ (.cons _ (.cons _ _)), e => by simp at e

/-! ### what isinstance answers -/
def tyName : PyData → String
  | .none => "NoneType"
  | .bool _ => "bool"
  | .int _ => "int"
  | .str _ => "str"
  | .list _ => "list"
  | .tuple _ => "tuple"
  | .dict _ => "dict"
def isStr : PyData → Bool
  | .str _ => true
  | _ => false
def isTup : PyData → Bool
  | .tuple _ => true
  | _ => false
def isInt : PyData → Bool
  | .int _ => true
  | .bool _ => true
  | _ => false
def isBl : PyData → Bool
  | .bool _ => true
  | _ => false
theorem kit_str (d : PyData) : kitB (tyName d) "str" = some (isStr d) := by cases d <;> (simp only [tyName, isStr]; decide +kernel)
theorem kit_tup (d : PyData) : kitB (tyName d) "tuple" = some (isTup d) := by cases d <;> (simp only [tyName, isTup]; decide +kernel)
theorem kit_int (d : PyData) : kitB (tyName d) "int" = some (isInt d) := by cases d <;> (simp only [tyName, isInt]; decide +kernel)
theorem kit_bl (d : PyData) : kitB (tyName d) "bool" = some (isBl d) := by cases d <;> (simp only [tyName, isBl]; decide +kernel)
theorem ty_data {K : PySem.W.Frag} {H : Hp} {v : V} {d : PyData} (h : Dt K H v d) : TyX K H v (.type (tyName d)) := by
  cases h with
  | e h => exact .base (.dK h)
  | d h =>
    cases h with
    | non => exact .base .non
    | bl b => exact .base (.bl b)
    | int i => exact .base (.int i)
    | str x => exact .base (.str x)
    | lst hs _ =>
      rcases hs with (h | ⟨o, h⟩) | ⟨o, its, n, h1, h2, _⟩
      · exact .base (.lst h)
      · exact .base (.frz h)
      · exact .kList h1 h2
    | tup hs _ =>
      rcases hs with (h | ⟨o, h⟩) | ⟨o, its, n, h1, h2, _⟩
      · exact .base (.tup h)
      · exact .fTuple h
      · exact .kTuple h1 h2
theorem isi_d {K : PySem.W.Frag} {H : Hp} {v : V} {d : PyData} {T : String} {b : Bool} {Q : VK} (h : Dt K H v d) (e : kitB (tyName d) T = some b) (q : Q (.bl b) H) : rIsi K [v, .ty T] H Q :=
  ⟨v, .ty T, _, _, b, rfl, .ty T, ty_data h, kit_ty e, q⟩

/-! ### texts within are short -/
mutual
def txt : PyData → Bool
  | .str s => decide (s.length ≤ 1000) && PyData.strOk s
  | .list ds => txtAll ds
  | .tuple ds => txtAll ds
  | _ => true
def txtAll : List PyData → Bool
  | [] => true
  | d :: ds => txt d && txtAll ds
end
theorem txtAll_get : ∀ {ds : List PyData} {i : Nat} {d : PyData}, txtAll ds = true → ds[i]? = some d → txt d = true
  | [], _, _, _, e => by simp at e
  | a :: r, 0, d, h, e => by
    rw [txtAll, Bool.and_eq_true] at h
    simp at e
    subst e
    exact h.1
  | a :: r, i + 1, d, h, e => by
    rw [txtAll, Bool.and_eq_true] at h
    exact txtAll_get h.2 (by simpa using e)
theorem txtAll_app : ∀ {ds es : List PyData}, txtAll ds = true → txtAll es = true → txtAll (ds ++ es) = true
  | [], es, _, h => h
  | a :: r, es, h, h2 => by
    rw [txtAll, Bool.and_eq_true] at h
    rw [List.cons_append, txtAll, Bool.and_eq_true]
    exact ⟨h.1, txtAll_app h.2 h2⟩
theorem txtAll_rep {ds : List PyData} (h : txtAll ds = true) : ∀ n, txtAll (List.replicate n ds).flatten = true
  | 0 => rfl
  | n + 1 => by
    rw [List.replicate_succ, List.flatten_cons]
    exact txtAll_app h (txtAll_rep h n)
theorem txt_str {s : Str} (h : txt (.str s) = true) : s.length ≤ 1000 ∧ PyData.strOk s = true := by
  rw [txt, Bool.and_eq_true] at h
  exact ⟨of_decide_eq_true h.1, h.2⟩
/-- a list of plain values can be compared -/
def flatD : PyData → Bool
  | .none => true
  | .bool _ => true
  | .int _ => true
  | .str s => PyData.strOk s
  | _ => false
theorem flat_all : ∀ ds : List PyData, ds.all flatD = true → PyData.canLayAll0 ds = true ∧ PyData.depthAll ds = 0
  | [], _ => ⟨rfl, rfl⟩
  | d :: r, h => by
    rw [List.all_cons, Bool.and_eq_true] at h
    obtain ⟨h1, h2⟩ := flat_all r h.2
    have h0 := h.1
    rw [PyData.canLayAll0, PyData.depthAll, h1, h2]
    cases d with
    | none => exact ⟨rfl, rfl⟩
    | bool b => exact ⟨rfl, rfl⟩
    | int b => exact ⟨rfl, rfl⟩
    | str b =>
      rw [flatD] at h0
      rw [PyData.canLay0, PyData.depth, h0]
      exact ⟨rfl, rfl⟩
    | list b => exact Bool.noConfusion h0
    | tuple b => exact Bool.noConfusion h0
    | dict b => exact Bool.noConfusion h0
theorem flat_shaped {ds : List PyData} (h : ds.all flatD = true) : SeqAt.shaped (.list ds) = true := by
  obtain ⟨h1, h2⟩ := flat_all ds h
  unfold SeqAt.shaped
  rw [PyData.canLay0, PyData.depth, h1, h2]
  rfl
theorem sz1000 {n : Nat} (h : n ≤ 1000) : n ≤ sizeLine := Nat.le_of_lt (small1000 h)
/-- the built-in names that are still the built-in's -/
structure Bl (mg : Str → Option Value) : Prop where
  isi : mg "isinstance" = none
  int : mg "int" = none
  bool : mg "bool" = none
  str : mg "str" = none
  tuple : mg "tuple" = none
  list : mg "list" = none
  len : mg "len" = none
  all : mg "all" = none
  repr : mg "repr" = none
  max : mg "max" = none
  range : mg "range" = none
  enum : mg "enumerate" = none
section
variable {X : Cx}
theorem b_int (T : Bl X.mg) {p : Pos} (hg : Gl X "int" := by rfl) : PE X (.Name "int" p) (tC (.ty "int")) := pe_bltn hg T.int PyProof.Rows.boot_int rfl
theorem b_bool (T : Bl X.mg) {p : Pos} (hg : Gl X "bool" := by rfl) : PE X (.Name "bool" p) (tC (.ty "bool")) := pe_bltn hg T.bool PyProof.Rows.boot_bool rfl
theorem b_str (T : Bl X.mg) {p : Pos} (hg : Gl X "str" := by rfl) : PE X (.Name "str" p) (tC (.ty "str")) := pe_bltn hg T.str PyProof.Rows.boot_str rfl
theorem b_tuple (T : Bl X.mg) {p : Pos} (hg : Gl X "tuple" := by rfl) : PE X (.Name "tuple" p) (tC (.ty "tuple")) := pe_bltn hg T.tuple PyProof.Rows.boot_tuple rfl
end
theorem iteD {p A B : Prop} [Decidable p] (h1 : p → A) (h2 : ¬ p → B) : if decide p = true then A else B := by
  by_cases h : p
  · rw [if_pos (decide_eq_true h)]
    exact h1 h
  · rw [if_neg (by rw [decide_eq_false h]; exact Bool.false_ne_true)]
    exact h2 h
theorem iteN {p A B : Prop} [Decidable p] (h1 : ¬ p → A) (h2 : p → B) : if (!decide p) = true then A else B := by
  by_cases h : p
  · rw [if_neg (by rw [decide_eq_true h]; exact Bool.false_ne_true)]
    exact h2 h
  · rw [if_pos (by rw [decide_eq_false h]; rfl)]
    exact h1 h
theorem iteB {b : Bool} {A B : Prop} (h1 : b = true → A) (h2 : b = false → B) : if b = true then A else B := by
  cases b with
  | true => exact h1 rfl
  | false => rw [if_neg Bool.false_ne_true]; exact h2 rfl
/-! ### comprehensions whose parts leave all as it was -/
section
variable {K : PySem.W.Frag} {a : Addr} {xs : List V}
theorem fn_list : Walk (Itl K a) xs.length (fun H => SqL K H a xs) (YFn fun i => xs.getD i .non) :=
  walk_list.mono (fun _ h => h) fun i H x H' hi _ y => ⟨y.1, by show x = xs.getD i .non; rw [List.getD_eq_getElem?_getD, y.2]; rfl⟩
theorem fn_tup : Walk (Itt K a) xs.length (fun H => SqT K H a xs) (YFn fun i => xs.getD i .non) :=
  walk_tup.mono (fun _ h => h) fun i H x H' hi _ y => ⟨y.1, by show x = xs.getD i .non; rw [List.getD_eq_getElem?_getD, y.2]; rfl⟩
theorem fn_str {z : Str} : Walk (Its z) z.cps.toList.length (fun _ => True) (YFn fun i => .str ⟨#[z.cps.toList.getD i 0]⟩) :=
  walk_str.mono (fun _ h => h) fun i H x H' hi _ y => by
    obtain ⟨e, c, hc, rfl⟩ := y
    refine ⟨e, ?_⟩
    show V.str ⟨#[c]⟩ = V.str ⟨#[z.cps.toList.getD i 0]⟩
    rw [List.getD_eq_getElem?_getD, Array.getElem?_toList, hc]
    rfl
end
def picked {α : Type} (n : Nat) (f : Nat → Bool) (v : Nat → α) : List α := ((List.range n).filter f).map v
theorem picked_yes {α : Type} {n : Nat} {f : Nat → Bool} {v : Nat → α} (h : f n = true) : picked (n + 1) f v = picked n f v ++ [v n] := by
  unfold picked
  rw [List.range_succ, List.filter_append, List.map_append]
  simp [h]
theorem picked_no {α : Type} {n : Nat} {f : Nat → Bool} {v : Nat → α} (h : f n = false) : picked (n + 1) f v = picked n f v := by
  unfold picked
  rw [List.range_succ, List.filter_append, List.map_append]
  simp [h]
theorem picked_len {α : Type} (n : Nat) (f : Nat → Bool) (v : Nat → α) : (picked n f v).length ≤ n := by
  unfold picked
  rw [List.length_map]
  exact Nat.le_trans (List.length_filter_le _ _) (by rw [List.length_range]; exact Nat.le_refl n)
theorem picked_all {α β : Type} (xs : List α) (d : α) (g : α → β) : picked xs.length (fun _ => true) (fun i => g (xs.getD i d)) = xs.map g := by
  unfold picked
  rw [List.filter_eq_self.mpr (fun _ _ => rfl)]
  apply List.ext_getElem
  · simp
  · intro i h1 h2
    simp at h1 h2 ⊢
    rw [List.getElem?_eq_getElem h2]
    rfl
theorem picked_some {α β : Type} (xs : List α) (d : α) (p : α → Bool) (g : α → β) : picked xs.length (fun i => p (xs.getD i d)) (fun i => g (xs.getD i d)) = (xs.filter p).map g := by
  have h := picked_all xs d id
  unfold picked at h ⊢
  rw [List.filter_eq_self.mpr (fun _ _ => rfl), List.map_id] at h
  have e : (List.range xs.length).map (fun i => xs.getD i d) = xs := by simpa using h
  conv => rhs; rw [← e]
  rw [List.filter_map, List.map_map]
  rfl
theorem lc_pure {J : It} {n j : Nat} {G : Hp → Prop} {Xi : Nat → V} {tt : TT} {te : TE} {vs : List Nat} {σ : L2.St} {H1 : Hp} {D : Addr} {Qd : Hp → Prop} (wk : Walk J n G (YFn Xi)) (f : Nat → Bool) (v : Nat → V)
    (hG : ∀ H, Same H1 H → G H) (hn : n ≤ 1000000) (hw : ∀ x, wipe ((wipe σ vs).set j (some x)) vs = wipe σ vs) (hD : H1 D = none)
    (ht : ∀ i H, i < n → Same H1 H → ∀ Qt : Bool → Hp → Prop, (∀ H3, Same H H3 → Qt (f i) H3) → tt ((wipe σ vs).set j (some (Xi i))) H Qt)
    (he : ∀ i H, i < n → f i = true → Same H1 H → ∀ Qe : VK, (∀ H3, Same H H3 → Qe (v i) H3) → te ((wipe σ vs).set j (some (Xi i))) H Qe)
    (q : ∀ H2, Same H1 H2 → H2 D = some (.lst (picked n f v)) → Qd H2) :
    ∃ W : Nat → Nat → Hp → Prop, (∃ m, W 0 m (upd H1 D (.lst []))) ∧ ∀ i m H, W i m H →
      (J.stop i H ∧ Qd H) ∨ (J.go i H ∧ ∃ Nx : Hp → Prop, (∀ H', Nx H' → ∃ m', m' < m ∧ W (i + 1) m' H') ∧ ∀ x H', J.yld i H x H' → gName j x (wipe σ vs) H' fun σ2 H2 => wipe σ2 vs = wipe σ vs ∧ tt σ2 H2 fun b H3 =>
        if b = true then te σ2 H3 fun y H4 => ∃ acc, H4 D = some (.lst acc) ∧ acc.length < sizeLine ∧ Nx (upd H4 D (.lst (acc ++ [y]))) else Nx H3) := by
  refine lc_it wk (fun i H => Same H1 H ∧ H D = some (.lst (picked i f v))) ⟨same_new hD, upd_same⟩ (fun i H _ p => hG H p.1) (fun i x H H' hi p y => ?_) (fun H p => q H p.1 p.2)
  obtain ⟨rfl, rfl⟩ := y
  obtain ⟨p1, p2⟩ := p
  refine ⟨hw _, ht i _ hi p1 _ fun H3 e3 => ?_⟩
  refine ite2 (fun c => ?_) (fun c => ?_)
  · refine he i H3 hi c (p1.trans e3) _ fun H4 e4 => ?_
    refine ⟨_, e4 _ _ (e3 _ _ p2), ?_, ?_⟩
    · exact Nat.lt_of_le_of_lt (picked_len i f v) (Nat.lt_of_lt_of_le (Nat.lt_of_lt_of_le hi hn) (by decide))
    · exact ⟨same_mut ((p1.trans e3).trans e4) hD, by rw [upd_same, picked_yes c]⟩
  · have c' : f i = false := Bool.eq_false_iff.mpr c
    exact ⟨p1.trans e3, by rw [picked_no c']; exact e3 _ _ p2⟩
/-- a def of the program that is called: where it stands, and what it promises -/
structure Use (P : Program) (w : World) (K : PySem.W.Frag) (mg : Str → Option Value) (base : Heap) (x : Str) (ps : List Str) (k : Nat) (sp : Sp) where
  f : Addr
  fd : FuncData
  ok : FnOk P w K mg base CX0 k f fd ps sp
  m : mg x = some (.ref f)
  kp : PySem.W.keepIn K (.ref f) = true
  b : Binds K fd ps []
end Tl

set_option Elab.async false
set_option linter.all false
set_option maxRecDepth 100000
set_option maxHeartbeats 4000000
/-! Rules of our own: tuple * int of any small count, text * int, enumerate of a tuple, repr of data. -/
namespace Tl
open PySem PySem.Spec PyProof.Rows L2
open AutoSeq1 (wpAny_loadPart')
/-- one way through tuple.__mul__ where the tuple itself comes back -/
theorem mulSame (l : Addr) (items : Array Value) (n : Nat) (dd : Option Addr) (sl : Array (Option Value)) (x : Int) (u : Tok)
    (c0 : (decide (x < -(2 ^ 63)) || decide (x ≥ 2 ^ 63)) = false) (c1 : (items.isEmpty || x == 1) = true) :
    Meets (Builtin.«tuple.__mul__» ⟨[.ref l, .int x u], []⟩) (fun _ R s =>
      s.heap.get? l = some { cls := .type "tuple", dict := dd, data := .seq items n, slots := sl } ∧
        R (.ok (.ret (Value.ref l))) s) :=
  .of_wp fun prog w A R s h => by
    obtain ⟨hp, g, d, tk, os⟩ := s
    obtain ⟨hl, h⟩ := h
    have f1 := AutoSeq1.idx_int
    wp_walk using wpAny_loadPart' hl
    refine wpAny_ite_false (decide_eq_false (by rw [c0]; exact Bool.false_ne_true)) ?_
    wp_walk using wpAny_loadPart' hl
    exact ⟨_, rfl, h⟩
theorem mulNone (l : Addr) (items : Array Value) (n : Nat) (dd : Option Addr) (sl : Array (Option Value)) (x : Int) (u : Tok)
    (c0 : (decide (x < -(2 ^ 63)) || decide (x ≥ 2 ^ 63)) = false) (c1 : (items.isEmpty || x == 1) = false) (c2 : (decide (x ≤ 0) || items.isEmpty) = true) :
    Meets (Builtin.«tuple.__mul__» ⟨[.ref l, .int x u], []⟩) (fun _ R s =>
      s.heap.get? l = some { cls := .type "tuple", dict := dd, data := .seq items n, slots := sl } ∧
        R (.ok (.ret (Value.ref s.heap.objs.size))) { s with heap := s.heap.push { cls := Value.type "tuple", data := Data.seq #[] }, toks := s.toks }) :=
  .of_wp fun prog w A R s h => by
    obtain ⟨hp, g, d, tk, os⟩ := s
    obtain ⟨hl, h⟩ := h
    have f1 := AutoSeq1.idx_int
    wp_walk using wpAny_loadPart' hl
    refine wpAny_ite_false (decide_eq_false (by rw [c0]; exact Bool.false_ne_true)) ?_
    wp_walk using wpAny_loadPart' hl
    exact ⟨_, rfl, h⟩
def rRepA (K : PySem.W.Frag) : R2 := fun x y H Q => ∃ l k xs, x = .ref l ∧ y = .int k ∧ SqT K H l xs ∧ 0 ≤ k ∧ k ≤ 1000 ∧ xs.length ≤ 1000 ∧ (xs = [] ∨ k = 1 → Q (.ref l) H) ∧
  (¬ (xs = [] ∨ k = 1) → ∀ p, H p = none → Q (.ref p) (upd H p (.tup (List.replicate k.toNat xs).flatten)))
theorem op_repA {X : Cx} : OpR X (binaryOp .Mult) (rRepA X.K) := by
  intro pins s σ H x y v u Q I rx ry h
  obtain ⟨l, k, xs, rfl, rfl, hT, h1, h2, hz, q0, q1⟩ := h
  by_cases hc : xs = [] ∨ k = 1
  · cases rx
    obtain ⟨t, rfl⟩ := ry
    obtain ⟨its, r, ⟨⟨cls, dd, data, sl⟩, ho, hcl, n, hd⟩, hs⟩ := I.tuple hT
    simp only at hcl hd
    subst hcl hd
    have c0 : (decide (k < -(2 ^ 63)) || decide (k ≥ 2 ^ 63)) = false := by
      rw [decide_eq_false (by omega), decide_eq_false (by omega)]
      rfl
    have c1 : (its.toArray.isEmpty || k == 1) = true := by
      rcases hc with e | e
      · subst e
        cases r
        rfl
      · rw [e, Bool.or_eq_true]
        exact .inr rfl
    refine wpAny_binaryOp_repeat_ref (T := "tuple") (U := "int") (by decide) ⟨_, ho, rfl⟩ (fun s' => typeIs_int s' k t)
      noFill_tuple_mul F.fills_int_mul F.slot_int_rmul repeat_tuple F.slot_int_index.lookup
      (call_meets F.slot_int_rmul (typeIs_int s k t) F.entry_int_rmul (F.args_int_rmul_2 _ _)
        (int_rmul_tuple k t l its.toArray n dd sl) ⟨ho, rfl, ⟨_, ho, rfl⟩, call_meets F.slot_tuple_mul ⟨_, ho, rfl⟩ F.entry_tuple_mul (F.args_tuple_mul_2 _ _) (mulSame l its.toArray n dd sl k t c0 c1) ⟨ho, ?_⟩⟩)
    exact ⟨.ref l, H, I, rfl, q0 hc⟩
  · by_cases hk : 2 ≤ k
    · exact op_repT pins s σ H _ _ v u Q I rx ry ⟨l, k, xs, rfl, rfl, hT, fun e => hc (.inl e), hk, h2, hz, q1 hc⟩
    · have hk0 : k = 0 := by
        have : ¬ k = 1 := fun e => hc (.inr e)
        omega
      subst hk0
      cases rx
      obtain ⟨t, rfl⟩ := ry
      obtain ⟨its, r, ⟨⟨cls, dd, data, sl⟩, ho, hcl, n, hd⟩, hs⟩ := I.tuple hT
      simp only at hcl hd
      subst hcl hd
      have hi : its.toArray.isEmpty = false := by
        cases r with
        | nil => exact absurd (.inl rfl) hc
        | cons a b => rfl
      have c1 : (its.toArray.isEmpty || (0 : Int) == 1) = false := by rw [hi]; rfl
      refine wpAny_binaryOp_repeat_ref (T := "tuple") (U := "int") (by decide) ⟨_, ho, rfl⟩ (fun s' => typeIs_int s' 0 t)
        noFill_tuple_mul F.fills_int_mul F.slot_int_rmul repeat_tuple F.slot_int_index.lookup
        (call_meets F.slot_int_rmul (typeIs_int s 0 t) F.entry_int_rmul (F.args_int_rmul_2 _ _)
          (int_rmul_tuple 0 t l its.toArray n dd sl) ⟨ho, rfl, ⟨_, ho, rfl⟩, call_meets F.slot_tuple_mul ⟨_, ho, rfl⟩ F.entry_tuple_mul (F.args_tuple_mul_2 _ _) (mulNone l its.toArray n dd sl 0 t (by decide) c1 (by rfl)) ⟨ho, ?_⟩⟩)
      refine ⟨.ref s.heap.objs.size, _, I.laid (t' := s.toks) (o := .tup []) (fun b ob q => Heap.get?_push_of_some _ q) (Nat.le_refl _) ?_, rfl, q1 hc _ (I.hok.fresh (Nat.le_refl _))⟩
      exact ⟨Nat.zero_le _, [], .nil, IsTup.new _ _⟩
/-- text * int -/
def repS (x : Str) (n : Nat) : Str := ⟨(List.replicate n x.cps.toList).flatten.toArray⟩
theorem fold_rep (x : Array Nat) : ∀ (n : Nat) (a : Array Nat), (List.replicate n x).foldl (· ++ ·) a = a ++ (List.replicate n x.toList).flatten.toArray
  | 0, a => by simp
  | n + 1, a => by
    rw [List.replicate_succ, List.foldl_cons, fold_rep x n, List.replicate_succ, List.flatten_cons, Array.append_assoc]
    congr 1
    simp
theorem repS_len (a : Str) (n : Nat) : (repS a n).length = n * a.length := by
  show ((List.replicate n a.cps.toList).flatten.toArray).size = n * a.cps.size
  rw [List.size_toArray, PyProof.Rows.lm_len_rep_flat]
  rfl
theorem op_rep_str {X : Cx} : OpR X (binaryOp .Mult) (fun x y H Q => ∃ (a : Str) (n : Int), x = .str a ∧ y = .int n ∧ a.length = 1 ∧ 0 ≤ n ∧ n ≤ 1000 ∧ Q (.str (repS a n.toNat)) H) := by
  intro pins s σ H x y v u Q I rx ry h
  obtain ⟨a, n, rfl, rfl, ha, h0, h1, q⟩ := h
  obtain ⟨t, rfl⟩ := rx
  obtain ⟨t', rfl⟩ := ry
  refine PySem.P.mul_str ?_ (fun _ _ => ?_) (fun _ _ => ?_) ?_
  · rw [decide_eq_false (by omega), decide_eq_false (by omega)]
    rfl
  · rw [ha]
    rename_i hn _
    have h5 : (2 ^ 63 - 1 : Int) / 1000 ≤ (2 ^ 63 - 1) / n := by
      apply (Int.le_ediv_iff_mul_le (by omega)).mpr
      have h6 : (2 ^ 63 - 1 : Int) / 1000 = 9223372036854775 := by decide
      rw [h6]
      omega
    have h7 : (2 ^ 63 - 1 : Int) / 1000 = 9223372036854775 := by decide
    omega
  · rw [ha, Nat.one_mul]
    unfold Builtin.Str.tooLong
    rw [sizeLine_eq]
    exact decide_eq_false (by omega)
  · have done : ∀ (t2 : Tok) (k2 : Nat), EP X pins σ Q (.str (repS a n.toNat) t2) { s with toks := k2 } := fun t2 k2 => ⟨.str _, H, I.tok k2, ⟨t2, rfl⟩, q⟩
    by_cases c1 : n < 1
    · rw [if_pos c1]
      have e : n.toNat = 0 := by omega
      have e2 : repS a n.toNat = Str.empty := by rw [e]; rfl
      rw [e2] at done
      exact ⟨by decide, done _ _⟩
    · rw [if_neg c1]
      by_cases c2 : (n == 1 || a.length == 0) = true
      · rw [if_pos c2]
        have e : n = 1 := by
          rw [Bool.or_eq_true, ha] at c2
          rcases c2 with c2 | c2
          · exact eq_of_beq c2
          · exact absurd c2 (by decide)
        have e2 : repS a n.toNat = a := by
          rw [e]
          unfold repS
          simp
        rw [e2] at done
        exact done t s.toks
      · rw [if_neg c2]
        have e2 : (⟨(List.replicate n.toNat a.cps).foldl (· ++ ·) #[]⟩ : Str) = repS a n.toNat := by
          unfold repS
          rw [fold_rep]
          simp
        rw [e2]
        refine ⟨?_, done _ _⟩
        rw [repS_len, ha, sizeLine_eq]
        omega
/-! ### enumerate(t), t a tuple -/
set_option maxHeartbeats 4000000 in
theorem enumNew {v : Value} {o : Obj} {Hh : Heap → Prop} (B : Begins v o Hh) :
    Meets (Builtin.«enumerate.__new__» ⟨[.type "enumerate", v], []⟩) (fun _ R s => Hh s.heap ∧
      R (.ok (.ret (.ref (s.heap.push o).objs.size)))
        { s with heap := (s.heap.push o).push { cls := .type "enumerate", data := .fields #[.none, .bool false, .ref s.heap.objs.size, rawInt 0, .none, .none] } }) :=
  .of_wp fun prog w A R s h => by
    obtain ⟨hp, g, d, tk, os⟩ := s
    obtain ⟨h1, h⟩ := h
    have hsub := sub_enumerate
    have it : ∀ {A' : Around} {E : Value → Shared → Prop} {Q : Value → Shared → Prop}, Q (.ref hp.objs.size) ⟨hp.push o, g, d, tk, os⟩ →
        wpAny (model prog w) A' (pyIter v) Q E ⟨hp, g, d, tk, os⟩ := fun q => B.iter prog w _ _ ⟨hp, g, d, tk, os⟩ _ h1 q
    wp_walk using it
    refine wpAny_stack_any fun st => wpAny_pure ?_
    split
    · rename_i c _ _ _ _ _
      cases (c == Value.type "enumerate")
      · wp_walk using it
        exact ⟨_, rfl, h⟩
      · wp_walk using it
        exact ⟨_, rfl, h⟩
    · wp_walk using it
      exact ⟨_, rfl, h⟩
theorem enumTup {prog : Program} {w : World} {A : Around} {E : Value → Shared → Prop} {s : Shared} {l : Addr} {items : Array Value} {Q : Value → Shared → Prop} (hL : s.heap.IsTuple l items)
    (h : ∀ h', IsEnum h' (s.heap.objs.size + 1) s.heap.objs.size 0 .none → h'.IsTupleIter s.heap.objs.size l 0 →
      (∀ b o, s.heap.get? b = some o → h'.get? b = some o) → Q (.ref (s.heap.objs.size + 1)) { s with heap := h' }) :
    wpAny (model prog w) A (call (.type "enumerate") [.ref l]) Q E s := by
  refine callType_new F.called_enumerate (by decide) (F.typeCall_enumerate_1 _) (F.newCall_enumerate_1 _)
    (fun obj => F.args_object_init_2 obj _) F.entry_enumerate_new (enumNew (begins_tuple l items)) ⟨hL, ?_⟩
  have hz : (s.heap.push { cls := .type "tuple_iterator", data := .fields #[.ref l, .int 0 0] }).objs.size = s.heap.objs.size + 1 := Heap.size_push ..
  show _ ∧ _
  rw [hz]
  generalize hk : (s.heap.push { cls := .type "tuple_iterator", data := .fields #[.ref l, .int 0 0] }) = h1 at hz ⊢
  have g0 : h1.get? s.heap.objs.size = some { cls := .type "tuple_iterator", data := .fields #[.ref l, .int 0 0] } := by rw [← hk]; exact Heap.get?_push_size _ rfl
  have g1 := Heap.get?_push_size h1 (o := { cls := .type "enumerate", data := .fields #[.none, .bool false, .ref s.heap.objs.size, rawInt 0, .none, .none] }) rfl
  rw [hz] at g1
  refine ⟨⟨_, g1, rfl⟩, h _ g1 ⟨_, Heap.get?_push_of_some _ g0, rfl, rfl⟩ fun b o x => Heap.get?_push_of_some _ ?_⟩
  rw [← hk]
  exact Heap.get?_push_of_some _ x
def Iet (K : PySem.W.Frag) (a : Addr) : It where
  go := fun i H => ∃ (xs : List V) (x : V), SqT K H a xs ∧ xs[i]? = some x
  yld := fun i H v H' => ∃ T x, v = .ref T ∧ H T = none ∧ H' = upd H T (.tup [.int (i : Nat), x]) ∧ ∀ xs, SqT K H a xs → xs[i]? = some x
  stop := fun i H => ∃ xs : List V, SqT K H a xs ∧ xs.length = i
theorem turnET {P : Program} {w : World} {K : PySem.W.Frag} {elts : List Expr} {kk : Nat} {tpos : Pos} (a e it : Addr) :
    Turn P w K (.Tuple elts kk tpos) (Iet K a) [e, it] e
      (fun i h => (∃ old, IsEnum h e it ((i : Nat) : Int) old) ∧ h.IsTupleIter it a i ∧ e ≠ it) where
  mem := by simp
  obj := fun i h st b hb => by
    obtain ⟨⟨old, he⟩, ⟨o, ho, hc, hd⟩, _⟩ := st
    have hb2 : b = e ∨ b = it := by simpa using hb
    rcases hb2 with rfl | rfl
    · exact ⟨_, he, fun v q => nomatch q⟩
    · exact ⟨o, ho, fun v q => by rw [hd] at q; cases q⟩
  keep := fun i h h' st k => by
    obtain ⟨⟨old, he⟩, hi, hne⟩ := st
    exact ⟨⟨old, k e (by simp) _ he⟩, hi.at fun o q => k it (by simp) o q, hne⟩
  item := by
    intro X hP hw hK hc i pins s σ H E I hf st hg
    subst hP hw hK
    obtain ⟨⟨old, he⟩, hit, hne⟩ := st
    obtain ⟨xs, x, hq, hx⟩ := hg
    obtain ⟨its, rv, p, hz⟩ := I.tuple hq
    obtain ⟨u, hu, ru⟩ := rv.get hx
    have hel : e < s.heap.objs.size := Heap.lt_size he
    have hil : it < s.heap.objs.size := by
      obtain ⟨_, q, _⟩ := hit
      exact Heap.lt_size q
    have hae : a ≠ e := fun z => by
      obtain ⟨o, ho, hcl, _⟩ := p
      rw [z, he] at ho
      cases ho
      have h9 : Value.type "enumerate" = Value.type "tuple" := hcl
      exact absurd h9 (by decide)
    have hai : a ≠ it := fun z => by
      obtain ⟨o, ho, hcl, _⟩ := p
      obtain ⟨o', ho', hcl', _⟩ := hit
      rw [z, ho'] at ho
      cases ho
      rw [hcl'] at hcl
      exact absurd hcl (by decide)
    have hlt : i < its.toArray.size := by
      rw [List.size_toArray]
      exact (List.getElem?_eq_some_iff.mp hu).1
    refine wpAny_pyNext_enum_itemD (Draws.tuple (prog := X.prog) (w := X.w) (A := X.A.in1) (I.ok.hd hc) it a hai its.toArray) he ⟨hit, p⟩ hlt hne (by simp [hne, Ne.symm hae]) fun y h' tk hy ho hst hT hsz hk => ?_
    have ey : y = u := by
      have hu' : its.toArray[i]? = some u := by simpa using hu
      rw [hu'] at hy
      exact (Option.some.inj hy).symm
    subst ey
    refine ⟨_, rfl, wpAny_letOwnedTupleGo_enum (s := { s with heap := h', toks := tk + 1 }) ho fun h'' he' sb => ?_⟩
    have hT2 := (sb.2 _ (Nat.ne_of_gt hel)).trans hT
    have new : ObjOk X.prog X.w (upd H s.heap.objs.size (.tup [.int (i : Nat), x])) h'' s.heap.objs.size (.tup [.int (i : Nat), x]) :=
      ⟨by show 2 ≤ sizeLine; decide, [.int i tk, y], .cons ⟨_, rfl⟩ (.cons ru .nil), ⟨_, hT2, rfl, _, rfl⟩⟩
    have I1 : Inv X pins σ (upd H s.heap.objs.size (.tup [.int (i : Nat), x])) { s with heap := h'', toks := tk + 1 } :=
      I.turnedNew (ch := [e, it]) (fun b ob hb q => (sb.2 b fun z => hb (by simp [z])).trans
        (hk b ob (fun z => hb (by simp [z])) (fun z => hb (by simp [z])) q)) hf (Nat.le_refl _) new
    refine ⟨.ref s.heap.objs.size, _, I1, rfl, ⟨_, x, rfl, I.hok.fresh (Nat.le_refl _), rfl, fun ys hy => by rw [I.tuple_inj hy hq]; exact hx⟩, ⟨⟨y, ?_⟩, hst.1.at fun o q => (sb.2 it (Ne.symm hne)).trans q, hne⟩, fun b hb => ?_⟩
    · rw [show ((i + 1 : Nat) : Int) = (i : Int) + 1 by omega]
      exact he'
    · have hb2 : b = e ∨ b = it := by simpa using hb
      have hb3 : b < s.heap.objs.size := by
        rcases hb2 with rfl | rfl
        · exact hel
        · exact hil
      rw [upd_ne (Nat.ne_of_lt hb3)]
      exact (hf b hb).1
  done := by
    intro X hP hw hK hc i pins s σ H E I hf st hg
    subst hP hw hK
    obtain ⟨⟨old, he⟩, hit, hne⟩ := st
    obtain ⟨xs, hq, hx⟩ := hg
    obtain ⟨its, rv, p, hz⟩ := I.tuple hq
    obtain ⟨f0, f1, f2, f3, f4, f5⟩ := hf it (by simp)
    have hai : a ≠ it := fun z => by
      obtain ⟨o, ho, hcl, _⟩ := p
      obtain ⟨o', ho', hcl', _⟩ := hit
      rw [z, ho'] at ho
      cases ho
      rw [hcl'] at hcl
      exact absurd hcl (by decide)
    have hn : its.toArray.size = i := by rw [List.size_toArray, ← rv.length, hx]
    have hst : s.heap.IsTupleIter it a its.toArray.size ∧ s.heap.IsTuple a its.toArray := ⟨by rw [hn]; exact hit, p⟩
    exact wpAny_pyNext_enum_endD (Draws.tuple (prog := X.prog) (w := X.w) (A := X.A.in1) (I.ok.hd hc) it a hai its.toArray) he hst fun h' eb => ⟨rfl, I.turned (t' := s.toks) (fun b o hb q => eb b o hb q) f0 f1 f3 f4 f5⟩
  self := fun A i s Q E st h => by
    obtain ⟨⟨_, he⟩, _⟩ := st
    exact wpAny_pyIter_enum he h
def iEnumT (K : PySem.W.Frag) (ta : TA) : TI := fun σ H R => ta σ H fun vs H1 => ∃ a xs, vs = [.ref a] ∧ SqT K H1 a xs ∧ R (Iet K a) H1
theorem pi_enumT {X : Cx} {e : Expr} {ta : TA} {p pos tpos : Pos} {elts : List Expr} {kk : Nat} (hg : Gl X "enumerate") (hm : X.mg "enumerate" = none)
    (ha : PA X [e] ta) (hs : starEach [e] X.env = [(false, eval e X.env)] := by rfl) : PI X (.Tuple elts kk tpos) (.Call (.Name "enumerate" p) [e] [] pos) (iEnumT X.K ta) := by
  refine ⟨fun pins s σ H R I h => ?_⟩
  refine Call_ (ld_blt I hg hm boot_enumerate (callWith_type1
    (thn (ha.run pos pins s σ H _ I h) fun us s1 ⟨vs, H1, I1, r1, q1⟩ => ?_) hs rfl))
  obtain ⟨a, xs, ex, hq, q⟩ := q1
  subst ex
  cases r1 with
  | cons r rr =>
    cases rr
    cases r
    obtain ⟨its, rv, p', hz⟩ := I1.tuple hq
    refine enumTup p' fun h' he hit hk => wpAny_pyIter_enum he ?_
    have I2 : Inv X pins σ H1 { s1 with heap := h' } := I1.kept (t' := s1.toks) hk
    refine ⟨s1.heap.objs.size + 1, [s1.heap.objs.size + 1, s1.heap.objs.size], _, _, H1, rfl, I2,
      turnET a (s1.heap.objs.size + 1) s1.heap.objs.size, ⟨⟨.none, he⟩, hit, Nat.succ_ne_self _⟩, fun b hb => ?_, q⟩
    have hle : s1.heap.objs.size ≤ b := by
      have hb2 : b = s1.heap.objs.size + 1 ∨ b = s1.heap.objs.size := by simpa using hb
      rcases hb2 with z | z
      · rw [z]
        exact Nat.le_add_right _ _
      · rw [z]
        exact Nat.le_refl _
    exact I1.fpOk hle (I1.hok.fresh hle)
theorem walk_enumT {K : PySem.W.Frag} {a : Addr} {xs : List V} : Walk (Iet K a) xs.length (fun H => SqT K H a xs)
    (fun i H v H' => ∃ T x, v = .ref T ∧ H T = none ∧ H' = upd H T (.tup [.int (i : Nat), x]) ∧ xs[i]? = some x) := by
  refine ⟨fun i _ hi q => ⟨xs, xs[i], q, by simp [hi]⟩, fun _ q => ⟨xs, q, rfl⟩, fun i H v H' _ q y => ?_⟩
  obtain ⟨T, x, h1, h2, h3, h4⟩ := y
  exact ⟨T, x, h1, h2, h3, h4 xs q⟩
/-! ### repr of data -/
def rReprD (K : PySem.W.Frag) : List V → Hp → VK → Prop := fun vs H Q => ∃ (v : V) (d : PyData), vs = [v] ∧ Dt K H v d ∧ d.showable = true ∧ d.depth ≤ 100 ∧ d.shown.length ≤ sizeLine ∧ Q (.str d.shown) H
mutual
theorem noD {K : PySem.W.Frag} {H : Hp} : ∀ (d : PyData) {v : V}, Dp K H v d → d.hasDict = false
  | .none, _, _ => rfl
  | .bool _, _, _ => rfl
  | .int _, _, _ => rfl
  | .str _, _, _ => rfl
  | .list ds, _, h => by
    cases h with
    | lst _ ha => rw [PyData.hasDict]; exact noDAll ds ha
  | .tuple ds, _, h => by
    cases h with
    | tup _ ha => rw [PyData.hasDict]; exact noDAll ds ha
  | .dict _, _, h => by cases h
theorem noDAll {K : PySem.W.Frag} {H : Hp} : ∀ (ds : List PyData) {vs : List V}, DpAll K H vs ds → PyData.hasDictAll ds = false
  | [], _, _ => rfl
  | d :: ds, _, h => by
    cases h with
    | cons h1 h2 => rw [PyData.hasDictAll, noD d h1, noDAll ds h2]; rfl
end
theorem call_reprD {X : Cx} (hg : X.A.guards = some []) (hu : X.A.units + 200 < cLine) : CallR X (.builtin "repr") (rReprD X.K) := by
  intro pins s σ H vs us Q I r h
  obtain ⟨v, d, rfl, hd, hs, hdp, hz, q⟩ := h
  cases r with
  | cons r1 rr =>
    cases rr
    rename_i u
    cases hd with
    | d hd =>
      obtain ⟨as, hR⟩ := Dp.reads I d v u hd r1
      have fin : ∀ (t' : Tok) (k : Nat), EP X pins σ Q (.str d.shown t') { s with toks := k } := fun t' k => ⟨.str _, H, I.tok k, ⟨t', rfl⟩, q⟩
      cases hd with
      | non =>
        cases (show u = Value.none from r1)
        exact PySem.P.repr_of_none (fin _ _)
      | bl b =>
        cases (show u = Value.bool b from r1)
        refine PySem.P.repr_of_bool ?_
        have := fin s.toks (s.toks + 1)
        cases b <;> exact this
      | int i =>
        obtain ⟨t', rfl⟩ := r1
        exact PySem.P.repr_of_int (of_decide_eq_true hs) (fin _ _)
      | str x =>
        obtain ⟨t', rfl⟩ := r1
        exact PySem.P.repr_of_str (fin _ _) hz
      | @lst a xs ds hs2 ha =>
        cases (show u = Value.ref a from r1)
        have hnd : (PyData.list ds).hasDict = true → sysModules ∉ as := PyData.noDict_hsm (noD _ (.lst hs2 ha))
        exact repr_of_reads' hR hs hnd hg (by omega) (fun b o e => e) (fun h' t' tk hk => ⟨.str _, H, I.kept (t' := tk) hk, ⟨t', rfl⟩, q⟩) hz
      | @tup a xs ds hs2 ha =>
        cases (show u = Value.ref a from r1)
        have hnd : (PyData.tuple ds).hasDict = true → sysModules ∉ as := PyData.noDict_hsm (noD _ (.tup hs2 ha))
        exact repr_of_reads' hR hs hnd hg (by omega) (fun b o e => e) (fun h' t' tk hk => ⟨.str _, H, I.kept (t' := tk) hk, ⟨t', rfl⟩, q⟩) hz
    | @e a hd =>
      cases (show u = Value.ref a from r1)
      obtain ⟨hz2, hsm, vs, hkv, o, es, ep, h1, h2, h3⟩ := (show ObjOk X.prog X.w H s.heap a (.dK []) from I.hok a _ hd)
      cases hkv
      have hes : es.toList = [] := by
        have hp := h3.2.2.1
        generalize es.toList = l at hp
        cases hp
        rfl
      have hR : Reads s.heap (.ref a) (.dict []) (a :: [] ++ []) := Reads.dict h1 h2.1 h3.1 (by rw [hes]; exact .nil) (by rw [hes]; exact .nil)
      have hne : ¬ a = sysModules := fun z => by rw [z] at hsm; simp at hsm
      exact repr_of_reads' hR hs (fun _ z => hne (by simpa using Eq.symm (by simpa using z))) hg (by omega) (fun b o e => e) (fun h' t' tk hk => ⟨.str _, H, I.kept (t' := tk) hk, ⟨t', rfl⟩, q⟩) hz
end Tl

set_option Elab.async false
set_option linter.all false
set_option maxRecDepth 100000
set_option maxHeartbeats 4000000
/-! Data that is good to be shown: short texts, small numbers; how long its text can be. -/
namespace Tl
open PySem L2
mutual
def wt : PyData → Nat
  | .none => 4
  | .bool _ => 5
  | .int _ => 1930
  | .str s => 10 * s.length + 4
  | .list ds => 3 + wtAll ds
  | .tuple ds => 3 + wtAll ds
  | .dict _ => 2
def wtAll : List PyData → Nat
  | [] => 0
  | d :: ds => wt d + 2 + wtAll ds
end
mutual
def gd : PyData → Bool
  | .none => true
  | .bool _ => true
  | .int i => decide (i.natAbs < 10 ^ 41)
  | .str s => decide (s.length ≤ 1000) && PyData.strOk s
  | .list ds => gdAll ds
  | .tuple ds => gdAll ds
  | .dict _ => false
def gdAll : List PyData → Bool
  | [] => true
  | d :: ds => gd d && gdAll ds
end
mutual
theorem gd_txt : ∀ d : PyData, gd d = true → txt d = true
  | .none, _ => rfl
  | .bool _, _ => rfl
  | .int _, _ => rfl
  | .str s, h => by rw [gd] at h; rw [txt]; exact h
  | .list ds, h => by rw [gd] at h; rw [txt]; exact gdAll_txt ds h
  | .tuple ds, h => by rw [gd] at h; rw [txt]; exact gdAll_txt ds h
  | .dict _, h => Bool.noConfusion h
theorem gdAll_txt : ∀ ds : List PyData, gdAll ds = true → txtAll ds = true
  | [], _ => rfl
  | d :: ds, h => by
    rw [gdAll, Bool.and_eq_true] at h
    rw [txtAll, gd_txt d h.1, gdAll_txt ds h.2]
    rfl
end
theorem big41 : (10 : Nat) ^ 41 ≤ 2 ^ 1920 := Nat.le_trans (show (10 : Nat) ^ 41 ≤ 2 ^ 200 by decide) (Nat.pow_le_pow_right (by decide) (by decide))
mutual
theorem gd_show : ∀ d : PyData, gd d = true → d.showable = true
  | .none, _ => rfl
  | .bool _, _ => rfl
  | .int i, h => by
    rw [gd] at h
    have h2 : i.natAbs < 10 ^ 41 := of_decide_eq_true h
    rw [PyData.showable]
    apply decide_eq_true
    by_cases h0 : i.natAbs = 0
    · rw [h0]; decide
    · exact (Nat.log2_lt h0).mpr (Nat.lt_of_lt_of_le h2 big41)
  | .str s, h => rfl
  | .list ds, h => by rw [gd] at h; rw [PyData.showable]; exact gdAll_show ds h
  | .tuple ds, h => by rw [gd] at h; rw [PyData.showable]; exact gdAll_show ds h
  | .dict _, h => Bool.noConfusion h
theorem gdAll_show : ∀ ds : List PyData, gdAll ds = true → PyData.showableAll ds = true
  | [], _ => rfl
  | d :: ds, h => by
    rw [gdAll, Bool.and_eq_true] at h
    rw [PyData.showableAll, gd_show d h.1, gdAll_show ds h.2]
    rfl
end
theorem textFrom_le : ∀ (ts : List Str) (k : Nat) (acc : Str), (textFrom k acc ts).length ≤ acc.length + piled ts
  | [], k, acc => by rw [piled_nil]; exact Nat.le_refl _
  | t :: r, k, acc => by
    have ih := textFrom_le r (k + 1) (acc ++ (if k > 0 then ", " else "" : String) ++ t)
    have e : (acc ++ (if k > 0 then ", " else "" : String) ++ t).length ≤ acc.length + 2 + t.length := by
      rw [strLen_append, strLen_append]
      have : ((if k > 0 then ", " else "" : String) : Str).length ≤ 2 := by split <;> decide +kernel
      omega
    show (textFrom (k + 1) _ r).length ≤ _
    rw [piled_cons]
    omega
theorem listText_le (ts : List Str) : (listText ts).length ≤ piled ts + 2 := by
  unfold listText
  rw [strLen_append]
  have h := textFrom_le ts 0 "["
  have e1 : ((("[" : String) : Str)).length = 1 := rfl
  have e2 : ((("]" : String) : Str)).length = 1 := rfl
  rw [e1] at h
  rw [e2]
  omega
mutual
theorem shown_le : ∀ d : PyData, gd d = true → d.shown.length ≤ wt d
  | .none, _ => by decide +kernel
  | .bool true, _ => by decide +kernel
  | .bool false, _ => by decide +kernel
  | .int i, h => by
    rw [gd] at h
    have h2 : i.natAbs < 10 ^ 41 := of_decide_eq_true h
    have h4 : i.natAbs.log2 < 1920 := by
      by_cases h0 : i.natAbs = 0
      · rw [h0]; decide
      · exact (Nat.log2_lt h0).mpr (Nat.lt_of_lt_of_le h2 big41)
    have h3 := PyProof.Rows.int_text_len_1921 h4
    show (Str.ofString (toString i)).length ≤ 1930
    omega
  | .str s, h => by
    rw [gd, Bool.and_eq_true] at h
    have h2 := h.2
    rw [PyData.strOk, ← Array.all_toList, List.all_eq_true] at h2
    have h3 := StrLaws.reprText_len s fun c hc => Nat.lt_of_lt_of_le (of_decide_eq_true (h2 c hc)) (by decide)
    show (reprText s).length ≤ 10 * s.length + 4
    omega
  | .list ds, h => by
    rw [gd] at h
    have h2 := shownAll_le ds h
    have h3 := listText_le (PyData.shownAll ds)
    show (listText (PyData.shownAll ds)).length ≤ 3 + wtAll ds
    omega
  | .tuple ds, h => by
    rw [gd] at h
    have h2 := shownAll_le ds h
    have h3 := fmt_text (PyData.shownAll ds)
    show (tupleText (PyData.shownAll ds)).length ≤ 3 + wtAll ds
    omega
  | .dict _, h => Bool.noConfusion h
theorem shownAll_le : ∀ ds : List PyData, gdAll ds = true → piled (PyData.shownAll ds) ≤ wtAll ds
  | [], _ => Nat.le_refl _
  | d :: ds, h => by
    rw [gdAll, Bool.and_eq_true] at h
    have h1 := shown_le d h.1
    have h2 := shownAll_le ds h.2
    rw [PyData.shownAll, piled_cons, wtAll]
    omega
end
theorem gdAll_get : ∀ {ds : List PyData} {i : Nat} {d : PyData}, gdAll ds = true → ds[i]? = some d → gd d = true ∧ wt d + 2 ≤ wtAll ds ∧ d.depth ≤ PyData.depthAll ds
  | [], _, _, _, e => by simp at e
  | a :: r, 0, d, h, e => by
    rw [gdAll, Bool.and_eq_true] at h
    simp at e
    subst e
    rw [wtAll, PyData.depthAll]
    exact ⟨h.1, by omega, Nat.le_max_left _ _⟩
  | a :: r, i + 1, d, h, e => by
    rw [gdAll, Bool.and_eq_true] at h
    obtain ⟨h1, h2, h3⟩ := gdAll_get (i := i) h.2 (by simpa using e)
    rw [wtAll, PyData.depthAll]
    exact ⟨h1, by omega, Nat.le_trans h3 (Nat.le_max_right _ _)⟩
theorem gdAll_app : ∀ {ds es : List PyData}, gdAll (ds ++ es) = (gdAll ds && gdAll es)
  | [], es => by rw [List.nil_append, gdAll, Bool.true_and]
  | a :: r, es => by rw [List.cons_append, gdAll, gdAll, gdAll_app, Bool.and_assoc]
theorem wtAll_app : ∀ {ds es : List PyData}, wtAll (ds ++ es) = wtAll ds + wtAll es
  | [], es => by rw [List.nil_append, wtAll, Nat.zero_add]
  | a :: r, es => by rw [List.cons_append, wtAll, wtAll, wtAll_app]; omega
theorem depthAll_app : ∀ {ds es : List PyData}, PyData.depthAll (ds ++ es) = max (PyData.depthAll ds) (PyData.depthAll es)
  | [], es => by rw [List.nil_append, PyData.depthAll]; omega
  | a :: r, es => by rw [List.cons_append, PyData.depthAll, PyData.depthAll, depthAll_app]; omega
theorem gdAll_rep {ds : List PyData} (h : gdAll ds = true) : ∀ n, gdAll (List.replicate n ds).flatten = true
  | 0 => rfl
  | n + 1 => by rw [List.replicate_succ, List.flatten_cons, gdAll_app, h, gdAll_rep h n]; rfl
theorem wtAll_rep (ds : List PyData) : ∀ n, wtAll (List.replicate n ds).flatten = n * wtAll ds
  | 0 => by rw [Nat.zero_mul]; rfl
  | n + 1 => by rw [List.replicate_succ, List.flatten_cons, wtAll_app, wtAll_rep ds n, Nat.succ_mul]; omega
theorem depthAll_rep (ds : List PyData) : ∀ n, PyData.depthAll (List.replicate n ds).flatten ≤ PyData.depthAll ds
  | 0 => Nat.zero_le _
  | n + 1 => by
    have := depthAll_rep ds n
    rw [List.replicate_succ, List.flatten_cons, depthAll_app]
    omega
theorem depthAll_le {ds : List PyData} {m : Nat} : (∀ d ∈ ds, d.depth ≤ m) → PyData.depthAll ds ≤ m := by
  induction ds with
  | nil => intro _; exact Nat.zero_le _
  | cons a r ih =>
    intro h
    rw [PyData.depthAll]
    have h1 := h a List.mem_cons_self
    have h2 := ih fun d hd => h d (List.mem_cons_of_mem _ hd)
    omega
theorem gdAll_of {ds : List PyData} : (∀ d ∈ ds, gd d = true) → gdAll ds = true := by
  induction ds with
  | nil => intro _; rfl
  | cons a r ih =>
    intro h
    rw [gdAll, h a List.mem_cons_self, ih fun d hd => h d (List.mem_cons_of_mem _ hd)]
    rfl
theorem len_wt : ∀ ds : List PyData, 2 * ds.length ≤ wtAll ds
  | [] => Nat.zero_le _
  | a :: r => by
    have := len_wt r
    rw [wtAll, List.length_cons]
    omega

/-! ### trees -/
def tags6 : List Str := ["a", "b", "ab", "zz", "abcdefgh", "z"]
def tagOk (s : Str) : Prop := 1 ≤ s.length ∧ s.length ≤ 8 ∧ (PyData.strOk s = true ∧ s ∈ tags6)
def TrD : Nat → PyData → Prop
  | 0, _ => False
  | h + 1, d => ∃ (s : Str) (ks : List PyData), d = .tuple [.str s, .tuple ks] ∧ tagOk s ∧ ∀ k ∈ ks, TrD h k
theorem TrD.mono : ∀ {h h' : Nat} {d : PyData}, h ≤ h' → TrD h d → TrD h' d
  | 0, _, _, _, t => t.elim
  | h + 1, 0, _, e, _ => by omega
  | h + 1, h' + 1, d, e, t => by
    obtain ⟨s, ks, rfl, a, b⟩ := t
    exact ⟨s, ks, rfl, a, fun k hk => TrD.mono (by omega) (b k hk)⟩
theorem gd_tag {s : Str} (h : tagOk s) : gd (.str s) = true := by
  rw [gd, h.2.2.1, decide_eq_true (by have := h.2.1; omega)]
  rfl
theorem TrD.gd : ∀ {h : Nat} {d : PyData}, TrD h d → gd d = true ∧ d.depth ≤ 2 * h
  | 0, _, t => t.elim
  | h + 1, d, t => by
    obtain ⟨s, ks, rfl, a, b⟩ := t
    have g1 : gdAll ks = true := gdAll_of fun k hk => (TrD.gd (b k hk)).1
    have g2 : PyData.depthAll ks ≤ 2 * h := depthAll_le fun k hk => (TrD.gd (b k hk)).2
    refine ⟨?_, ?_⟩
    · rw [Tl.gd, gdAll, gdAll, gdAll, gd_tag a, Tl.gd, g1]
      rfl
    · simp only [PyData.depth, PyData.depthAll]
      omega
theorem wt_node (s : Str) (ks : List PyData) : wt (.tuple [.str s, .tuple ks]) = 10 * s.length + 14 + wtAll ks := by
  simp only [wt, wtAll]
  omega

/-! ### the heap: data in F within H, the source of numbers at st -/
structure Gw (F H F' H' : Hp) : Prop where
  ff : Same F F'
  fh : Same F' H'
  hh : Same H H'
  nw : ∀ b, H b ≠ none → F b = none → F' b = none
theorem Gw.refl {F H : Hp} (e : Same F H) : Gw F H F H := ⟨Same.refl _, e, Same.refl _, fun _ _ h => h⟩
theorem Gw.trans {F H F1 H1 F2 H2 : Hp} (a : Gw F H F1 H1) (b : Gw F1 H1 F2 H2) : Gw F H F2 H2 :=
  ⟨a.ff.trans b.ff, b.fh, a.hh.trans b.hh, fun x h1 h2 => b.nw x (fun z => h1 (a.hh.free z)) (a.nw x h1 h2)⟩
theorem Gw.new {F H : Hp} {p : Addr} {o : HO} (e : Same F H) (h : H p = none) : Gw F H (upd F p o) (upd H p o) := by
  refine ⟨same_new (e.free h), fun b u q => ?_, same_new h, fun b h1 h2 => ?_⟩
  · by_cases z : b = p
    · subst z
      rw [upd_same] at q ⊢
      exact q
    · rw [upd_ne z] at q ⊢
      exact e b u q
  · rw [upd_ne (fun z => h1 (by rw [z]; exact h))]
    exact h2
theorem Gw.temp {F H : Hp} {p : Addr} {o : HO} (e : Same F H) (h : H p = none) : Gw F H F (upd H p o) :=
  ⟨Same.refl _, same_mut e (e.free h), same_new h, fun _ _ h2 => h2⟩
theorem Gw.more {F H F1 H1 H2 : Hp} (a : Gw F H F1 H1) (b : Same H1 H2) : Gw F H F1 H2 := ⟨a.ff, a.fh.trans b, a.hh.trans b, a.nw⟩
end Tl

set_option Elab.async false
set_option linter.all false
set_option maxRecDepth 100000
set_option maxHeartbeats 4000000
/-! A def called at one place alone (what stands around it is known), and a law's end by it. -/
namespace Tl
open PySem PySem.Spec PyProof.Rows L2
theorem run_at {P : Program} {w : World} {K : PySem.W.Frag} {mg : Str → Option Value} {base : Heap} {k : Nat} {f : Addr} {fd : FuncData} {x qual : Str} {st : Stmt} {N ps : List Str} {A0 : Around} {outer : List Env} {s : Shared} {H : Hp} {args : Args} {us : List Value} {vs : List V} {Q : VK} {E : XK}
    (F : Fun K x qual st f fd) (S : FnScope N ps (defScope st)) (hr : Room (k + 1) A0) (e0 : Env0 P w K mg base A0 outer s H) (hb : BindsTo s fd args (ps.zip us)) (r : Vals vs us) (hl : vs.length = ps.length)
    (body : ∀ cdv : Value, Room k (A0.deeper (envOfC qual (defScope st) s.heap.objs.size f cdv)) →
      ∃ t, PSs (cxOf CX0 P w K mg base N qual (defScope st) f cdv A0 outer s H E).nox (defBody st) t ∧ t { nx := fun _ H' => Q .non H', rt := Q } (start N vs) H) :
    codeAny (model P w) A0 (.call (.ref f) args) (CR CX0 outer P w H s Q E) s := by
  obtain ⟨oc, od, kV, doc, pm, an, cdv, ct, osl, rfl, lk, hcd⟩ := F.ex
  have keep : ∀ b o, base.get? b = some o → s.heap.get? b = some o := fun b o q => (e0.bs b o q).1
  have KX : K.In s.heap := e0.mod.kin.keeps keep
  have hkind : ∀ y ∈ ps.zip us, (defScope st).names.lookup y.1 = some .local ∨
      ((defScope st).names.lookup y.1 = some .cell ∧ ((cellsFrom (s.heap.objs.size + 1) (defScope st).names []).lookup y.1).isSome = true) := by
    rintro ⟨n, v⟩ hy
    exact (S.par n (List.of_mem_zip hy).1).imp id fun q => ⟨q, PySem.W.cellsFrom_some _ _ _ (.inl q)⟩
  refine codeAny_call_function hr.depth (KX _ _ lk) rfl S.co S.gen rfl
    (PySem.W.codeRec_of KX hcd) (hb _ _ _ _ ?_)
  refine wpAny_newFunctionEnv_cells S.kind hkind fun env he s1 xx => ?_
  subst he
  refine ⟨(e0.mod.nolimit.keeps keep).keeps xx.toInCall.keep, codeAny_func ?_⟩
  obtain ⟨t, ht, hq⟩ := body cdv (hr.deeper _)
  have I := inv_start (CX := CX0) (E := E) S hr.hd e0 hl r xx
  refine wpAny_mono (ht.nox.run [] s1 (start N vs) H _ I hq) (fun fl s' hs => ?_) fun e s' hs => hs
  cases fl with
  | ret u =>
    obtain ⟨v, σ', H', J, rv, q⟩ := hs
    exact ⟨v, H', J.os, J.bare, J.base, J.hok, rv, q⟩
  | next =>
    obtain ⟨σ', H', J, q⟩ := hs
    exact ⟨V.non, H', J.os, J.bare, J.base, J.hok, rfl, q⟩
  | brk =>
    obtain ⟨_, _, _, q⟩ := hs
    exact q.elim
  | cont =>
    obtain ⟨_, _, _, q⟩ := hs
    exact q.elim
/-- what is tracked as a law begins: nothing, or the script alone, locked -/
def onlyAt (a : Addr) (o : Obj) (xs : List V) : Hp := fun b => if b = a then some (.frz o (.lst xs)) else none
theorem end_at {P : Program} {w : World} {K : PySem.W.Frag} {mg mb : Str → Option Value} {fa a : Addr} {s₁ : Shared} {vs : List Value} {ns : List Int}
    (KX : K.In s₁.heap) (hns : s₁.heap.Ns mainGlobals mg) (hmb : s₁.heap.Ns builtinsNs mb) (hbb : ∀ x : Str, x ≠ "__name__" → mb x = bootBuiltins x)
    (hlim : s₁.heap.NoLimit) (hg : s₁.gens = #[]) (ha : s₁.heap.get? a = some { cls := .type "list", data := .seq vs.toArray }) (hi : IntsAre vs ns) (hl : ns.length ≤ sizeLine)
    (run : ∀ (base : Heap) (H : Hp), K.In base → base.Ns mainGlobals mg → SqL K H a (ns.map V.int) → Env0 P w K mg base callerA [] s₁ H →
      codeAny (model P w) callerA (.call (.ref fa) ⟨[.ref a], []⟩) (CR CX0 [] P w H s₁ (fun v _ => v = V.bl true) fun _ _ _ => False) s₁) :
    codeAny (model P w) callerA (.call (.ref fa) ⟨[.ref a], []⟩)
      (fun r s' => r = .ok (.ret (.bool true)) ∧ OldK s₁.heap s'.heap ∧ s'.os = s₁.os ∧ AllBare s'.gens) s₁ := by
  have rv := vals_ints hi
  have go : ∀ H : Hp, (∀ b u, H b = some u → b = a ∧ ∃ o xs, u = .frz o (.lst xs)) → SqL K H a (ns.map V.int) → HOk P w H s₁.heap → (H a ≠ none → K.lookup a = none) →
      codeAny (model P w) callerA (.call (.ref fa) ⟨[.ref a], []⟩)
        (fun r s' => r = .ok (.ret (.bool true)) ∧ OldK s₁.heap s'.heap ∧ s'.os = s₁.os ∧ AllBare s'.gens) s₁ := by
    intro H hO hS hok hK
    have bo : ∀ {b : Addr} {o : Obj}, s₁.heap.get? b = some o → H b = none → (hidT s₁.heap H).get? b = some o := fun q n => hidT_get q n
    have nd : ∀ {b : Addr} {o : Obj} {es : Array DictEntry} {ep : Nat}, s₁.heap.get? b = some o → o.data = .dict es ep → H b = none := by
      intro b o es ep q d
      cases z : H b with
      | none => rfl
      | some u =>
        obtain ⟨rfl, _⟩ := hO b u z
        rw [ha] at q
        cases q
        have d' : Data.seq vs.toArray _ = Data.dict es ep := d
        cases d'
    have nsK : ∀ {b : Addr} {m : Str → Option Value}, s₁.heap.Ns b m → (hidT s₁.heap H).Ns b m := by
      rintro b m ⟨o, es, ep, q, d, r⟩
      exact ⟨o, es, ep, bo q (nd q d), d, r⟩
    have hKb : K.In (hidT s₁.heap H) := fun b o q => bo (KX b o q) (by
      cases z : H b with
      | none => rfl
      | some u =>
        obtain ⟨rfl, _⟩ := hO b u z
        have := hK (by rw [z]; exact fun y => nomatch y)
        rw [this] at q
        cases q)
    obtain ⟨mc, l1, l2⟩ := hlim
    have hM : Mod K mg (hidT s₁.heap H) := ⟨hKb, nsK hns, ⟨mb, nsK hmb, hbb⟩, ⟨mc, nsK l1, l2⟩⟩
    have e0 : Env0 P w K mg (hidT s₁.heap H) callerA [] s₁ H :=
      ⟨rfl, hM, fun b o q => of_hidT q, Nat.le_of_eq (hidT_size _ _), trivial, fun b hb => absurd (show b ∈ ([] : List Addr) from hb) (by simp), hok, .of_eq hg⟩
    refine codeAny_mono (run _ H hKb (nsK hns) hS e0) fun r s' h => ?_
    cases r with
    | error e => exact h.elim
    | ok fl =>
      cases fl with
      | ret u =>
        obtain ⟨v, H', os, bare, un, hok', r', q⟩ := h
        have q' : v = .bl true := q
        subst q'
        obtain rfl : u = Value.bool true := r'
        refine ⟨rfl, OldK.of_keep fun b o e => ?_, os, bare⟩
        cases z : H b with
        | none => exact un.keep b o e z (fun y => absurd (show b ∈ ([] : List Addr) from y) (by simp)) (by simp)
        | some u =>
          obtain ⟨rfl, ob, xs, rfl⟩ := hO b u z
          have z2 := un.frzs b ob _ z
          obtain ⟨e1, _⟩ := hok b _ z
          obtain ⟨e2, _⟩ := hok' b _ z2
          rw [e] at e1
          cases e1
          exact e2
      | next => exact h.elim
      | brk => exact h.elim
      | cont => exact h.elim
  have lenV := hi.length
  cases hk : K.lookup a with
  | some o =>
    have e := KX a o hk
    rw [ha] at e
    cases e
    have no : ∀ (b : Addr) (u : HO), (fun _ : Addr => (none : Option HO)) b = some u → False := fun b u z => by
      have z' : (none : Option HO) = some u := z
      cases z'
    exact go (fun _ => none) (fun b u z => (no b u z).elim) (.inr ⟨_, vs.toArray, _, hk, rfl, rfl, rfl, by rw [List.size_toArray, lenV]; exact hl, by simpa using rv⟩)
      (fun b u z => (no b u z).elim) fun z => absurd rfl z
  | none =>
    have at_a : onlyAt a { cls := .type "list", data := .seq vs.toArray } (ns.map V.int) a = some (.frz { cls := .type "list", data := .seq vs.toArray } (.lst (ns.map V.int))) := if_pos rfl
    have only : ∀ b u, onlyAt a { cls := .type "list", data := .seq vs.toArray } (ns.map V.int) b = some u → b = a ∧ u = .frz { cls := .type "list", data := .seq vs.toArray } (.lst (ns.map V.int)) := fun b u z => by
      unfold onlyAt at z
      by_cases hb : b = a
      · rw [if_pos hb] at z
        exact ⟨hb, (Option.some.inj z).symm⟩
      · rw [if_neg hb] at z
        cases z
    refine go (onlyAt a { cls := .type "list", data := .seq vs.toArray } (ns.map V.int)) (fun b u z => ?_) (.inl (.inr ⟨_, at_a⟩)) (fun b u z => ?_) fun _ => hk
    · obtain ⟨h1, h2⟩ := only b u z
      exact ⟨h1, _, _, h2⟩
    · obtain ⟨rfl, rfl⟩ := only b u z
      exact ⟨ha, by rw [List.length_map]; exact hl, vs, _, rv, ha⟩
theorem walk_at_top {l : PySem.W.OpenLaw} {n : Nat} {q : Program} {loose : List Str} {XP : (Str → Option Value) → Heap → Prop} {YP : World → Heap → Prop} {d : DefRec} {K : Params → PySem.W.Frag}
    (hn : l.most = some n) (hn2 : n ≤ sizeLine) (hdf : d.params.defaults = []) (hY : ∀ (w : World) (h : Heap), YP w h → (K w.params).In h)
    (F : ∀ (w : World) (mg : Str → Option Value) (fa : Addr) (h : Heap), (K w.params).In h → h.Ns mainGlobals mg → mg d.name = some (.ref fa) →
      ∀ (s₁ : Shared) (base : Heap) (H : Hp) (a : Addr) (ns : List Int), ns.length ≤ n → (K w.params).In base → base.Ns mainGlobals mg → SqL (K w.params) H a (ns.map V.int) → Env0 l.prog w (K w.params) mg base callerA [] s₁ H →
        codeAny (model l.prog w) callerA (.call (.ref fa) ⟨[.ref a], []⟩) (CR CX0 [] l.prog w H s₁ (fun v _ => v = V.bl true) fun _ _ _ => False) s₁) :
    PySem.W.WalkO q loose XP YP l.row.toRowW d [] (fun f vs => PySem.call f vs) := by
  refine Att.attach_call hn hdf fun w s₀ s₁ mg mb fa o pm cd doc a vs ns G Y ho hd hcd hmg hobj hints hlen hg => ?_
  have KX := hY w _ Y
  exact end_at KX G.T.g G.T.b G.T.builtins G.T.nolimit hg hobj hints (Nat.le_trans hlen hn2)
    fun base H h1 h2 h3 h4 => F w mg fa _ KX G.T.g hmg s₁ base H a ns hlen h1 h2 h3 h4
end Tl

set_option Elab.async false
set_option linter.all false
set_option maxRecDepth 100000
set_option maxHeartbeats 4000000
namespace Tl
open PySem L2
def top (i : Nat) : Stmt := PySem.Challenge.pw_treelore_k03_deeds_or_not.main.body.getD i (.Pass ⟨0, 0, 0, 0⟩)
abbrev sIsCount : Stmt := top 4
abbrev sIsNumber : Stmt := top 5
abbrev sIsTag : Stmt := top 6
abbrev sIsPath : Stmt := top 7
abbrev sIsTree : Stmt := top 8
abbrev sRoom : Stmt := top 9
abbrev sTagKids : Stmt := top 10
/-! ### what they answer -/
def isCount : PyData → Bool
  | .int i => decide (0 ≤ i)
  | _ => false
def isNum (m : Int) : PyData → Bool
  | .int i => decide (0 ≤ i) && decide (i ≤ m)
  | _ => false
def small (c : Nat) : Bool := decide (97 ≤ c) && decide (c ≤ 122)
def isTag : PyData → Bool
  | .str s => decide (1 ≤ s.length) && decide (s.length ≤ 8) && s.cps.toList.all small
  | _ => false
def isPath : PyData → Bool
  | .tuple ds => decide (ds.length < 12) && ds.all (isNum 59)
  | _ => false
def tagKids : PyData → Bool
  | .tuple [a, b] => isTag a && isTup b
  | _ => false
def spB (K : PySem.W.Frag) (f : PyData → Bool) : Sp := fun vs H Q _ => ∃ (v : V) (d : PyData), vs = [v] ∧ Dt K H v d ∧ txt d = true ∧ ∀ H', Same H H' → Q (.bl (f d)) H'
def spB2 (K : PySem.W.Frag) (f : Int → PyData → Bool) : Sp := fun vs H Q _ => ∃ (v : V) (d : PyData) (m : Int), vs = [v, .int m] ∧ Dt K H v d ∧ txt d = true ∧ ∀ H', Same H H' → Q (.bl (f m d)) H'
/-- the program's own numbers -/
structure Cs (mg : Str → Option Value) : Prop where
  SIZE : ∃ t, mg "SIZE" = some (.int 60 t)
  DEPTH : ∃ t, mg "DEPTH" = some (.int 12 t)
  SIGNS : ∃ t, mg "SIGNS" = some (.int 8 t)
theorem c_SIZE {X : Cx} (C : Cs X.mg) {p : Pos} (hg : Gl X "SIZE" := by rfl) : PE X (.Name "SIZE" p) (tC (.int 60)) := by
  obtain ⟨t, e⟩ := C.SIZE
  exact pe_glob hg e ⟨t, rfl⟩
theorem c_DEPTH {X : Cx} (C : Cs X.mg) {p : Pos} (hg : Gl X "DEPTH" := by rfl) : PE X (.Name "DEPTH" p) (tC (.int 12)) := by
  obtain ⟨t, e⟩ := C.DEPTH
  exact pe_glob hg e ⟨t, rfl⟩
theorem c_SIGNS {X : Cx} (C : Cs X.mg) {p : Pos} (hg : Gl X "SIGNS" := by rfl) : PE X (.Name "SIGNS" p) (tC (.int 8)) := by
  obtain ⟨t, e⟩ := C.SIGNS
  exact pe_glob hg e ⟨t, rfl⟩
theorem iteE {x y : Int} {A B : Prop} (h1 : x = y → A) (h2 : ¬ x = y → B) : if decide (V.int x = V.int y) = true then A else B :=
  iteD (fun c => h1 (V.int.inj c)) fun c => h2 fun z => c (by rw [z])
section
variable {P : Program} {w : World} {K : PySem.W.Frag} {mg : Str → Option Value} {base : Heap}
theorem scCount : FnScope ["thing"] ["thing"] (defScope sIsCount) := ⟨rfl, rfl, rfl, by decide +kernel, rfl, by decide +kernel, by decide +kernel⟩
theorem ok_count {f : Addr} {fd : FuncData} {k : Nat} (F : Fun K "is_count" "is_count" sIsCount f fd) (T : Bl mg) : FnOk P w K mg base CX0 (k + 1) f fd ["thing"] (spB K isCount) := by
  refine F.ok scCount (fun vs H Q E h => ?_) (fun cdv A outer s H vs Q E hr h => ?_)
  · obtain ⟨v, d, rfl, _⟩ := h
    rfl
  obtain ⟨v, d, rfl, hv, _, q⟩ := h
  refine ⟨_, (pss_one (ps_ret (pe_and (pe_callB (r := rIsi K) call_isi (by rfl) T.isi PyProof.Rows.boot_isinstance (pa_cons (pv 0) (pa_cons (b_int T) pa_nil))) (pe_and (pe_not (pe_callB (r := rIsi K) call_isi (by rfl) T.isi PyProof.Rows.boot_isinstance (pa_cons (pv 0) (pa_cons (b_bool T) pa_nil)))) (pe_one (pe_cmpR op_ge (pv 0) pe_int (nomark _))))))), ?_⟩
  refine ⟨v, rfl, v, .ty "int", _, _, _, rfl, .ty "int", ty_data hv, kit_ty (kit_int d), _, rfl, ?_⟩
  have q' := q H (Same.refl H)
  cases d with
  | int i =>
    cases hv with
    | d hv =>
      cases hv
      refine ⟨_, rfl, _, .ty "bool", _, _, _, rfl, .ty "bool", ty_data (.d (.int i)), kit_ty (kit_bl _), _, rfl, _, rfl, ?_⟩
      exact ⟨_, rfl, i, 0, rfl, rfl, q'⟩
  | bool b =>
    refine ⟨v, rfl, v, .ty "bool", _, _, _, rfl, .ty "bool", ty_data hv, kit_ty (kit_bl _), _, rfl, _, rfl, ?_⟩
    exact q'
  | none => exact q'
  | str s => exact q'
  | list s => exact q'
  | tuple s => exact q'
  | dict s => exact q'
theorem scNumber : FnScope ["thing", "most"] ["thing", "most"] (defScope sIsNumber) := ⟨rfl, rfl, rfl, by decide +kernel, rfl, by decide +kernel, by decide +kernel⟩
theorem ok_number {f : Addr} {fd : FuncData} {k j : Nat} (F : Fun K "is_number" "is_number" sIsNumber f fd) (Uis_count : Use P w K mg base "is_count" ["thing"] j (spB K isCount)) (hj : j ≤ k) (T : Bl mg) : FnOk P w K mg base CX0 (k + 1) f fd ["thing", "most"] (spB2 K isNum) := by
  refine F.ok scNumber (fun vs H Q E h => ?_) (fun cdv A outer s H vs Q E hr h => ?_)
  · obtain ⟨v, d, m, rfl, _⟩ := h
    rfl
  obtain ⟨v, d, m, rfl, hv, ht, q⟩ := h
  refine ⟨_, (pss_one (ps_ret (pe_and (pe_call Uis_count.ok (hr.mono (by omega)) rfl Uis_count.m Uis_count.kp Uis_count.b .nil pass0 (pa_cons (pv 0) pa_nil)) (pe_one (pe_cmpR op_le (pv 0) (pv 1) (nomark _)))))), ?_⟩
  refine ⟨v, rfl, v, d, rfl, hv, ht, fun H' e => ⟨_, rfl, ?_⟩⟩
  have q' := q H' e
  cases d with
  | int i =>
    cases hv with
    | d hv =>
      cases hv
      refine ite2 (fun c => ?_) (fun c => ?_)
      · refine ⟨_, rfl, _, rfl, i, m, rfl, rfl, ?_⟩
        simp only [isNum] at q'
        rw [show decide (0 ≤ i) = true from c, Bool.true_and] at q'
        exact q'
      · have c' : decide (0 ≤ i) = false := Bool.eq_false_iff.mpr c
        simp only [isNum] at q'
        rw [c', Bool.false_and] at q'
        exact q'
  | bool b => exact q'
  | none => exact q'
  | str s => exact q'
  | list s => exact q'
  | tuple s => exact q'
  | dict s => exact q'
theorem lex1 (a b : Nat) : ([a] : List Nat) < [b] ↔ a < b := by
  constructor
  · intro h
    cases h with
    | rel h => exact h
    | cons h => cases h
  · intro h
    exact List.Lex.rel h
theorem le_a (c : Nat) : (!decide ((⟨#[c]⟩ : Str).cps.toList < ("a" : Str).cps.toList)) = decide (97 ≤ c) := by
  show (!decide ([c] < [97])) = _
  rw [decide_eq_decide.mpr (lex1 c 97)]
  by_cases h : c < 97
  · rw [decide_eq_true h, decide_eq_false (by omega)]; rfl
  · rw [decide_eq_false h, decide_eq_true (by omega)]; rfl
theorem le_z (c : Nat) : (!decide (("z" : Str).cps.toList < (⟨#[c]⟩ : Str).cps.toList)) = decide (c ≤ 122) := by
  show (!decide ([122] < [c])) = _
  rw [decide_eq_decide.mpr (lex1 122 c)]
  by_cases h : 122 < c
  · rw [decide_eq_true h, decide_eq_false (by omega)]; rfl
  · rw [decide_eq_false h, decide_eq_true (by omega)]; rfl
theorem scTag : FnScope ["thing", "sign"] ["thing"] (defScope sIsTag) := ⟨rfl, rfl, rfl, by decide +kernel, rfl, by decide +kernel, by decide +kernel⟩
theorem ok_tag {f : Addr} {fd : FuncData} {k : Nat} (F : Fun K "is_tag" "is_tag" sIsTag f fd) (T : Bl mg) (C : Cs mg) : FnOk P w K mg base CX0 (k + 1) f fd ["thing"] (spB K isTag) := by
  refine F.ok scTag (fun vs H Q E h => ?_) (fun cdv A outer s H vs Q E hr h => ?_)
  · obtain ⟨v, d, rfl, _⟩ := h
    rfl
  obtain ⟨v, d, rfl, hv, ht, q⟩ := h
  refine ⟨_, (pss_cons (ps_if (PW.pt (pw_or (pt_not (pt_val (pe_callB (r := rIsi K) call_isi (by rfl) T.isi PyProof.Rows.boot_isinstance (pa_cons (pv 0) (pa_cons (b_str T) pa_nil))))) (pw_or1 (pt_not (pt_chain op_le op_le pe_int (pe_callB call_len_str (by rfl) T.len PySem.boot_len (pa_cons (pv 0) pa_nil)) (c_SIGNS C)))))) (pss_one (ps_ret pe_bl)) pss_nil)
    (pss_one (ps_ret (pe_callB (cr_all rfl) (by rfl) T.all PyProof.Rows.boot_all (pa_cons (pe_lc (own := [("sign", 1)]) (g := gName 1) (tt := tYes) (by rfl) scTag.nd (pi_str (pv 0)) (blkOk_by (N := ["thing", "sign"]) (sc := defScope sIsTag) (own := [("sign", 1)]) (by decide +kernel)) (fun _ _ _ _ _ => pg_name (i := 1) scTag.nd rfl (Or.inl rfl)) (fun _ _ _ _ _ => pts_nil) (fun _ _ _ _ _ => (pe_chain op_le_str op_le_str pe_str (pv 1) pe_str))) pa_nil))))), ?_⟩
  refine ⟨v, rfl, v, .ty "str", _, _, _, rfl, .ty "str", ty_data hv, kit_ty (kit_str d), _, rfl, ?_⟩
  cases d with
  | str z =>
    cases hv with
    | d hv =>
      cases hv
      have hz : z.length ≤ 1000 := (txt_str ht).1
      refine ⟨_, rfl, z, rfl, sz1000 hz, 1, _, rfl, rfl, _, rfl, ?_⟩
      have hl : z.length = z.cps.toList.length := rfl
      have key : ∀ H', Same H H' → (1 ≤ z.length → z.length ≤ 8 → Q (.bl (z.cps.toList.all small)) H') ∧ (¬ (1 ≤ z.length ∧ z.length ≤ 8) → Q (.bl false) H') := fun H' e => by
        have q' := q H' e
        rw [isTag] at q'
        refine ⟨fun h1 h2 => ?_, fun h1 => ?_⟩
        · rw [decide_eq_true h1, decide_eq_true h2] at q'
          exact q'
        · by_cases c : 1 ≤ z.length
          · rw [decide_eq_false (p := z.length ≤ 8) (fun c2 => h1 ⟨c, c2⟩), Bool.and_false, Bool.false_and] at q'
            exact q'
          · rw [decide_eq_false c, Bool.false_and, Bool.false_and] at q'
            exact q'
      have tail : ∀ H', Same H H' → 1 ≤ z.length → z.length ≤ 8 → tRet (tCB (rAll K) (tCons (tLc (iStr (tVar 0)) (gName 1) tYes (tChain (fun x y H Q => ∃ i j, x = V.str i ∧ y = V.str j ∧ Q (V.bl (!decide (j.cps.toList < i.cps.toList))) H) (fun x y H Q => ∃ i j, x = V.str i ∧ y = V.str j ∧ Q (V.bl (!decide (j.cps.toList < i.cps.toList))) H) (tC (.str "a")) (tVar 1) (tC (.str "z"))) [1]) tNil)) { nx := fun _ H' => Q .non H', rt := Q } [some (.str z), none] H' := fun H' e h1 h2 => by
        refine ⟨_, rfl, z, rfl, fun D hD => ?_⟩
        refine lc_pure (n := z.cps.toList.length) (G := fun _ => True) fn_str (fun _ => true) (fun i => .bl (small (z.cps.toList.getD i 0))) (fun _ _ => True.intro) (by omega) (fun x => rfl) hD (fun i H3 _ _ Qt k => k H3 (Same.refl _)) (fun i H3 hi _ e3 Qe k => ?_) (fun H2 e2 h2' => ?_)
        · generalize z.cps.toList.getD i 0 = c at k ⊢
          refine ⟨.str ⟨#[c]⟩, rfl, _, _, rfl, rfl, _, rfl, ?_⟩
          have k' := k H3 (Same.refl _)
          rw [small] at k'
          rw [le_a]
          refine ite2 (fun c1 => ?_) (fun c1 => ?_)
          · refine ⟨_, _, rfl, rfl, ?_⟩
            rw [le_z]
            rw [c1, Bool.true_and] at k'
            exact k'
          · rw [Bool.eq_false_iff.mpr c1, Bool.false_and] at k'
            exact k'
        · rw [picked_all z.cps.toList 0 (fun c => V.bl (small c))] at h2'
          refine ⟨D, z.cps.toList.map small, rfl, .inl (.inl (by rw [List.map_map]; exact h2')), ?_⟩
          have q' := (key H2 (e.trans e2)).1 h1 h2
          rw [List.all_map]
          exact q'
      refine iteD (fun c1 => ?_) (fun c1 => ?_)
      · refine ⟨_, _, rfl, rfl, _, rfl, ?_⟩
        refine iteN (fun c2 => ?_) (fun c2 => ?_)
        · exact (key H (Same.refl H)).2 fun h => c2 (by omega)
        · exact tail H (Same.refl H) (by omega) (by omega)
      · refine ⟨_, rfl, ?_⟩
        exact (key H (Same.refl H)).2 fun h => c1 (by omega)
  | bool b => exact q H (Same.refl H)
  | int b => exact q H (Same.refl H)
  | none => exact q H (Same.refl H)
  | list s => exact q H (Same.refl H)
  | tuple s => exact q H (Same.refl H)
  | dict s => exact q H (Same.refl H)
theorem scPath : FnScope ["thing", "step"] ["thing"] (defScope sIsPath) := ⟨rfl, rfl, rfl, by decide +kernel, rfl, by decide +kernel, by decide +kernel⟩
theorem ok_path {f : Addr} {fd : FuncData} {k j : Nat} (F : Fun K "is_path" "is_path" sIsPath f fd) (Uis_number : Use P w K mg base "is_number" ["thing", "most"] j (spB2 K isNum)) (hj : j ≤ k) (T : Bl mg) (C : Cs mg) : FnOk P w K mg base CX0 (k + 1) f fd ["thing"] (spB K isPath) := by
  refine F.ok scPath (fun vs H Q E h => ?_) (fun cdv A outer s H vs Q E hr h => ?_)
  · obtain ⟨v, d, rfl, _⟩ := h
    rfl
  obtain ⟨v, d, rfl, hv, ht, q⟩ := h
  refine ⟨_, (pss_cons (ps_if (PW.pt (pw_or (pt_not (pt_val (pe_callB (r := rIsi K) call_isi (by rfl) T.isi PyProof.Rows.boot_isinstance (pa_cons (pv 0) (pa_cons (b_tuple T) pa_nil))))) (pw_or1 (pt_cmpR op_ge (pe_callB call_len_seq (by rfl) T.len PySem.boot_len (pa_cons (pv 0) pa_nil)) (c_DEPTH C) (nomark _))))) (pss_one (ps_ret pe_bl)) pss_nil)
    (pss_one (ps_ret (pe_callB (cr_all rfl) (by rfl) T.all PyProof.Rows.boot_all (pa_cons (pe_lc (own := [("step", 1)]) (g := gName 1) (tt := tYes) (by rfl) scPath.nd (pi_tup (pv 0)) (blkOk_by (N := ["thing", "step"]) (sc := defScope sIsPath) (own := [("step", 1)]) (by decide +kernel)) (fun _ _ _ _ _ => pg_name (i := 1) scPath.nd rfl (Or.inl rfl)) (fun _ _ _ _ _ => pts_nil) (fun _ _ _ _ _ => (pe_call Uis_number.ok (hr.mono (by omega)) rfl Uis_number.m Uis_number.kp Uis_number.b .nil pass0 (pa_cons (pv 1) (pa_cons (pe_op op_sub (c_SIZE C) pe_int) pa_nil))))) pa_nil))))), ?_⟩
  refine ⟨v, rfl, v, .ty "tuple", _, _, _, rfl, .ty "tuple", ty_data hv, kit_ty (kit_tup d), _, rfl, ?_⟩
  cases d with
  | tuple ds =>
    cases hv with
    | d hv =>
      cases hv with
      | @tup a xs _ hs hx =>
      have hl : xs.length = ds.length := DpAll.len hx
      rw [txt] at ht
      refine ⟨_, rfl, a, xs, rfl, .inr hs, _, _, rfl, rfl, _, rfl, ?_⟩
      refine iteD (fun c => ?_) (fun c => ?_)
      · have q' := q H (Same.refl H)
        rw [isPath, decide_eq_false (by omega), Bool.false_and] at q'
        exact q'
      · refine ⟨_, rfl, a, rfl, ⟨_, hs⟩, fun D hD => ?_⟩
        refine lc_pure (n := xs.length) (G := fun H => SqT K H a xs) fn_tup (fun _ => true) (fun i => .bl (isNum 59 (ds.getD i .none))) (fun _ e => same_t e hs) (by omega) (fun x => rfl) hD (fun i H3 _ _ Qt k => k H3 (Same.refl _)) (fun i H3 hi _ e3 Qe k => ?_) (fun H2 e2 h2' => ?_)
        · obtain ⟨d', h1, h2⟩ := DpAll.get hx (List.getElem?_eq_getElem hi)
          have e1 : xs.getD i .non = xs[i] := by rw [List.getD_eq_getElem?_getD, List.getElem?_eq_getElem hi]; rfl
          have e2 : ds.getD i .none = d' := by rw [List.getD_eq_getElem?_getD, h1]; rfl
          rw [e1]
          rw [e2] at k
          exact ⟨_, rfl, _, _, rfl, rfl, _, d', 59, rfl, .d (dp_mono e3 _ _ h2), txtAll_get ht h1, fun H' e' => k H' e'⟩
        · rw [hl, picked_all ds .none (fun d => V.bl (isNum 59 d))] at h2'
          refine ⟨D, ds.map (isNum 59), rfl, .inl (.inl (by rw [List.map_map]; exact h2')), ?_⟩
          have q' := q H2 e2
          rw [isPath, decide_eq_true (by omega), Bool.true_and] at q'
          rw [List.all_map]
          exact q'
  | str z => exact q H (Same.refl H)
  | bool b => exact q H (Same.refl H)
  | int b => exact q H (Same.refl H)
  | none => exact q H (Same.refl H)
  | list s => exact q H (Same.refl H)
  | dict s => exact q H (Same.refl H)
theorem scTagKids : FnScope ["thing"] ["thing"] (defScope sTagKids) := ⟨rfl, rfl, rfl, by decide +kernel, rfl, by decide +kernel, by decide +kernel⟩
theorem ok_tagKids {f : Addr} {fd : FuncData} {k j : Nat} (F : Fun K "is_tag_and_kids" "is_tag_and_kids" sTagKids f fd) (Uis_tag : Use P w K mg base "is_tag" ["thing"] j (spB K isTag)) (hj : j ≤ k) (T : Bl mg) : FnOk P w K mg base CX0 (k + 1) f fd ["thing"] (spB K tagKids) := by
  refine F.ok scTagKids (fun vs H Q E h => ?_) (fun cdv A outer s H vs Q E hr h => ?_)
  · obtain ⟨v, d, rfl, _⟩ := h
    rfl
  obtain ⟨v, d, rfl, hv, ht, q⟩ := h
  refine ⟨_, (pss_one (ps_ret (pe_and (pe_callB (r := rIsi K) call_isi (by rfl) T.isi PyProof.Rows.boot_isinstance (pa_cons (pv 0) (pa_cons (b_tuple T) pa_nil))) (pe_and (pe_cmpR op_eq (pe_callB call_len_seq (by rfl) T.len PySem.boot_len (pa_cons (pv 0) pa_nil)) pe_int (nomark _)) (pe_and (pe_call Uis_tag.ok (hr.mono (by omega)) rfl Uis_tag.m Uis_tag.kp Uis_tag.b .nil pass0 (pa_cons (pe_ix ix_tup (pv 0) pe_int (fun _ _ => rfl)) pa_nil)) (pe_one (pe_callB (r := rIsi K) call_isi (by rfl) T.isi PyProof.Rows.boot_isinstance (pa_cons (pe_ix ix_tup (pv 0) pe_int (fun _ _ => rfl)) (pa_cons (b_tuple T) pa_nil))))))))), ?_⟩
  refine ⟨v, rfl, v, .ty "tuple", _, _, _, rfl, .ty "tuple", ty_data hv, kit_ty (kit_tup d), _, rfl, ?_⟩
  cases d with
  | tuple ds =>
    cases hv with
    | d hv =>
      cases hv with
      | @tup a xs _ hs hx =>
      have hl : xs.length = ds.length := DpAll.len hx
      rw [txt] at ht
      refine ⟨_, rfl, a, xs, rfl, .inr hs, rfl, _, rfl, ?_⟩
      refine iteD (fun c => ?_) (fun c => ?_)
      · have c' : xs.length = 2 := by have := V.int.inj c; omega
        obtain ⟨x0, y0, a0, b0, rfl, rfl, h1, h2⟩ := DpAll.two hx c'
        refine ⟨_, rfl, a, _, 0, _, rfl, rfl, hs, atI_nat (j := 0) rfl, _, a0, rfl, .d h1, txtAll_get (i := 0) ht rfl, fun H' e => ⟨_, rfl, ?_⟩⟩
        have q' := q H' e
        rw [tagKids] at q'
        refine iteB (fun c1 => ?_) (fun c1 => ?_)
        · refine ⟨_, rfl, a, _, 1, _, rfl, rfl, same_t e hs, atI_nat (j := 1) rfl, y0, .ty "tuple", _, _, _, rfl, .ty "tuple", ty_data (.d (dp_mono e _ _ h2)), kit_ty (kit_tup b0), ?_⟩
          rw [c1, Bool.true_and] at q'
          exact q'
        · rw [c1, Bool.false_and] at q'
          exact q'
      · have q' := q H (Same.refl H)
        have e : tagKids (.tuple ds) = false := by
          unfold tagKids
          split
          · rename_i h
            cases h
            rw [hl] at c
            exact absurd rfl c
          · rfl
        rw [e] at q'
        exact q'
  | str z => exact q H (Same.refl H)
  | bool b => exact q H (Same.refl H)
  | int b => exact q H (Same.refl H)
  | none => exact q H (Same.refl H)
  | list s => exact q H (Same.refl H)
  | dict s => exact q H (Same.refl H)
end
end Tl

set_option Elab.async false
set_option linter.all false
set_option maxRecDepth 100000
set_option maxHeartbeats 4000000
namespace Tl
open PySem L2
def kidsD : PyData → List PyData
  | .tuple [_, .tuple ks] => ks
  | _ => []
/-- the room behind a tree, its kids one behind another -/
def roomB : Nat → PyData → Nat → Option Nat
  | 0, _, _ => none
  | _ + 1, _, 0 => none
  | l + 1, d, r + 1 => if tagKids d = true then (kidsD d).foldl (fun o kd => o.bind (roomB l kd)) (some r) else none
def optV : Option Nat → V
  | none => .non
  | some n => .int n
def isTreeD (d : PyData) : Bool := (roomB 12 d 60).isSome
theorem fold_none {α : Type} (f : α → Nat → Option Nat) : ∀ ks : List α, ks.foldl (fun o kd => o.bind (f kd)) none = none
  | [] => rfl
  | _ :: r => by rw [List.foldl_cons]; exact fold_none f r
theorem fold_take {α : Type} (f : α → Nat → Option Nat) {ks : List α} {i : Nat} {kd : α} (h : ks[i]? = some kd) (o : Option Nat) :
    (ks.take (i + 1)).foldl (fun o kd => o.bind (f kd)) o = ((ks.take i).foldl (fun o kd => o.bind (f kd)) o).bind (f kd) := by
  rw [List.take_add_one, h, List.foldl_append]
  rfl
theorem fold_stop {α : Type} (f : α → Nat → Option Nat) {ks : List α} {i : Nat} {o : Option Nat} (h : (ks.take i).foldl (fun o kd => o.bind (f kd)) o = none) : ks.foldl (fun o kd => o.bind (f kd)) o = none := by
  rw [← List.take_append_drop i ks, List.foldl_append, h]
  exact fold_none f _
def spRoom (K : PySem.W.Frag) (n : Nat) : Sp := fun vs H Q _ => ∃ (v : V) (d : PyData) (l r : Nat), vs = [v, .int (l : Nat), .int (r : Nat)] ∧ Dt K H v d ∧ txt d = true ∧ l < n ∧ ∀ H', Same H H' → Q (optV (roomB l d r)) H'
section
variable {P : Program} {w : World} {K : PySem.W.Frag} {mg : Str → Option Value} {base : Heap}
theorem scRoom : FnScope ["thing", "levels", "room", "left", "kid"] ["thing", "levels", "room"] (defScope sRoom) := ⟨rfl, rfl, rfl, by decide +kernel, rfl, by decide +kernel, by decide +kernel⟩
theorem ok_room1 {f : Addr} {fd : FuncData} {n j : Nat} (F : Fun K "room_behind" "room_behind" sRoom f fd) (Uroom_behind : Use P w K mg base "room_behind" ["thing", "levels", "room"] (2 + n) (spRoom K n)) (Uis_tag_and_kids : Use P w K mg base "is_tag_and_kids" ["thing"] j (spB K tagKids)) (hj : j ≤ 2) (T : Bl mg) :
    FnOk P w K mg base CX0 (2 + n + 1) f fd ["thing", "levels", "room"] (spRoom K (n + 1)) := by
  refine F.ok scRoom (fun vs H Q E h => ?_) (fun cdv A outer s H vs Q E hr h => ?_)
  · obtain ⟨v, d, l, r, rfl, _⟩ := h
    rfl
  obtain ⟨v, d, l, r, rfl, hv, ht, hl, q⟩ := h
  refine ⟨_, (pss_cons (ps_if (PW.pt (pw_or (pt_cmpR op_eq (pv 1) pe_int (nomark _)) (pw_or (pt_cmpR op_eq (pv 2) pe_int (nomark _)) (pw_or1 (pt_not (pt_val (pe_call Uis_tag_and_kids.ok (hr.mono (by omega)) rfl Uis_tag_and_kids.m Uis_tag_and_kids.kp Uis_tag_and_kids.b .nil pass0 (pa_cons (pv 0) pa_nil)))))))) (pss_one (ps_ret pe_non)) pss_nil)
    (pss_cons (ps_set (i := 3) scRoom.nd rfl (.inl rfl) (pe_op op_sub (pv 2) pe_int))
    (pss_cons (ps_for PassesOwn.never rfl (pi_tup (pe_ix ix_tup (pv 0) pe_int (fun _ _ => rfl))) (pg_name (i := 4) scRoom.nd rfl (.inl rfl)) (pss_cons (ps_set (i := 3) scRoom.nd rfl (.inl rfl) (pe_call Uroom_behind.ok (hr.mono (by omega)) rfl Uroom_behind.m Uroom_behind.kp Uroom_behind.b .nil pass0 (pa_cons (pv 4) (pa_cons (pe_op op_sub (pv 1) pe_int) (pa_cons (pv 3) pa_nil)))))
      (pss_one (ps_if (pt_cmpR op_isN (pv 3) pe_non (nomark _)) (pss_one (ps_ret pe_non)) pss_nil))))
    (pss_one (ps_ret (pv 3)))))), ?_⟩
  refine ⟨_, rfl, rfl, _, rfl, ?_⟩
  refine iteD (fun c => ?_) (fun c => ?_)
  · have e : l = 0 := by have := V.int.inj c; omega
    subst e
    exact q H (Same.refl H)
  obtain ⟨l, rfl⟩ : ∃ l', l = l' + 1 := ⟨l - 1, by
    have : ¬ l = 0 := fun e => c (by rw [e]; rfl)
    omega⟩
  refine ⟨_, rfl, rfl, _, rfl, ?_⟩
  refine iteD (fun c2 => ?_) (fun c2 => ?_)
  · have e : r = 0 := by have := V.int.inj c2; omega
    subst e
    exact q H (Same.refl H)
  obtain ⟨r, rfl⟩ : ∃ r', r = r' + 1 := ⟨r - 1, by
    have : ¬ r = 0 := fun e => c2 (by rw [e]; rfl)
    omega⟩
  refine ⟨_, rfl, v, d, rfl, hv, ht, fun H1 e1 => ⟨_, rfl, ?_⟩⟩
  cases c3 : tagKids d with
  | false =>
    have q' := q H1 e1
    rw [roomB, c3] at q'
    exact q'
  | true =>
    obtain ⟨a0, ks, rfl⟩ : ∃ a0 ks, d = .tuple [a0, .tuple ks] := by
      unfold tagKids at c3
      split at c3
      · rename_i a b
        cases b with
        | tuple ks => exact ⟨a, ks, rfl⟩
        | _ => simp [isTup] at c3
      · cases c3
    cases hv with
    | d hv =>
      cases hv with
      | @tup a xs _ hs hx =>
      obtain ⟨x0, y0, _, _, rfl, h00, h1, h2⟩ := DpAll.two hx (DpAll.len hx)
      cases h00
      cases h2 with
      | @tup b ys _ hs2 hy =>
      have hly : ys.length = ks.length := DpAll.len hy
      have ht2 : txtAll ks = true := by
        rw [txt, txtAll, txtAll, txt] at ht
        simp only [Bool.and_eq_true] at ht
        exact ht.2.1
      have Qr : ∀ H', Same H H' → Q (optV (ks.foldl (fun o kd => o.bind (roomB l kd)) (some r))) H' := fun H' e => by
        have q' := q H' e
        rw [roomB, if_pos c3] at q'
        exact q'
      refine ⟨_, rfl, _, _, rfl, rfl, ?_⟩
      refine ⟨_, rfl, a, _, 1, _, rfl, rfl, same_t e1 hs, atI_nat (j := 1) rfl, b, rfl, ⟨_, same_t e1 hs2⟩, ?_⟩
      refine for_tup (xs := ys) (fun i σ H2 => ∃ (m : Nat) (y : Option V), σ = [some (.ref a), some (.int ((l + 1 : Nat) : Int)), some (.int ((r + 1 : Nat) : Int)), some (.int (m : Int)), y] ∧ Same H H2 ∧ (ks.take i).foldl (fun o kd => o.bind (roomB l kd)) (some r) = some m)
        ⟨r, none, by show [_, _, _, some (V.int (((r + 1 : Nat) : Int) - 1)), _] = _; rw [show (((r + 1 : Nat) : Int) - 1) = (r : Int) by omega], e1, rfl⟩ (fun i σ H2 _ p => ?_) (fun i x σ H2 hx2 p => ?_) (fun σ H2 p => ?_)
      · obtain ⟨m, y, _, e2, _⟩ := p
        exact same_t e2 hs2
      · obtain ⟨m, y, rfl, e2, hm⟩ := p
        obtain ⟨kd, hk, hkd⟩ := DpAll.get hy hx2
        have hf := fold_take (fun kd => roomB l kd) hk (some r)
        rw [hm] at hf
        refine ⟨_, rfl, _, rfl, _, _, rfl, rfl, _, rfl, x, kd, l, m, ?_, .d (dp_mono e2 _ _ hkd), txtAll_get ht2 hk, by omega, fun H3 e3 => ?_⟩
        · show [x, V.int (((l + 1 : Nat) : Int) - 1), V.int (m : Int)] = _
          rw [show (((l + 1 : Nat) : Int) - 1) = (l : Int) by omega]
        · cases hr2 : roomB l kd m with
          | none =>
            refine ⟨_, rfl, rfl, _, rfl, ?_⟩
            have q' := Qr H3 (e2.trans e3)
            have hf' : (ks.take (i + 1)).foldl (fun o kd => o.bind (roomB l kd)) (some r) = none := by rw [hf]; exact hr2
            rw [fold_stop (fun kd => roomB l kd) hf'] at q'
            exact q'
          | some m' =>
            refine ⟨_, rfl, rfl, _, rfl, ?_⟩
            refine ⟨m', _, rfl, e2.trans e3, ?_⟩
            rw [hf]
            exact hr2
      · obtain ⟨m, y, rfl, e2, hm⟩ := p
        refine ⟨_, rfl, ?_⟩
        have q' := Qr H2 e2
        rw [hly, List.take_length] at hm
        rw [hm] at q'
        exact q'
theorem ok_room {f : Addr} {fd : FuncData} {j : Nat} (F : Fun K "room_behind" "room_behind" sRoom f fd) (mF : mg "room_behind" = some (.ref f)) (Uis_tag_and_kids : Use P w K mg base "is_tag_and_kids" ["thing"] j (spB K tagKids)) (hj : j ≤ 2) (T : Bl mg) :
    ∀ n, FnOk P w K mg base CX0 (2 + n) f fd ["thing", "levels", "room"] (spRoom K n)
  | 0 => by
    have no : ∀ vs H Q E, ¬ spRoom K 0 vs H Q E := fun vs H Q E h => by
      obtain ⟨_, _, _, _, _, _, _, h, _⟩ := h
      omega
    exact ⟨fun vs H Q E h => absurd h (no vs H Q E), fun A outer s H args us vs Q E _ _ _ _ h => absurd h (no vs H Q E)⟩
  | n + 1 => ok_room1 F ⟨f, fd, ok_room F mF Uis_tag_and_kids hj T n, mF, F.kp, F.binds (ps := ["thing", "levels", "room"]) fun _ _ _ _ _ _ us hl => match us, hl with | [_, _, _], _ => rfl⟩ Uis_tag_and_kids hj T
theorem scTree : FnScope ["thing"] ["thing"] (defScope sIsTree) := ⟨rfl, rfl, rfl, by decide +kernel, rfl, by decide +kernel, by decide +kernel⟩
theorem ok_tree {f : Addr} {fd : FuncData} {k j : Nat} (F : Fun K "is_tree" "is_tree" sIsTree f fd) (Uroom_behind : Use P w K mg base "room_behind" ["thing", "levels", "room"] j (spRoom K 13)) (hj : j ≤ k) (C : Cs mg) : FnOk P w K mg base CX0 (k + 1) f fd ["thing"] (spB K isTreeD) := by
  refine F.ok scTree (fun vs H Q E h => ?_) (fun cdv A outer s H vs Q E hr h => ?_)
  · obtain ⟨v, d, rfl, _⟩ := h
    rfl
  obtain ⟨v, d, rfl, hv, ht, q⟩ := h
  refine ⟨_, (pss_one (ps_ret (pe_cmpR op_notN (pe_call Uroom_behind.ok (hr.mono (by omega)) rfl Uroom_behind.m Uroom_behind.kp Uroom_behind.b .nil pass0 (pa_cons (pv 0) (pa_cons (c_DEPTH C) (pa_cons (c_SIZE C) pa_nil)))) pe_non (nomark _)))), ?_⟩
  refine ⟨_, rfl, v, d, 12, 60, rfl, hv, ht, by omega, fun H' e => ⟨rfl, ?_⟩⟩
  have q' := q H' e
  unfold isTreeD at q'
  cases hr : roomB 12 d 60 with
  | none =>
    rw [hr] at q'
    exact q'
  | some m =>
    rw [hr] at q'
    exact q'
end
end Tl

set_option Elab.async false
set_option linter.all false
set_option maxRecDepth 100000
set_option maxHeartbeats 8000000
namespace Tl
open PySem L2
abbrev sState : Stmt := top 17
abbrev sNext : Stmt := top 18
abbrev sWhole : Stmt := top 19
/-- the law's own source of numbers stands at st -/
def StA (H : Hp) (st c : Addr) : Prop := ∃ (cs : List Int) (i p z : Int), H st = some (.lst [.ref c, .int i, .int p, .int z]) ∧ H c = some (.lst (cs.map V.int)) ∧ c ≠ st ∧ 0 < cs.length ∧ cs.length ≤ 63 ∧ 0 ≤ i ∧ 0 ≤ p ∧ 0 ≤ z ∧ z < 2147483647
theorem StA.mono {H H' : Hp} {st c : Addr} (e : Same H H') (h : StA H st c) : StA H' st c := by
  obtain ⟨cs, i, p, z, h1, h2, r⟩ := h
  exact ⟨cs, i, p, z, e _ _ h1, e _ _ h2, r⟩
def spNext : Sp := fun vs H Q _ => ∃ (st c : Addr) (m : Int), vs = [.ref st, .int m] ∧ StA H st c ∧ 1 ≤ m ∧ m ≤ 100000 ∧ ∀ (r : Int) (o : HO), 0 ≤ r → r < m → StA (upd H st o) st c → Q (.int r) (upd H st o)
def spState (K : PySem.W.Frag) : Sp := fun vs H Q _ => ∃ (a : Addr) (ns : List Int), vs = [.ref a] ∧ SqL K H a (ns.map V.int) ∧ ∀ (st c : Addr) (H' : Hp), Same H H' → H st = none → StA H' st c → Q (.ref st) H'
section
variable {P : Program} {w : World} {K : PySem.W.Frag} {mg : Str → Option Value} {base : Heap}
theorem fm_pos (x : Int) {m : Int} (h : 0 < m) : 0 ≤ x.fmod m ∧ x.fmod m < m := ⟨Int.fmod_nonneg_of_pos x h, Int.fmod_lt_of_pos x h⟩
theorem fd_pos {x m : Int} (hx : 0 ≤ x) (h : 0 < m) : 0 ≤ x.fdiv m := by
  rw [Int.fdiv_eq_ediv_of_nonneg _ (Int.le_of_lt h)]
  exact Int.ediv_nonneg hx (Int.le_of_lt h)
theorem cut63 (ns : List Int) : cutV (ns.map V.int) none (some 63) = (ns.take 63).map V.int := by
  unfold cutV
  rw [HT.sIx_none, show HT.sIx (ns.map V.int).length (ns.map V.int).length (some 63) = min 63 (ns.map V.int).length from HT.sIx_nat (ns.map V.int).length (ns.map V.int).length 63, List.length_map]
  rw [Nat.sub_zero, List.drop_zero, List.map_take]
  by_cases h : 63 ≤ ns.length
  · rw [Nat.min_eq_left h]
  · rw [Nat.min_eq_right (by omega), List.take_of_length_le (by simp), List.take_of_length_le (by simp; omega)]
theorem scState : FnScope ["_law_script", "_law_cells"] ["_law_script"] (defScope sState) := ⟨rfl, rfl, rfl, by decide +kernel, rfl, by decide +kernel, by decide +kernel⟩
theorem ok_state {f : Addr} {fd : FuncData} {k : Nat} (F : Fun K "_law_state" "_law_state" sState f fd) (T : Bl mg) : FnOk P w K mg base CX0 (k + 1) f fd ["_law_script"] (spState K) := by
  refine F.ok scState (fun vs H Q E h => ?_) (fun cdv A outer s H vs Q E hr h => ?_)
  · obtain ⟨a, ns, rfl, _⟩ := h
    rfl
  obtain ⟨a, ns, rfl, hS, q⟩ := h
  refine ⟨_, (pss_cons (ps_set (i := 1) scState.nd rfl (.inl rfl) (pe_callTy call_list_of (by rfl) T.list PyProof.Rows.boot_list (pa_cons (pe_slice sl_list (pv 0) po_none (po_some pe_int)) pa_nil)))
    (pss_cons (ps_if (pt_cmpR op_eq (pe_callB call_len_seq (by rfl) T.len PySem.boot_len (pa_cons (pv 1) pa_nil)) pe_int (nomark _)) (pss_one (ps_set (i := 1) scState.nd rfl (.inl rfl) (pe_lst (pa_cons pe_int pa_nil)))) pss_nil)
    (pss_one (ps_ret (pe_lst (pa_cons (pv 1) (pa_cons pe_int (pa_cons pe_int (pa_cons pe_int pa_nil))))))))), ?_⟩
  refine ⟨_, rfl, 63, rfl, a, _, rfl, hS, fun p hp => ?_⟩
  have e1 : Same H (upd H p (.lst (cutV (ns.map V.int) none (some 63)))) := same_new hp
  refine ⟨p, _, rfl, .inl (SqL.of upd_same), fun l hl => ?_⟩
  rw [cut63]
  rw [cut63] at hl e1
  generalize hcs : ns.take 63 = cs at hl e1 ⊢
  have hc63 : cs.length ≤ 63 := by rw [← hcs, List.length_take]; omega
  generalize upd H p (.lst (cs.map V.int)) = H1 at hl e1 ⊢
  have e2 : Same H (upd H1 l (.lst (cs.map V.int))) := e1.trans (same_new hl)
  refine ⟨_, rfl, l, _, rfl, .inl (SqL.of upd_same), rfl, _, rfl, ?_⟩
  refine iteD (fun c => ?_) (fun c => ?_)
  · refine ⟨by show 1 ≤ sizeLine; decide, fun p2 hp2 => ?_⟩
    refine ⟨_, rfl, by show 4 ≤ sizeLine; decide, fun p3 hp3 => ?_⟩
    have n23 : p2 ≠ p3 := ne_of_none upd_same hp3
    refine q p3 p2 _ ((e2.trans (same_new hp2)).trans (same_new hp3)) ((e2.trans (same_new hp2)).free hp3) ⟨[0], 0, 0, 91, upd_same, ?_, n23, by decide, by decide, by decide, by decide, by decide, by decide⟩
    rw [upd_ne n23]
    exact upd_same
  · refine ⟨_, rfl, by show 4 ≤ sizeLine; decide, fun p3 hp3 => ?_⟩
    have n23 : l ≠ p3 := ne_of_none upd_same hp3
    refine q p3 l _ (e2.trans (same_new hp3)) (e2.free hp3) ⟨cs, 0, 0, 91, upd_same, ?_, n23, ?_, hc63, by decide, by decide, by decide, by decide⟩
    · rw [upd_ne n23]
      exact upd_same
    · rcases Nat.eq_zero_or_pos cs.length with z | z
      · exact absurd (show V.int ((cs.map V.int).length : Nat) = V.int 0 by rw [List.length_map, z]; rfl) c
      · exact z
theorem nz29 : (2147483629 : Int) ≠ 0 := by decide
theorem nz47 : (2147483647 : Int) ≠ 0 := by decide
theorem at4 {c : Addr} {i p z : Int} : atI [V.ref c, .int i, .int p, .int z] 0 = some (.ref c) ∧ atI [V.ref c, .int i, .int p, .int z] 1 = some (.int i) ∧ atI [V.ref c, .int i, .int p, .int z] 2 = some (.int p) ∧ atI [V.ref c, .int i, .int p, .int z] 3 = some (.int z) :=
  ⟨atI_nat (j := 0) rfl, atI_nat (j := 1) rfl, atI_nat (j := 2) rfl, atI_nat (j := 3) rfl⟩
theorem scNext : FnScope ["_law_state_here", "_law_below", "_law_cells", "_law_cell", "_law_found"] ["_law_state_here", "_law_below"] (defScope sNext) := ⟨rfl, rfl, rfl, by decide +kernel, rfl, by decide +kernel, by decide +kernel⟩
theorem ok_next {f : Addr} {fd : FuncData} {k : Nat} (F : Fun K "_law_next" "_law_next" sNext f fd) (T : Bl mg) : FnOk P w K mg base CX0 (k + 1) f fd ["_law_state_here", "_law_below"] spNext := by
  refine F.ok scNext (fun vs H Q E h => ?_) (fun cdv A outer s H vs Q E hr h => ?_)
  · obtain ⟨_, _, _, rfl, _⟩ := h
    rfl
  obtain ⟨st, c, m, rfl, ⟨cs, i, p, z, h1, h2, hc, hl0, hl, hi, hp, hz0, hz1⟩, hm0, hm1, q⟩ := h
  refine ⟨_, (pss_cons (ps_if (pt_cmpR op_gt (pe_ix ix_list (pv 0) pe_int (fun _ _ => rfl)) pe_int (nomark _)) (pss_cons (ps_set (i := 4) scNext.nd rfl (.inl rfl) (pe_op op_modN (pe_ix ix_list (pv 0) pe_int (fun _ _ => rfl)) (pv 1)))
      (pss_cons (ps_asg (pe_op op_fdivN (pe_ix ix_list (pv 0) pe_int (fun _ _ => rfl)) (pv 1)) (pg_sub (pv 0) pe_int set_list))
      (pss_one (ps_ret (pv 4))))) pss_nil)
    (pss_cons (ps_set (i := 2) scNext.nd rfl (.inl rfl) (pe_ix ix_list (pv 0) pe_int (fun _ _ => rfl)))
    (pss_cons (ps_set (i := 3) scNext.nd rfl (.inl rfl) (pe_ix ix_list (pv 2) (pe_op op_modN (pe_ix ix_list (pv 0) pe_int (fun _ _ => rfl)) (pe_callB call_len_seq (by rfl) T.len PySem.boot_len (pa_cons (pv 2) pa_nil))) (fun _ _ => rfl)))
    (pss_cons (ps_asg (pe_op op_add (pe_ix ix_list (pv 0) pe_int (fun _ _ => rfl)) pe_int) (pg_sub (pv 0) pe_int set_list))
    (pss_cons (ps_if (PW.pt (pw_and (pt_cmpR op_ge (pv 3) (pe_op op_pow pe_int pe_int) (nomark _)) (pw_and1 (pt_cmpR op_le (pe_ix ix_list (pv 0) pe_int (fun _ _ => rfl)) (pe_callB call_len_seq (by rfl) T.len PySem.boot_len (pa_cons (pv 2) pa_nil)) (nomark _))))) (pss_cons (ps_asg (pe_op op_fdivN (pv 3) (pv 1)) (pg_sub (pv 0) pe_int set_list))
      (pss_one (ps_ret (pe_op op_modN (pv 3) (pv 1))))) pss_nil)
    (pss_cons (ps_asg (pe_op op_modN (pe_op op_add (pe_op op_add (pe_op op_mul (pe_ix ix_list (pv 0) pe_int (fun _ _ => rfl)) pe_int) (pe_op op_modN (pv 3) pe_int)) (pe_op op_mul pe_int (pe_ix ix_list (pv 0) pe_int (fun _ _ => rfl)))) pe_int) (pg_sub (pv 0) pe_int set_list))
    (pss_one (ps_ret (pe_op op_modN (pe_op op_fdivN (pe_op op_modN (pe_op op_mul (pe_ix ix_list (pv 0) pe_int (fun _ _ => rfl)) pe_int) pe_int) pe_int) (pv 1)))))))))), ?_⟩
  have hm30 : m ≠ 0 ∧ m.natAbs < 1073741824 := ⟨by omega, by omega⟩
  refine ⟨_, rfl, st, _, 2, _, rfl, rfl, SqL.of h1, at4.2.2.1, p, 0, rfl, rfl, _, rfl, ?_⟩
  refine iteD (fun cc => ?_) (fun cc => ?_)
  · refine ⟨_, rfl, st, _, 2, _, rfl, rfl, SqL.of h1, at4.2.2.1, _, rfl, p, m, rfl, rfl, hm30.1, ?_⟩
    refine ⟨_, rfl, st, _, 2, _, rfl, rfl, SqL.of h1, at4.2.2.1, _, rfl, p, m, rfl, rfl, hm30, ?_⟩
    refine ⟨_, rfl, st, _, 2, 2, rfl, rfl, h1, rfl, ?_⟩
    refine ⟨_, rfl, ?_⟩
    refine q _ _ (fm_pos p (by omega)).1 (fm_pos p (by omega)).2 ⟨cs, i, p.fdiv m, z, upd_same, ?_, hc, hl0, hl, hi, fd_pos hp (by omega), hz0, hz1⟩
    rw [upd_ne hc]
    exact h2
  · refine ⟨_, rfl, st, _, 0, _, rfl, rfl, SqL.of h1, at4.1, ?_⟩
    have hlen : (cs.map V.int).length = cs.length := List.length_map _
    have hf := fm_pos i (m := ((cs.map V.int).length : Nat)) (by rw [hlen]; omega)
    obtain ⟨j, ej⟩ : ∃ j : Nat, i.fmod ((cs.map V.int).length : Nat) = (j : Int) := ⟨(i.fmod ((cs.map V.int).length : Nat)).toNat, by omega⟩
    have hj : j < cs.length := by rw [hlen] at hf; rw [hlen] at ej; omega
    have hat : atI (cs.map V.int) (i.fmod ((cs.map V.int).length : Nat)) = some (.int cs[j]) := by
      rw [ej]
      exact atI_nat (by rw [List.getElem?_map, List.getElem?_eq_getElem hj]; rfl)
    generalize cs[j] = x at hat
    refine ⟨_, rfl, _, rfl, st, _, 1, _, rfl, rfl, SqL.of h1, at4.2.1, _, rfl, c, _, rfl, .inl (SqL.of h2), i, _, rfl, rfl, by rw [hlen]; omega, c, _, _, _, rfl, rfl, SqL.of h2, hat, ?_⟩
    refine ⟨_, rfl, st, _, 1, _, rfl, rfl, SqL.of h1, at4.2.1, i, 1, rfl, rfl, _, rfl, st, _, 1, 1, rfl, rfl, h1, rfl, ?_⟩
    have h1' : (upd H st (.lst [V.ref c, .int (i + 1), .int p, .int z])) st = some (.lst [V.ref c, .int (i + 1), .int p, .int z]) := upd_same
    have h2' : (upd H st (.lst [V.ref c, .int (i + 1), .int p, .int z])) c = some (.lst (cs.map V.int)) := by rw [upd_ne hc]; exact h2
    have fin2 : ∀ (r p' z' : Int), 0 ≤ r → r < m → 0 ≤ p' → 0 ≤ z' → z' < 2147483647 → Q (.int r) (upd (upd H st (.lst [V.ref c, .int (i + 1), .int p, .int z])) st (.lst [V.ref c, .int (i + 1), .int p', .int z'])) := fun r p' z' g1 g2 g3 g4 g5 => by
      rw [upd_upd]
      exact q _ _ g1 g2 ⟨cs, i + 1, p', z', upd_same, by rw [upd_ne hc]; exact h2, hc, hl0, hl, by omega, g3, g4, g5⟩
    refine ⟨_, rfl, 10, 18, rfl, rfl, ⟨by decide, by decide, by decide⟩, x, _, rfl, rfl, _, rfl, ?_⟩
    refine iteD (fun c1 => ?_) (fun c1 => ?_)
    · refine ⟨_, rfl, st, _, 1, _, rfl, rfl, SqL.of h1', at4.2.1, _, rfl, c, _, rfl, .inl (SqL.of h2'), _, _, rfl, rfl, _, rfl, ?_⟩
      refine iteD (fun c2 => ?_) (fun c2 => ?_)
      · refine ⟨_, rfl, _, rfl, x, m, rfl, rfl, hm30, _, rfl, st, _, 2, 2, rfl, rfl, h1', rfl, ?_⟩
        refine ⟨_, rfl, _, rfl, x, m, rfl, rfl, hm30.1, ?_⟩
        exact fin2 _ _ _ (fm_pos x (by omega)).1 (fm_pos x (by omega)).2 (fd_pos (Int.le_trans (by decide) c1) (by omega)) hz0 hz1
      · skip
        refine ⟨_, rfl, st, _, 3, _, rfl, rfl, SqL.of h1', at4.2.2.2, z, 48271, rfl, rfl, .inl ⟨by omega, by omega⟩, _, rfl, x, 2147483629, rfl, rfl, nz29, _, _, rfl, rfl, _, rfl, st, _, 1, _, rfl, rfl, SqL.of h1', at4.2.1, 7, _, rfl, rfl, .inl ⟨by decide, by decide⟩, _, _, rfl, rfl, _, 2147483647, rfl, rfl, nz47, _, rfl, st, _, 3, 3, rfl, rfl, h1', rfl, ?_⟩
        have hb := fm_pos (z * 48271 + x.fmod 2147483629 + 7 * (i + 1)) (m := 2147483647) (by decide)
        refine ⟨_, rfl, st, _, 3, _, rfl, rfl, SqL.of upd_same, at4.2.2.2, _, 69621, rfl, rfl, .inl ⟨by omega, by omega⟩, _, 2147483629, rfl, rfl, nz29, _, 64, rfl, rfl, ⟨by decide, by decide⟩, _, rfl, _, m, rfl, rfl, hm30.1, ?_⟩
        exact fin2 _ _ _ (fm_pos _ (by omega)).1 (fm_pos _ (by omega)).2 hp hb.1 hb.2
    · skip
      refine ⟨_, rfl, st, _, 3, _, rfl, rfl, SqL.of h1', at4.2.2.2, z, 48271, rfl, rfl, .inl ⟨by omega, by omega⟩, _, rfl, x, 2147483629, rfl, rfl, nz29, _, _, rfl, rfl, _, rfl, st, _, 1, _, rfl, rfl, SqL.of h1', at4.2.1, 7, _, rfl, rfl, .inl ⟨by decide, by decide⟩, _, _, rfl, rfl, _, 2147483647, rfl, rfl, nz47, _, rfl, st, _, 3, 3, rfl, rfl, h1', rfl, ?_⟩
      have hb := fm_pos (z * 48271 + x.fmod 2147483629 + 7 * (i + 1)) (m := 2147483647) (by decide)
      refine ⟨_, rfl, st, _, 3, _, rfl, rfl, SqL.of upd_same, at4.2.2.2, _, 69621, rfl, rfl, .inl ⟨by omega, by omega⟩, _, 2147483629, rfl, rfl, nz29, _, 64, rfl, rfl, ⟨by decide, by decide⟩, _, rfl, _, m, rfl, rfl, hm30.1, ?_⟩
      exact fin2 _ _ _ (fm_pos _ (by omega)).1 (fm_pos _ (by omega)).2 hp hb.1 hb.2
def isWhole : PyData → Bool
  | .int _ => true
  | _ => false
theorem scWhole : FnScope ["_law_found"] ["_law_found"] (defScope sWhole) := ⟨rfl, rfl, rfl, by decide +kernel, rfl, by decide +kernel, by decide +kernel⟩
theorem ok_whole {f : Addr} {fd : FuncData} {k : Nat} (F : Fun K "_law_whole" "_law_whole" sWhole f fd) (T : Bl mg) : FnOk P w K mg base CX0 (k + 1) f fd ["_law_found"] (spB K isWhole) := by
  refine F.ok scWhole (fun vs H Q E h => ?_) (fun cdv A outer s H vs Q E hr h => ?_)
  · obtain ⟨v, d, rfl, _⟩ := h
    rfl
  obtain ⟨v, d, rfl, hv, _, q⟩ := h
  refine ⟨_, (pss_one (ps_ret (pe_and (pe_callB (r := rIsi K) call_isi (by rfl) T.isi PyProof.Rows.boot_isinstance (pa_cons (pv 0) (pa_cons (b_int T) pa_nil))) (pe_one (pe_not (pe_callB (r := rIsi K) call_isi (by rfl) T.isi PyProof.Rows.boot_isinstance (pa_cons (pv 0) (pa_cons (b_bool T) pa_nil)))))))), ?_⟩
  refine ⟨v, rfl, v, .ty "int", _, _, _, rfl, .ty "int", ty_data hv, kit_ty (kit_int d), _, rfl, ?_⟩
  have q' := q H (Same.refl H)
  cases d with
  | int i => exact ⟨v, rfl, v, .ty "bool", _, _, _, rfl, .ty "bool", ty_data hv, kit_ty (kit_bl _), _, rfl, q'⟩
  | bool b => exact ⟨v, rfl, v, .ty "bool", _, _, _, rfl, .ty "bool", ty_data hv, kit_ty (kit_bl _), _, rfl, q'⟩
  | none => exact q'
  | str s => exact q'
  | list s => exact q'
  | tuple s => exact q'
  | dict s => exact q'
theorem small_in (c : Nat) : decide (c ∈ ("abcdefghijklmnopqrstuvwxyz" : Str).cps.toList) = small c := by
  have e : ("abcdefghijklmnopqrstuvwxyz" : Str).cps.toList = (List.range 26).map (· + 97) := by decide +kernel
  rw [e, small, ← Bool.decide_and]
  apply decide_eq_decide.mpr
  simp only [List.mem_map, List.mem_range]
  constructor
  · rintro ⟨a, h, rfl⟩
    omega
  · intro h
    exact ⟨c - 97, by omega, by omega⟩
theorem eqv_nil (ds : List PyData) : PyData.eqv (.list ds) (.list []) = ds.isEmpty := by
  cases ds with
  | nil => simp [PyData.eqv, PyData.eqvAll]
  | cons a r => simp [PyData.eqv, PyData.eqvAll]
end
end Tl

set_option Elab.async false
set_option linter.all false
set_option maxRecDepth 100000
set_option maxHeartbeats 8000000
namespace Tl
open PySem L2
/-- the law's own count: 999 where it is none -/
def cntK (f : PyData → Int) : List PyData → Int → Int
  | [], n => n
  | d :: r, n => if n + f d > 60 then n + f d else cntK f r (n + f d)
def cntB : Nat → PyData → Int
  | 0, _ => 999
  | l + 1, d => if tagKids d = true then cntK (cntB l) (kidsD d) 1 else 999
theorem cntK_ge (f : PyData → Int) (hf : ∀ d, 1 ≤ f d) : ∀ ds n, n ≤ cntK f ds n
  | [], n => Int.le_refl n
  | d :: r, n => by
    have h := hf d
    rw [cntK]
    by_cases c : n + f d > 60
    · rw [if_pos c]
      omega
    · rw [if_neg c]
      have := cntK_ge f hf r (n + f d)
      omega
theorem cntB_pos : ∀ l d, 1 ≤ cntB l d
  | 0, _ => by show (1 : Int) ≤ 999; decide
  | l + 1, d => by
    rw [cntB]
    by_cases c : tagKids d = true
    · rw [if_pos c]
      exact cntK_ge _ (cntB_pos l) _ _
    · rw [if_neg c]
      decide
theorem fold_cnt (l : Nat) (ih : ∀ d (r : Nat), r ≤ 60 → (cntB l d ≤ r → roomB l d r = some ((r : Int) - cntB l d).toNat) ∧ ((r : Int) < cntB l d → roomB l d r = none)) :
    ∀ (ds : List PyData) (n R : Nat), n ≤ R → R ≤ 60 → (cntK (cntB l) ds n ≤ R → ds.foldl (fun o kd => o.bind (roomB l kd)) (some (R - n)) = some ((R : Int) - cntK (cntB l) ds n).toNat) ∧
      ((R : Int) < cntK (cntB l) ds n → ds.foldl (fun o kd => o.bind (roomB l kd)) (some (R - n)) = none)
  | [], n, R, h1, h2 => by
    rw [cntK, List.foldl_nil]
    exact ⟨fun _ => by congr 1; omega, fun h => by omega⟩
  | d :: ds, n, R, h1, h2 => by
    have hp := cntB_pos l d
    obtain ⟨i1, i2⟩ := ih d (R - n) (by omega)
    have hge := cntK_ge _ (cntB_pos l) ds (n + cntB l d)
    rw [cntK, List.foldl_cons]
    show (_ → ds.foldl (fun o kd => o.bind (roomB l kd)) (roomB l d (R - n)) = _) ∧ (_ → ds.foldl (fun o kd => o.bind (roomB l kd)) (roomB l d (R - n)) = _)
    by_cases c : (n : Int) + cntB l d > R
    · rw [i2 (by omega), fold_none]
      by_cases c2 : (n : Int) + cntB l d > 60
      · rw [if_pos c2]
        exact ⟨fun h => by omega, fun _ => rfl⟩
      · rw [if_neg c2]
        exact ⟨fun h => by omega, fun _ => rfl⟩
    · rw [if_neg (by omega), i1 (by omega)]
      obtain ⟨m, hm⟩ : ∃ m : Nat, (m : Int) = n + cntB l d := ⟨(n + cntB l d).toNat, by omega⟩
      have e : ((R - n : Nat) - cntB l d : Int).toNat = R - m := by omega
      rw [e, ← hm]
      exact fold_cnt l ih ds m R (by omega) h2
theorem room_cnt : ∀ l d (r : Nat), r ≤ 60 → (cntB l d ≤ r → roomB l d r = some ((r : Int) - cntB l d).toNat) ∧ ((r : Int) < cntB l d → roomB l d r = none)
  | 0, d, r, h => by
    rw [cntB, roomB]
    exact ⟨fun h2 => by omega, fun _ => rfl⟩
  | l + 1, d, 0, h => by
    have := cntB_pos (l + 1) d
    rw [roomB]
    exact ⟨fun h2 => by omega, fun _ => rfl⟩
  | l + 1, d, r + 1, h => by
    rw [cntB, roomB]
    by_cases c : tagKids d = true
    · rw [if_pos c, if_pos c]
      have q := fold_cnt l (room_cnt l) (kidsD d) 1 (r + 1) (by omega) h
      exact q
    · rw [if_neg c, if_neg c]
      exact ⟨fun h2 => by omega, fun _ => rfl⟩
theorem tree_cnt (d : PyData) : isTreeD d = decide (cntB 12 d ≤ 60) := by
  unfold isTreeD
  obtain ⟨h1, h2⟩ := room_cnt 12 d 60 (Nat.le_refl 60)
  by_cases c : cntB 12 d ≤ 60
  · rw [h1 c, decide_eq_true c]
    rfl
  · rw [h2 (by omega), decide_eq_false c]
    rfl
def spCnt (K : PySem.W.Frag) (n : Nat) : Sp := fun vs H Q _ => ∃ (v : V) (d : PyData) (l : Nat), vs = [v, .int (13 - (l : Nat))] ∧ Dt K H v d ∧ txt d = true ∧ l < n ∧ l ≤ 12 ∧ ∀ H', Same H H' → Q (.int (cntB l d)) H'
theorem cnt_take (f : PyData → Int) : ∀ {ks : List PyData} {i : Nat} {n m : Int}, cntK f (ks.drop i) m = cntK f ks n → ∀ {kd : PyData}, ks[i]? = some kd → (m + f kd > 60 → cntK f ks n = m + f kd) ∧ (¬ m + f kd > 60 → cntK f (ks.drop (i + 1)) (m + f kd) = cntK f ks n) := by
  intro ks i n m h kd hk
  obtain ⟨hi, rfl⟩ := List.getElem?_eq_some_iff.mp hk
  rw [List.drop_eq_getElem_cons hi, cntK] at h
  refine ⟨fun c => ?_, fun c => ?_⟩
  · rw [if_pos c] at h
    exact h.symm
  · rw [if_neg c] at h
    exact h
end Tl

set_option Elab.async false
set_option linter.all false
set_option maxRecDepth 100000
set_option maxHeartbeats 8000000
namespace Tl
open PySem L2
def pathD (q : List Nat) : PyData := .tuple (q.map fun (n : Nat) => .int (n : Int))
/-- the part at a path -/
def sub : PyData → List Nat → Option PyData
  | d, [] => some d
  | .tuple [_, .tuple ks], i :: q => match ks[i]? with
    | some k => sub k q
    | none => none
  | _, _ :: _ => none
theorem sub_cons {d : PyData} {i : Nat} {q : List Nat} {e : PyData} (h : sub d (i :: q) = some e) : ∃ s ks k, d = .tuple [s, .tuple ks] ∧ ks[i]? = some k ∧ sub k q = some e := by
  unfold sub at h
  split at h
  · rename_i h2; cases h2
  · rename_i s ks i' q' h2
    cases h2
    split at h
    · rename_i k hk
      exact ⟨s, ks, k, rfl, hk, h⟩
    · cases h
  · cases h
def spReach (K : PySem.W.Frag) : Sp := fun vs H Q _ => ∃ (F : Hp) (v : V) (d : PyData) (p : V) (q : List Nat) (e : PyData), vs = [v, p] ∧ Same F H ∧ Dp K F v d ∧ Dp K F p (pathD q) ∧ sub d q = some e ∧ ∀ r, Dp K F r e → Q r H
theorem dp_path {K : PySem.W.Frag} {F : Hp} {p : V} {q : List Nat} (h : Dp K F p (pathD q)) : ∃ a, p = .ref a ∧ SqT K F a (q.map fun (n : Nat) => V.int (n : Int)) := by
  unfold pathD at h
  cases h with
  | @tup a xs _ hs ha =>
    have e : ∀ (q : List Nat) (xs : List V), DpAll K F xs (q.map fun (n : Nat) => PyData.int (n : Int)) → xs = q.map fun (n : Nat) => V.int (n : Int) := by
      intro q
      induction q with
      | nil => intro xs h; cases h; rfl
      | cons n r ih =>
        intro xs h
        cases h with
        | cons h1 h2 =>
          cases h1
          rw [List.map_cons, ih _ h2]
    rw [e q xs ha] at hs
    exact ⟨a, rfl, hs⟩
theorem path_dp {K : PySem.W.Frag} {F : Hp} {a : Addr} {q : List Nat} (h : SqT K F a (q.map fun (n : Nat) => V.int (n : Int))) : Dp K F (.ref a) (pathD q) := by
  refine .tup h ?_
  clear h
  induction q with
  | nil => exact .nil
  | cons n r ih => exact .cons (.int _) ih
theorem path_all {K : PySem.W.Frag} {F : Hp} : ∀ q : List Nat, DpAll K F (q.map fun (n : Nat) => V.int (n : Int)) (q.map fun (n : Nat) => PyData.int (n : Int))
  | [] => .nil
  | n :: r => .cons (.int _) (path_all r)
section
variable {P : Program} {w : World} {K : PySem.W.Frag} {mg : Str → Option Value} {base : Heap}
theorem gw_tup {F H : Hp} {p : Addr} {xs : List V} {ds : List PyData} (e : Same F H) (h : H p = none) (ha : DpAll K F xs ds) : Gw F H (upd F p (.tup xs)) (upd H p (.tup xs)) ∧ Dp K (upd F p (.tup xs)) (.ref p) (.tuple ds) :=
  ⟨Gw.new e h, .tup (.inl (.inl upd_same)) (dpAll_mono (same_new (e.free h)) _ _ ha)⟩
/-- t + u of data -/
theorem cat_data {F H : Hp} {a b : Addr} {xs ys : List V} {ds es : List PyData} {Q : VK} (e : Same F H) (ha : SqT K F a xs) (hb : SqT K F b ys) (hx : DpAll K F xs ds) (hy : DpAll K F ys es) (hz : xs.length + ys.length ≤ sizeLine)
    (k : ∀ r F' H', Gw F H F' H' → Dp K F' r (.tuple (ds ++ es)) → Q r H') : rCatA K (.ref a) (.ref b) H Q := by
  refine ⟨a, b, xs, ys, rfl, rfl, same_t e ha, same_t e hb, hz, fun h => ?_, fun h1 h2 => ?_, fun h1 h2 p hp => ?_⟩
  · subst h
    cases hx
    exact k _ F H (Gw.refl e) (.tup hb hy)
  · subst h2
    cases hy
    rw [List.append_nil] at k
    exact k _ F H (Gw.refl e) (.tup ha hx)
  · obtain ⟨g, dd⟩ := gw_tup e hp (DpAll.app hx hy)
    exact k _ _ _ g dd
/-- t * n of data -/
theorem rep_data {F H : Hp} {a : Addr} {xs : List V} {ds : List PyData} {n : Int} {Q : VK} (e : Same F H) (ha : SqT K F a xs) (hx : DpAll K F xs ds) (h0 : 0 ≤ n) (h1 : n ≤ 1000) (hz : xs.length ≤ 1000)
    (k : ∀ r F' H', Gw F H F' H' → Dp K F' r (.tuple (List.replicate n.toNat ds).flatten) → Q r H') : rRepA K (.ref a) (.int n) H Q := by
  refine ⟨a, n, xs, rfl, rfl, same_t e ha, h0, h1, hz, fun h => ?_, fun h p hp => ?_⟩
  · have e2 : (List.replicate n.toNat ds).flatten = ds := by
      rcases h with h | h
      · subst h
        cases hx
        exact List.flatten_replicate_nil
      · subst h
        simp
    rw [e2] at k
    exact k _ F H (Gw.refl e) (.tup ha hx)
  · obtain ⟨g, dd⟩ := gw_tup e hp (DpAll.rep hx n.toNat)
    exact k _ _ _ g dd
theorem cut_to (xs : List V) (i : Nat) : cutV xs none (some (i : Int)) = xs.take i := by
  unfold cutV
  rw [HT.sIx_none, HT.sIx_nat, Nat.sub_zero, List.drop_zero]
  by_cases h : i ≤ xs.length
  · rw [Nat.min_eq_left h]
  · rw [Nat.min_eq_right (by omega), List.take_of_length_le (Nat.le_refl _), List.take_of_length_le (by omega)]
theorem cut_from (xs : List V) (i : Nat) (h : i ≤ xs.length) : cutV xs (some (i : Int)) none = xs.drop i := by
  unfold cutV
  rw [HT.sIx_none, HT.sIx_nat, Nat.min_eq_left h]
  exact List.take_of_length_le (by rw [List.length_drop]; exact Nat.le_refl _)
theorem eqv_nilT (q : List Nat) : PyData.eqv (pathD q) (.tuple []) = q.isEmpty := by
  unfold pathD
  cases q with
  | nil => simp [PyData.eqv, PyData.eqvAll]
  | cons a r => simp [PyData.eqv, PyData.eqvAll]
theorem path_shaped (q : List Nat) : SeqAt.shaped (pathD q) = true := by
  have h := flat_all (q.map fun (n : Nat) => PyData.int (n : Int)) (by
    rw [List.all_eq_true]
    intro d hd
    obtain ⟨n, _, rfl⟩ := List.mem_map.mp hd
    rfl)
  unfold SeqAt.shaped pathD
  rw [PyData.canLay0, PyData.depth, h.1, h.2]
  rfl
theorem gw_lst {F H : Hp} {p : Addr} {xs : List V} {ds : List PyData} (e : Same F H) (h : H p = none) (ha : DpAll K F xs ds) : Gw F H (upd F p (.lst xs)) (upd H p (.lst xs)) ∧ Dp K (upd F p (.lst xs)) (.ref p) (.list ds) :=
  ⟨Gw.new e h, .lst (.inl (.inl upd_same)) (dpAll_mono (same_new (e.free h)) _ _ ha)⟩
theorem cut_fromA (xs : List V) (i : Nat) : cutV xs (some (i : Int)) none = xs.drop i := by
  by_cases h : i ≤ xs.length
  · exact cut_from xs i h
  · unfold cutV
    rw [HT.sIx_none, HT.sIx_nat, Nat.min_eq_right (by omega), List.drop_length, List.drop_eq_nil_of_le (by omega), List.take_nil]
theorem sl_to {F H : Hp} {a : Addr} {xs : List V} {ds : List PyData} {i : Nat} {Q : VK} (e : Same F H) (ha : SqT K F a xs) (hx : DpAll K F xs ds)
    (k : ∀ r F' H', Gw F H F' H' → Dp K F' r (.tuple (ds.take i)) → Q r H') : rSlA K (.ref a) none (some (i : Int)) H Q := by
  refine ⟨a, xs, rfl, same_t e ha, fun hh => ?_, fun _ p hp => ?_⟩
  · have h2 := hh.2
    rw [HT.sIx_nat] at h2
    have e2 : ds.take i = ds := List.take_of_length_le (by rw [← DpAll.len hx]; omega)
    rw [e2] at k
    exact k _ F H (Gw.refl e) (.tup ha hx)
  · rw [cut_to]
    obtain ⟨g, d⟩ := gw_tup e hp (DpAll.take i hx)
    exact k _ _ _ g d
theorem sl_from {F H : Hp} {a : Addr} {xs : List V} {ds : List PyData} {i : Nat} {z : Int} {Q : VK} (hz : z = (i : Int)) (e : Same F H) (ha : SqT K F a xs) (hx : DpAll K F xs ds)
    (k : ∀ r F' H', Gw F H F' H' → Dp K F' r (.tuple (ds.drop i)) → Q r H') : rSlA K (.ref a) (some z) none H Q := by
  subst hz
  refine ⟨a, xs, rfl, same_t e ha, fun hh => ?_, fun _ p hp => ?_⟩
  · have h2 := hh.1
    rw [HT.sIx_nat] at h2
    have e2 : ds.drop i = ds := by
      by_cases hi : i = 0
      · rw [hi, List.drop_zero]
      · have h3 : ds = [] := by
          apply List.eq_nil_of_length_eq_zero
          rw [← DpAll.len hx]
          omega
        rw [h3, List.drop_nil]
    rw [e2] at k
    exact k _ F H (Gw.refl e) (.tup ha hx)
  · rw [cut_fromA]
    obtain ⟨g, d⟩ := gw_tup e hp (DpAll.drop i hx)
    exact k _ _ _ g d
end
/-- a thing that the law asks about -/
def Thing (d : PyData) : Prop := (gd d = true ∧ d.depth ≤ 90 ∧ wt d ≤ 1000000) ∨ d = .dict []
def pathOk (q : List Nat) : Prop := q.length ≤ 20 ∧ ∀ n ∈ q, n < 100000
theorem ints_ok (q : List Nat) (h : ∀ n ∈ q, n < 100000) : gdAll (q.map fun (n : Nat) => PyData.int (n : Int)) = true ∧ wtAll (q.map fun (n : Nat) => PyData.int (n : Int)) = 1932 * q.length ∧ PyData.depthAll (q.map fun (n : Nat) => PyData.int (n : Int)) = 0 := by
  induction q with
  | nil => exact ⟨rfl, rfl, rfl⟩
  | cons n r ih =>
    obtain ⟨h1, h2, h3⟩ := ih fun m hm => h m (List.mem_cons_of_mem _ hm)
    have hn := h n List.mem_cons_self
    refine ⟨?_, ?_, ?_⟩
    · rw [List.map_cons, gdAll, h1, gd, decide_eq_true (Nat.lt_of_lt_of_le (show ((n : Int)).natAbs < 100000 by omega) (by decide))]
      rfl
    · rw [List.map_cons, wtAll, h2, wt, List.length_cons]
      omega
    · rw [List.map_cons, PyData.depthAll, h3, PyData.depth]
      rfl
theorem gd_pair {a b : PyData} (ha : gd a = true) (hb : gd b = true) : gd (.tuple [a, b]) = true := by
  rw [gd, gdAll, gdAll, gdAll, ha, hb]
  rfl
theorem dep_pair (a b : PyData) : PyData.depth (.tuple [a, b]) ≤ max a.depth b.depth + 1 := by
  simp only [PyData.depth, PyData.depthAll]
  omega
theorem wt_pair (a b : PyData) : wt (.tuple [a, b]) = wt a + wt b + 7 := by
  simp only [wt, wtAll]
  omega
theorem DpAll.pick {K : PySem.W.Frag} {F : Hp} {xs : List V} {ds : List PyData} {r : Int} (h : DpAll K F xs ds) (h0 : 0 ≤ r) (h1 : r < ds.length) : ∃ x d, atI xs r = some x ∧ d ∈ ds ∧ Dp K F x d := by
  obtain ⟨j, rfl⟩ : ∃ j : Nat, r = (j : Int) := ⟨r.toNat, by omega⟩
  have hj : j < ds.length := by omega
  obtain ⟨x, hx, hd⟩ := DpAll.got h (List.getElem?_eq_getElem hj)
  exact ⟨x, _, atI_nat hx, List.getElem_mem hj, hd⟩
theorem rep_one (w : Nat) (d : PyData) : (List.replicate w [d]).flatten = List.replicate w d := by
  induction w with
  | zero => rfl
  | succ n ih => rw [List.replicate_succ, List.replicate_succ, List.flatten_cons, ih]; rfl
theorem mem_rep {n : Nat} {d k : PyData} (h : k ∈ (List.replicate n [d]).flatten) : k = d := by
  rw [rep_one] at h
  exact (List.mem_replicate.mp h).2
end Tl

set_option Elab.async false
set_option linter.all false
set_option maxRecDepth 100000
set_option maxHeartbeats 8000000
namespace Tl
open PySem L2
abbrev sReach : Stmt := top 22
section
variable {P : Program} {w : World} {K : PySem.W.Frag} {mg : Str → Option Value} {base : Heap}
theorem scReach : FnScope ["_law_tree_here", "_law_path", "_law_number"] ["_law_tree_here", "_law_path"] (defScope sReach) := ⟨rfl, rfl, rfl, by decide +kernel, rfl, by decide +kernel, by decide +kernel⟩
theorem ok_reach {f : Addr} {fd : FuncData} {k : Nat} (F : Fun K "_law_reach" "_law_reach" sReach f fd) (T : Bl mg) : FnOk P w K mg base CX0 (k + 1) f fd ["_law_tree_here", "_law_path"] (spReach K) := by
  refine F.ok scReach (fun vs H Q E h => ?_) (fun cdv A outer s H vs Q E hr h => ?_)
  · obtain ⟨F, v, d, p, q, e, rfl, _⟩ := h
    rfl
  obtain ⟨Fd, v, d, p, q, e, rfl, hF, hv, hp, he, k⟩ := h
  refine ⟨_, (pss_cons (ps_for PassesOwn.never rfl (pi_tup (pv 1)) (pg_name (i := 2) scReach.nd rfl (.inl rfl)) (pss_cons (ps_if (pt_cmpR op_ge (pv 2) (pe_callB call_len_seq (by rfl) T.len PySem.boot_len (pa_cons (pe_ix ix_tup (pv 0) pe_int (fun _ _ => rfl)) pa_nil)) (nomark _)) (pss_one (ps_ret pe_non)) pss_nil)
      (pss_one (ps_set (i := 0) scReach.nd rfl (.inl rfl) (pe_ix ix_tup (pe_ix ix_tup (pv 0) pe_int (fun _ _ => rfl)) (pv 2) (fun _ _ => rfl))))))
    (pss_one (ps_ret (pv 0)))), ?_⟩
  obtain ⟨a, rfl, ha⟩ := dp_path hp
  refine ⟨_, rfl, a, rfl, ⟨_, same_t hF ha⟩, ?_⟩
  refine for_tup (xs := q.map fun (n : Nat) => V.int (n : Int)) (fun i σ H2 => ∃ (v' : V) (d' : PyData) (y : Option V), σ = [some v', some (.ref a), y] ∧ H2 = H ∧ Dp K Fd v' d' ∧ sub d' (q.drop i) = some e) ⟨v, d, none, rfl, rfl, hv, he⟩ (fun i σ H2 _ p => ?_) (fun i x σ H2 hx p => ?_) (fun σ H2 p => ?_)
  · obtain ⟨_, _, _, _, rfl, _⟩ := p
    exact same_t hF ha
  · obtain ⟨v', d', y, rfl, rfl, hv', hs⟩ := p
    rw [List.getElem?_map] at hx
    obtain ⟨n, hn, rfl⟩ := Option.map_eq_some_iff.mp hx
    obtain ⟨hi, rfl⟩ := List.getElem?_eq_some_iff.mp hn
    rw [List.drop_eq_getElem_cons hi] at hs
    obtain ⟨s0, ks, kd, rfl, hk, hs2⟩ := sub_cons hs
    cases hv' with
    | @tup b xs _ hb hx2 =>
    obtain ⟨x0, y0, _, _, rfl, h00, h1, h2⟩ := DpAll.two hx2 (DpAll.len hx2)
    cases h00
    cases h2 with
    | @tup c ys _ hc hy =>
    obtain ⟨kv, hkv, hkd⟩ := DpAll.got hy hk
    have hlt : q[i] < ys.length := (List.getElem?_eq_some_iff.mp hkv).1
    refine ⟨_, rfl, _, rfl, b, _, 1, _, rfl, rfl, same_t hF hb, atI_nat (j := 1) rfl, c, ys, rfl, .inr (same_t hF hc), _, _, rfl, rfl, _, rfl, ?_⟩
    refine iteD (fun cc => absurd cc (by omega)) (fun cc => ?_)
    refine ⟨_, rfl, b, _, 1, _, rfl, rfl, same_t hF hb, atI_nat (j := 1) rfl, _, rfl, c, ys, _, kv, rfl, rfl, same_t hF hc, atI_nat hkv, ?_⟩
    exact ⟨kv, kd, _, rfl, rfl, hkd, hs2⟩
  · obtain ⟨v', d', y, rfl, rfl, hv', hs⟩ := p
    rw [List.length_map, List.drop_length, sub] at hs
    cases hs
    exact ⟨_, rfl, k _ hv'⟩
end
end Tl

set_option Elab.async false
set_option linter.all false
set_option maxRecDepth 100000
set_option maxHeartbeats 8000000
namespace Tl
open PySem L2
abbrev sPlaces : Stmt := top 21
section
variable {P : Program} {w : World} {K : PySem.W.Frag} {mg : Str → Option Value} {base : Heap}
def spPlaces (K : PySem.W.Frag) (n : Nat) : Sp := fun vs H Q _ => ∃ (F : Hp) (v : V) (d : PyData) (p : V) (pre : List Nat), vs = [v, p] ∧ Same F H ∧ Dp K F v d ∧ TrD n d ∧ Dp K F p (pathD pre) ∧ wt d ≤ 100000 ∧ pre.length ≤ 1000 - n ∧ n ≤ 900 ∧
  ∀ (a : Addr) (xs : List V) (L : List (List Nat)) (F' H' : Hp), Gw F H F' H' → F' a = some (.lst xs) → DpAll K F' xs (L.map pathD) → 0 < L.length → L.length ≤ wt d → (∀ q ∈ L, ∃ q' e, q = pre ++ q' ∧ sub d q' = some e) → Q (.ref a) H'
theorem wtAll_take {ds : List PyData} {i : Nat} {d : PyData} (h : ds[i]? = some d) : wtAll (ds.take (i + 1)) = wtAll (ds.take i) + (wt d + 2) := by
  rw [List.take_add_one, h, wtAll_app]
  simp [wtAll]
theorem wtAll_take_le (ds : List PyData) (i : Nat) : wtAll (ds.take i) ≤ wtAll ds := by
  conv => rhs; rw [← List.take_append_drop i ds, wtAll_app]
  omega
theorem scPlaces : FnScope ["_law_tree_here", "_law_path", "_law_found", "_law_at", "_law_kid"] ["_law_tree_here", "_law_path"] (defScope sPlaces) := ⟨rfl, rfl, rfl, by decide +kernel, rfl, by decide +kernel, by decide +kernel⟩
theorem ok_places1 {f : Addr} {fd : FuncData} {n : Nat} (F : Fun K "_law_places" "_law_places" sPlaces f fd) (U_law_places : Use P w K mg base "_law_places" ["_law_tree_here", "_law_path"] n (spPlaces K n)) (T : Bl mg) :
    FnOk P w K mg base CX0 (n + 1) f fd ["_law_tree_here", "_law_path"] (spPlaces K (n + 1)) := by
  refine F.ok scPlaces (fun vs H Q E h => ?_) (fun cdv A outer s H vs Q E hr h => ?_)
  · obtain ⟨_, _, _, _, _, rfl, _⟩ := h
    rfl
  obtain ⟨Fd, v, d, p, pre, rfl, hF, hv, htr, hp, hw, hpl, hn9, k⟩ := h
  refine ⟨_, (pss_cons (ps_set (i := 2) scPlaces.nd rfl (.inl rfl) (pe_lst (pa_cons (pv 1) pa_nil)))
    (pss_cons (ps_for PassesOwn.never rfl (pi_enumT (by rfl) T.enum (pa_cons (pe_ix ix_tup (pv 0) pe_int (fun _ _ => rfl)) pa_nil)) (pg_tup rfl (pgs_cons (pg_name (i := 3) scPlaces.nd rfl (.inl rfl)) (pgs_cons (pg_name (i := 4) scPlaces.nd rfl (.inl rfl)) pgs_nil))) (pss_one (ps_set (i := 2) scPlaces.nd rfl (.inl rfl) (pe_op op_cat (pv 2) (pe_call U_law_places.ok (hr.mono (by omega)) rfl U_law_places.m U_law_places.kp U_law_places.b .nil pass0 (pa_cons (pv 4) (pa_cons (pe_op op_catA (pv 1) (pe_tup (pa_cons (pv 3) pa_nil))) pa_nil)))))))
    (pss_one (ps_ret (pv 2))))), ?_⟩
  obtain ⟨s0, ks, rfl, hs0, hks⟩ := htr
  cases hv with
  | @tup b xs _ hb hx2 =>
  obtain ⟨x0, y0, _, _, rfl, h00, h1, h2⟩ := DpAll.two hx2 (DpAll.len hx2)
  cases h00
  cases h2 with
  | @tup c ys _ hc hy =>
  have hly : ys.length = ks.length := DpAll.len hy
  rw [wt_node] at hw
  refine ⟨_, rfl, by show 1 ≤ sizeLine; decide, fun l hl => ?_⟩
  have g1 : Gw Fd H (upd Fd l (.lst [p])) (upd H l (.lst [p])) := Gw.new hF hl
  refine ⟨_, rfl, b, _, 1, _, rfl, rfl, same_t (hF.trans g1.hh) hb, atI_nat (j := 1) rfl, c, ys, rfl, same_t (hF.trans g1.hh) hc, ?_⟩
  refine for_it (walk_enumT (xs := ys)) (fun i σ H2 => ∃ (fa : Addr) (zs : List V) (L : List (List Nat)) (F2 : Hp) (y1 y2 : Option V), σ = [some (.ref b), some p, some (.ref fa), y1, y2] ∧ Gw Fd H F2 H2 ∧ F2 fa = some (.lst zs) ∧ DpAll K F2 zs (L.map pathD) ∧ 0 < L.length ∧ L.length ≤ 1 + wtAll (ks.take i) ∧
      (∀ q ∈ L, ∃ q' e, q = pre ++ q' ∧ sub (.tuple [.str s0, .tuple ks]) q' = some e))
    ⟨l, [p], [pre], _, none, none, rfl, g1, upd_same, .cons (dp_mono g1.ff _ _ hp) .nil, Nat.one_pos, by simp, fun q hq => ⟨[], _, by simpa using hq, rfl⟩⟩ (fun i σ H2 _ p => ?_) (fun i x σ H2 H3 hi p hy2 => ?_) (fun σ H2 p => ?_)
  · obtain ⟨_, _, _, _, _, _, _, g, _⟩ := p
    exact same_t (hF.trans g.hh) hc
  · obtain ⟨fa, zs, L, F2, y1, y2, rfl, g, hfa, hzs, hL0, hL1, hLp⟩ := p
    obtain ⟨TT, x1, rfl, hT, rfl, hx1⟩ := hy2
    obtain ⟨kd, hk, hkd⟩ := DpAll.get hy hx1
    have gT : Gw F2 H2 F2 (upd H2 TT (.tup [.int (i : Nat), x1])) := Gw.temp g.fh hT
    refine ⟨TT, _, rfl, .inl (.inl upd_same), rfl, _, _, rfl, _, _, rfl, rfl, ?_⟩
    refine ⟨_, rfl, x1, rfl, _, rfl, _, rfl, by show 1 ≤ sizeLine; decide, fun t2 ht2 => ?_⟩
    have g3 : Gw Fd H _ _ := (g.trans gT).trans (Gw.new (o := .tup [V.int (i : Nat)]) gT.fh ht2)
    obtain ⟨pa, rfl, hpa⟩ := dp_path (dp_mono g3.ff _ _ hp)
    have h1' : SqT K (upd F2 t2 (.tup [V.int (i : Nat)])) t2 [V.int (i : Nat)] := .inl (.inl upd_same)
    have hin : DpAll K (upd F2 t2 (.tup [V.int (i : Nat)])) [V.int (i : Nat)] [PyData.int (i : Nat)] := .cons (.int _) .nil
    have hpre : DpAll K (upd F2 t2 (.tup [V.int (i : Nat)])) (pre.map fun (n : Nat) => V.int (n : Int)) (pre.map fun (n : Nat) => PyData.int (n : Int)) := path_all pre
    refine cat_data (ds := pre.map fun (n : Nat) => PyData.int (n : Int)) g3.fh hpa h1' hpre hin ?_ (fun pv F4 H4 g4 hpv => ?_)
    · rw [List.length_map]
      exact sz1000 (by show pre.length + 1 ≤ 1000; omega)
    have e5 : pathD (pre ++ [i]) = .tuple ((pre.map fun (n : Nat) => PyData.int (n : Int)) ++ [PyData.int (i : Nat)]) := by
      unfold pathD
      rw [List.map_append]
      rfl
    rw [← e5] at hpv
    have g5 := g3.trans g4
    have hwk : wt kd + 2 ≤ wtAll ks := by
      have := wtAll_take_le ks (i + 1)
      rw [wtAll_take hk] at this
      omega
    refine ⟨F4, x1, kd, pv, pre ++ [i], rfl, g5.fh, dp_mono g5.ff _ _ hkd, hks kd (List.mem_of_getElem? hk), hpv, by omega, by rw [List.length_append]; show pre.length + 1 ≤ _; omega, by omega, fun a2 xs2 L2 F6 H6 g6 ha2 hxs2 hl0 hl1 hLp2 => ?_⟩
    have g7 := g5.trans g6
    have hfa6 : F6 fa = some (.lst zs) := g6.ff _ _ (g4.ff _ _ (same_new (gT.fh.free ht2) _ _ hfa))
    have hzs6 : DpAll K F6 zs (L.map pathD) := dpAll_mono ((same_new (gT.fh.free ht2)).trans (g4.ff.trans g6.ff)) _ _ hzs
    have hz1 := DpAll.len hzs6
    have hz2 := DpAll.len hxs2
    rw [List.length_map] at hz1 hz2
    have hwt := wtAll_take_le ks i
    refine ⟨fa, a2, zs, xs2, rfl, rfl, g6.fh _ _ hfa6, g6.fh _ _ ha2, ?_, fun r hr' => ?_⟩
    · rw [hz1, hz2]
      exact Nat.le_trans (show L.length + L2.length ≤ 300000 by omega) (by decide)
    have g8 := g7.trans (Gw.new (o := .lst (zs ++ xs2)) g6.fh hr')
    refine ⟨r, zs ++ xs2, L ++ L2, _, _, _, rfl, g8, upd_same, ?_, ?_, ?_, fun q hq => ?_⟩
    · rw [List.map_append]
      exact dpAll_mono (same_new (g6.fh.free hr')) _ _ (DpAll.app hzs6 hxs2)
    · rw [List.length_append]
      omega
    · rw [List.length_append, wtAll_take hk]
      omega
    · rcases List.mem_append.mp hq with hq | hq
      · exact hLp q hq
      · obtain ⟨q', e, rfl, hs⟩ := hLp2 q hq
        refine ⟨i :: q', e, by simp, ?_⟩
        rw [sub, hk]
        exact hs
  · obtain ⟨fa, zs, L, F2, y1, y2, rfl, g, hfa, hzs, hL0, hL1, hLp⟩ := p
    rw [hly, List.take_length] at hL1
    refine ⟨_, rfl, k fa zs L F2 H2 g hfa hzs hL0 ?_ hLp⟩
    rw [wt_node]
    omega
theorem ok_places {f : Addr} {fd : FuncData} (F : Fun K "_law_places" "_law_places" sPlaces f fd) (mF : mg "_law_places" = some (.ref f)) (T : Bl mg) : ∀ n, FnOk P w K mg base CX0 n f fd ["_law_tree_here", "_law_path"] (spPlaces K n)
  | 0 => by
    have no : ∀ vs H Q E, ¬ spPlaces K 0 vs H Q E := fun vs H Q E h => by
      obtain ⟨_, _, _, _, _, _, _, _, h, _⟩ := h
      exact h
    exact ⟨fun vs H Q E h => absurd h (no vs H Q E), fun A outer s H args us vs Q E _ _ _ _ h => absurd h (no vs H Q E)⟩
  | n + 1 => ok_places1 F ⟨f, fd, ok_places F mF T n, mF, F.kp, F.binds (ps := ["_law_tree_here", "_law_path"]) fun _ _ _ _ _ _ us hl => match us, hl with | [_, _], _ => rfl⟩ T
end
end Tl

set_option Elab.async false
set_option linter.all false
set_option maxRecDepth 100000
set_option maxHeartbeats 8000000
namespace Tl
open PySem L2
/-- data in F within H, the source of numbers at st, which F does not know -/
structure Wd (st c : Addr) (F H : Hp) : Prop where
  fh : Same F H
  no : F st = none
  sa : StA H st c
theorem StA.there {H : Hp} {st c : Addr} (h : StA H st c) : H st ≠ none := by
  obtain ⟨cs, i, p, z, h1, _⟩ := h
  rw [h1]
  exact fun z => nomatch z
theorem Wd.next {st c : Addr} {F H : Hp} {o : HO} (w : Wd st c F H) (h : StA (upd H st o) st c) : Wd st c F (upd H st o) := ⟨same_mut w.fh w.no, w.no, h⟩
theorem Wd.gw {st c : Addr} {F H F' H' : Hp} (w : Wd st c F H) (g : Gw F H F' H') : Wd st c F' H' := ⟨g.fh, g.nw st w.sa.there w.no, w.sa.mono g.hh⟩
theorem Wd.same {st c : Addr} {F H H' : Hp} (w : Wd st c F H) (g : Same H H') : Wd st c F H' := ⟨w.fh.trans g, w.no, w.sa.mono g⟩
theorem Wd.ne {st c p : Addr} {F H : Hp} (w : Wd st c F H) (h : H p = none) : p ≠ st ∧ p ≠ c := by
  obtain ⟨cs, i, q, z, h1, h2, _⟩ := w.sa
  exact ⟨(ne_of_none h1 h).symm, (ne_of_none h2 h).symm⟩
/-- an object of our own, which neither F nor the source knows, is changed -/
theorem Wd.mut {st c p : Addr} {F H : Hp} {o : HO} (w : Wd st c F H) (h : F p = none) (h1 : p ≠ st) (h2 : p ≠ c) : Wd st c F (upd H p o) := by
  obtain ⟨cs, i, q, z, g1, g2, r⟩ := w.sa
  exact ⟨same_mut w.fh h, w.no, ⟨cs, i, q, z, by rw [upd_ne (Ne.symm h1)]; exact g1, by rw [upd_ne (Ne.symm h2)]; exact g2, r⟩⟩
end Tl

set_option Elab.async false
set_option linter.all false
set_option maxRecDepth 100000
set_option maxHeartbeats 8000000
namespace Tl
open PySem L2
abbrev sTreeL : Stmt := top 20
def nsV (es : List Nat) : List V := es.map fun (n : Nat) => V.int (n : Int)
theorem nsV_get {es : List Nat} {j e : Nat} (h : es[j]? = some e) : atI (nsV es) (j : Int) = some (.int (e : Int)) := atI_nat (by
  unfold nsV
  rw [List.getElem?_map, h]
  rfl)
theorem nsV_app (es : List Nat) (e : Nat) : nsV es ++ [.int (e : Int)] = nsV (es ++ [e]) := by
  unfold nsV
  rw [List.map_append]
  rfl
structure RelEL (es ls : List Nat) : Prop where
  first : ls[0]? = some 1
  lev : ∀ (j l : Nat), ls[j]? = some l → 1 ≤ l ∧ l ≤ 10
  eld : ∀ (j e : Nat), 1 ≤ j → es[j]? = some e → e < j ∧ ∀ (l l' : Nat), ls[e]? = some l → ls[j]? = some l' → l' = l + 1
theorem get_snoc {α : Type} {xs : List α} {x y : α} {j : Nat} (h : (xs ++ [x])[j]? = some y) : (j < xs.length ∧ xs[j]? = some y) ∨ (j = xs.length ∧ y = x) := by
  by_cases c : j < xs.length
  · rw [List.getElem?_append_left c] at h
    exact .inl ⟨c, h⟩
  · rw [List.getElem?_append_right (by omega)] at h
    have e : j - xs.length = 0 := by
      by_cases z : j - xs.length = 0
      · exact z
      · rw [List.getElem?_eq_none (by show 1 ≤ _; omega)] at h
        cases h
    rw [e] at h
    exact .inr ⟨by omega, (Option.some.inj h).symm⟩
theorem RelEL.app {es ls : List Nat} (r : RelEL es ls) {e l : Nat} (hlen : es.length = ls.length) (he : ls[e]? = some l) (hl : l ≤ 9) : RelEL (es ++ [e]) (ls ++ [l + 1]) := by
  have hel : e < ls.length := (List.getElem?_eq_some_iff.mp he).1
  refine ⟨?_, fun j m h => ?_, fun j e' hj h => ?_⟩
  · rw [List.getElem?_append_left (by omega)]
    exact r.first
  · rcases get_snoc h with ⟨_, h⟩ | ⟨_, rfl⟩
    · exact r.lev j m h
    · omega
  · rcases get_snoc h with ⟨c, h⟩ | ⟨rfl, rfl⟩
    · obtain ⟨h1, h2⟩ := r.eld j e' hj h
      refine ⟨h1, fun a b ha hb => ?_⟩
      rw [List.getElem?_append_left (by omega)] at ha hb
      exact h2 a b ha hb
    · refine ⟨by omega, fun a b ha hb => ?_⟩
      rw [List.getElem?_append_left hel] at ha
      rw [hlen, List.getElem?_append_right (Nat.le_refl _), Nat.sub_self] at hb
      rw [he] at ha
      cases ha
      exact (Option.some.inj hb).symm
theorem RelEL.one : RelEL [0] [1] := by
  refine ⟨rfl, fun j l h => ?_, fun j e hj h => ?_⟩
  · match j, h with
    | 0, h => have := Option.some.inj h; omega
    | j + 1, h => simp at h
  · match j, h with
    | 0, _ => omega
    | j + 1, h => simp at h
/-- the weights of the first m lists together -/
def sw (m : Nat) (tss : List (List PyData)) : Nat := ((tss.take m).map wtAll).sum
theorem sw_succ {m : Nat} {tss : List (List PyData)} {ts : List PyData} (h : tss[m]? = some ts) : sw (m + 1) tss = sw m tss + wtAll ts := by
  unfold sw
  rw [List.take_add_one, h, List.map_append, List.sum_append]
  simp
theorem sw_set : ∀ {m e : Nat} {tss : List (List PyData)} {ts : List PyData} {T : PyData}, e < m → tss[e]? = some ts → sw m (tss.set e (ts ++ [T])) = sw m tss + (wt T + 2)
  | 0, _, _, _, _, h, _ => by omega
  | m + 1, 0, a :: r, ts, T, _, h => by
    have e : a = ts := Option.some.inj h
    subst e
    show ((a ++ [T]) :: r.take m |>.map wtAll).sum = ((a :: r.take m).map wtAll).sum + _
    rw [List.map_cons, List.map_cons, List.sum_cons, List.sum_cons, wtAll_app, wtAll, wtAll]
    omega
  | m + 1, e + 1, a :: r, ts, T, h, h2 => by
    have ih := sw_set (m := m) (e := e) (tss := r) (ts := ts) (T := T) (by omega) h2
    unfold sw at ih ⊢
    show ((a :: (r.set e (ts ++ [T])).take m).map wtAll).sum = ((a :: r.take m).map wtAll).sum + _
    rw [List.map_cons, List.map_cons, List.sum_cons, List.sum_cons, ih]
    omega
  | _ + 1, _, [], _, _, _, h => by simp at h
theorem wt_sw : ∀ {m e : Nat} {tss : List (List PyData)} {ts : List PyData}, e < m → tss[e]? = some ts → wtAll ts ≤ sw m tss
  | 0, _, _, _, h, _ => by omega
  | m + 1, 0, a :: r, ts, _, h => by
    have e : a = ts := Option.some.inj h
    subst e
    show wtAll a ≤ ((a :: r.take m).map wtAll).sum
    rw [List.map_cons, List.sum_cons]
    omega
  | m + 1, e + 1, a :: r, ts, h, h2 => by
    have ih := wt_sw (m := m) (e := e) (tss := r) (ts := ts) (by omega) h2
    unfold sw at ih ⊢
    show _ ≤ ((a :: r.take m).map wtAll).sum
    rw [List.map_cons, List.sum_cons]
    omega
  | _ + 1, _, [], _, _, h => by simp at h
theorem sw_rep (m n : Nat) : sw m (List.replicate n []) = 0 := by
  unfold sw
  rw [List.take_replicate, List.map_replicate]
  generalize min m n = k
  induction k with
  | zero => rfl
  | succ k ih => rw [List.replicate_succ, List.sum_cons, ih]; rfl
theorem wtAll_rev (ts : List PyData) : wtAll ts.reverse = wtAll ts := by
  induction ts with
  | nil => rfl
  | cons a r ih => rw [List.reverse_cons, wtAll_app, ih, wtAll, wtAll, wtAll]; omega
def tags5 : List Str := ["a", "b", "ab", "zz", "abcdefgh"]
theorem tags5_ok : ∀ s ∈ tags5, 1 ≤ s.length ∧ s.length ≤ 8 ∧ (PyData.strOk s = true ∧ s ∈ tags6) := by decide +kernel
/-- the lists of kids: tss[j] at as[j] -/
structure KidsAt (K : PySem.W.Frag) (D : Addr) (as : List Addr) (tss : List (List PyData)) (F H : Hp) : Prop where
  lst : H D = some (.lst (as.map V.ref))
  nd : as.Nodup
  len : as.length = tss.length
  noD : ¬ D ∈ as
  at_ : ∀ (j : Nat) (a : Addr) (ts : List PyData), as[j]? = some a → tss[j]? = some ts → ∃ vs, H a = some (.lst vs) ∧ DpAll K F vs ts
  noF : ∀ a ∈ as, F a = none
theorem KidsAt.gw {K : PySem.W.Frag} {D : Addr} {as : List Addr} {tss : List (List PyData)} {F H F' H' : Hp} (k : KidsAt K D as tss F H) (g : Gw F H F' H') : KidsAt K D as tss F' H' := by
  refine ⟨g.hh _ _ k.lst, k.nd, k.len, k.noD, fun j a ts h1 h2 => ?_, fun a ha => ?_⟩
  · obtain ⟨vs, h3, h4⟩ := k.at_ j a ts h1 h2
    exact ⟨vs, g.hh _ _ h3, dpAll_mono g.ff _ _ h4⟩
  · obtain ⟨j, hj, rfl⟩ := List.getElem_of_mem ha
    obtain ⟨vs, h3, _⟩ := k.at_ j as[j] (tss[j]'(by rw [← k.len]; exact hj)) (List.getElem?_eq_getElem hj) (List.getElem?_eq_getElem _)
    exact g.nw _ (by rw [h3]; exact fun z => nomatch z) (k.noF _ ha)
theorem KidsAt.next {K : PySem.W.Frag} {D st : Addr} {as : List Addr} {tss : List (List PyData)} {F H : Hp} {o : HO} (k : KidsAt K D as tss F H) (h1 : st ≠ D) (h2 : ¬ st ∈ as) : KidsAt K D as tss F (upd H st o) := by
  refine ⟨by rw [upd_ne (Ne.symm h1)]; exact k.lst, k.nd, k.len, k.noD, fun j a ts h3 h4 => ?_, k.noF⟩
  obtain ⟨vs, h5, h6⟩ := k.at_ j a ts h3 h4
  exact ⟨vs, by rw [upd_ne (fun z => h2 (by rw [← z]; exact List.mem_of_getElem? h3))]; exact h5, h6⟩
theorem KidsAt.put {K : PySem.W.Frag} {D : Addr} {as : List Addr} {tss : List (List PyData)} {F H : Hp} {e : Nat} {a : Addr} {ts : List PyData} {vs : List V} {v : V} {T : PyData} (k : KidsAt K D as tss F H) (h1 : as[e]? = some a) (h2 : tss[e]? = some ts)
    (h3 : H a = some (.lst vs)) (h4 : DpAll K F vs ts) (hv : Dp K F v T) : KidsAt K D as (tss.set e (ts ++ [T])) F (upd H a (.lst (vs ++ [v]))) := by
  have ham := List.mem_of_getElem? h1
  refine ⟨by rw [upd_ne (fun z => k.noD (by rw [z]; exact ham))]; exact k.lst, k.nd, by rw [List.length_set]; exact k.len, k.noD, fun j b us h5 h6 => ?_, k.noF⟩
  by_cases c : j = e
  · subst c
    have e1 : b = a := Option.some.inj (h5.symm.trans h1)
    subst e1
    rw [List.getElem?_set_self (List.getElem?_eq_some_iff.mp h2).1] at h6
    cases h6
    exact ⟨vs ++ [v], upd_same, DpAll.app h4 (.cons hv .nil)⟩
  · rw [List.getElem?_set_ne (fun z => c z.symm)] at h6
    obtain ⟨ws, h7, h8⟩ := k.at_ j b us h5 h6
    exact ⟨ws, by rw [upd_ne (fun z => c (nd_ix k.nd h5 (by rw [z]; exact h1)))]; exact h7, h8⟩
def spTreeL (K : PySem.W.Frag) : Sp := fun vs H Q _ => ∃ (st cc : Addr) (F : Hp) (most : Int), vs = [.ref st, .int most] ∧ Wd st cc F H ∧ 1 ≤ most ∧ most ≤ 100 ∧
  ∀ (r : V) (d : PyData) (F' H' : Hp), Wd st cc F' H' → Same F F' → Dp K F' r d → TrD 10 d → ((wt d : Nat) : Int) ≤ 98 * most → Q r H'
section
variable {P : Program} {w : World} {K : PySem.W.Frag} {mg : Str → Option Value} {base : Heap}
theorem scTreeL : FnScope ["_law_state_here", "_law_most", "_law_tags", "_law_many", "_law_slope", "_law_elders", "_law_levels", "_law_k", "_law_kids", "_law_elder"] ["_law_state_here", "_law_most"] (defScope sTreeL) := ⟨rfl, rfl, rfl, by decide +kernel, rfl, by decide +kernel, by decide +kernel⟩
theorem ok_treeL {f : Addr} {fd : FuncData} {k j : Nat} (F : Fun K "_law_tree" "_law_tree" sTreeL f fd) (U_law_next : Use P w K mg base "_law_next" ["_law_state_here", "_law_below"] j spNext) (hj : j ≤ k) (T : Bl mg) : FnOk P w K mg base CX0 (k + 1) f fd ["_law_state_here", "_law_most"] (spTreeL K) := by
  refine F.ok scTreeL (fun vs H Q E h => ?_) (fun cdv A outer s H vs Q E hr h => ?_)
  · obtain ⟨_, _, _, _, rfl, _⟩ := h
    rfl
  obtain ⟨st, cc, Fd, most, rfl, W, hm1, hm2, k⟩ := h
  refine ⟨_, (pss_cons (ps_set (i := 2) scTreeL.nd rfl (.inl rfl) (pe_lst (pa_cons pe_str (pa_cons pe_str (pa_cons pe_str (pa_cons pe_str (pa_cons pe_str pa_nil)))))))
    (pss_cons (ps_set (i := 3) scTreeL.nd rfl (.inl rfl) (pe_op op_add pe_int (pe_call U_law_next.ok (hr.mono (by omega)) rfl U_law_next.m U_law_next.kp U_law_next.b .nil pass0 (pa_cons (pv 0) (pa_cons (pv 1) pa_nil)))))
    (pss_cons (ps_set (i := 4) scTreeL.nd rfl (.inl rfl) (pe_call U_law_next.ok (hr.mono (by omega)) rfl U_law_next.m U_law_next.kp U_law_next.b .nil pass0 (pa_cons (pv 0) (pa_cons pe_int pa_nil))))
    (pss_cons (ps_set (i := 5) scTreeL.nd rfl (.inl rfl) (pe_lst (pa_cons pe_int pa_nil)))
    (pss_cons (ps_set (i := 6) scTreeL.nd rfl (.inl rfl) (pe_lst (pa_cons pe_int pa_nil)))
    (pss_cons (ps_for PassesOwn.never rfl (pi_range2 (by rfl) T.range (pa_cons pe_int (pa_cons (pv 3) pa_nil))) (pg_name (i := 7) scTreeL.nd rfl (.inl rfl)) (pss_cons (ps_set (i := 9) scTreeL.nd rfl (.inl rfl) (pe_ix ix_list (pe_lst (pa_cons (pe_call U_law_next.ok (hr.mono (by omega)) rfl U_law_next.m U_law_next.kp U_law_next.b .nil pass0 (pa_cons (pv 0) (pa_cons (pv 7) pa_nil))) (pa_cons (pe_op op_sub (pv 7) pe_int) (pa_cons (pe_callB (call_max2 rfl) (by rfl) T.max PyProof.Rows.boot_max (pa_cons pe_int (pa_cons (pe_op op_sub (pe_op op_sub (pv 7) pe_int) (pe_call U_law_next.ok (hr.mono (by omega)) rfl U_law_next.m U_law_next.kp U_law_next.b .nil pass0 (pa_cons (pv 0) (pa_cons pe_int pa_nil)))) pa_nil))) pa_nil)))) (pv 4) (fun _ _ => rfl)))
      (pss_cons (ps_if (pt_cmpR op_gt (pe_ix ix_list (pv 6) (pv 9) (fun _ _ => rfl)) pe_int (nomark _)) (pss_one (ps_set (i := 9) scTreeL.nd rfl (.inl rfl) pe_int)) pss_nil)
      (pss_cons (ps_expr (pe_bm PySem.F.plainAttrs_list PySem.F.slot_list_append PySem.F.type_list_append mt_append (pv 5) (pa_cons (pv 9) pa_nil)))
      (pss_one (ps_expr (pe_bm PySem.F.plainAttrs_list PySem.F.slot_list_append PySem.F.type_list_append mt_append (pv 6) (pa_cons (pe_op op_add (pe_ix ix_list (pv 6) (pv 9) (fun _ _ => rfl)) pe_int) pa_nil))))))))
    (pss_cons (ps_setLc (i := 8) (own := [("_law_k", 7)]) (g := gName 7) (tt := tYes) (by rfl) scTreeL.nd rfl rfl (sw_true rfl rfl rfl (by decide +kernel)) (pi_range1 (by rfl) T.range (pa_cons (pv 3) pa_nil)) (blkOk_by (N := ["_law_state_here", "_law_most", "_law_tags", "_law_many", "_law_slope", "_law_elders", "_law_levels", "_law_k", "_law_kids", "_law_elder"]) (sc := defScope sTreeL) (own := [("_law_k", 7)]) (by decide +kernel)) (fun _ _ _ _ _ => pg_name (i := 7) scTreeL.nd rfl (Or.inl rfl)) (fun _ _ _ _ _ => pts_nil) (fun _ _ _ _ _ => (pe_lst pa_nil)))
    (pss_cons (ps_for PassesOwn.never rfl (pi_range3 (by rfl) T.range (pa_cons (pe_op op_sub (pv 3) pe_int) (pa_cons pe_int (pa_cons (pe_un un_neg pe_int) pa_nil)))) (pg_name (i := 7) scTreeL.nd rfl (.inl rfl)) (pss_one (ps_expr (pe_bm PySem.F.plainAttrs_list PySem.F.slot_list_append PySem.F.type_list_append mt_append (pe_ix ix_list (pv 8) (pe_ix ix_list (pv 5) (pv 7) (fun _ _ => rfl)) (fun _ _ => rfl)) (pa_cons (pe_tup (pa_cons (pe_ix ix_list (pv 2) (pe_call U_law_next.ok (hr.mono (by omega)) rfl U_law_next.m U_law_next.kp U_law_next.b .nil pass0 (pa_cons (pv 0) (pa_cons pe_int pa_nil))) (fun _ _ => rfl)) (pa_cons (pe_callTy call_tuple_of (by rfl) T.tuple PyProof.Rows.boot_tuple (pa_cons (pe_revL (pe_ix ix_list (pv 8) (pv 7) (fun _ _ => rfl))) pa_nil)) pa_nil))) pa_nil)))))
    (pss_one (ps_ret (pe_tup (pa_cons (pe_ix ix_list (pv 2) (pe_call U_law_next.ok (hr.mono (by omega)) rfl U_law_next.m U_law_next.kp U_law_next.b .nil pass0 (pa_cons (pv 0) (pa_cons pe_int pa_nil))) (fun _ _ => rfl)) (pa_cons (pe_callTy call_tuple_of (by rfl) T.tuple PyProof.Rows.boot_tuple (pa_cons (pe_revL (pe_ix ix_list (pv 8) pe_int (fun _ _ => rfl))) pa_nil)) pa_nil))))))))))))), ?_⟩
  refine ⟨by show 5 ≤ sizeLine; decide, fun tg htg => ?_⟩
  obtain ⟨g0, d0⟩ := gw_lst (K := K) (xs := tags5.map V.str) (ds := tags5.map PyData.str) W.fh htg (.cons (.str _) (.cons (.str _) (.cons (.str _) (.cons (.str _) (.cons (.str _) .nil)))))
  have W0 := W.gw g0
  have e0 := g0.ff
  have htg0 : (upd Fd tg (.lst (tags5.map V.str))) tg = some (.lst (tags5.map V.str)) := upd_same
  generalize upd Fd tg (.lst (tags5.map V.str)) = F0 at W0 e0 htg0
  clear d0 g0
  refine ⟨_, rfl, _, rfl, st, cc, most, rfl, W0.sa, by omega, by omega, fun m0 o1 hm00 hm01 sa1 => ?_⟩
  have W1 := W0.next sa1
  refine ⟨1, m0, rfl, rfl, ?_⟩
  refine ⟨_, rfl, st, cc, 3, rfl, W1.sa, by decide, by decide, fun slope o2 hs0 hs1 sa2 => ?_⟩
  have W2 := W1.next sa2
  obtain ⟨mn, hmn⟩ : ∃ mn : Nat, 1 + m0 = ((mn + 1 : Nat) : Int) := ⟨m0.toNat, by omega⟩
  have hmn2 : mn + 1 ≤ 100 := by omega
  refine ⟨by show 1 ≤ sizeLine; decide, fun el hel => ?_⟩
  have W3 := W2.same (same_new (o := .lst [.int 0]) hel)
  refine ⟨by show 1 ≤ sizeLine; decide, fun lv hlv => ?_⟩
  have W4 := W3.same (same_new (o := .lst [.int 1]) hlv)
  obtain ⟨nel, nelc⟩ := W2.ne hel
  obtain ⟨nlv, nlvc⟩ := W3.ne hlv
  have fel : F0 el = none := W2.fh.free hel
  have flv : F0 lv = none := W3.fh.free hlv
  have nll : el ≠ lv := ne_of_none upd_same hlv
  refine ⟨_, rfl, 1, 1 + m0, rfl, ⟨by omega, by omega, by omega, by omega⟩, ?_⟩
  refine for_range (lo := 1) (n := (1 + m0 - 1).toNat) (fun i σ H2 => ∃ (es ls : List Nat) (y7 y9 : Option V), σ = [some (.ref st), some (.int most), some (.ref tg), some (.int (1 + m0)), some (.int slope), some (.ref el), some (.ref lv), y7, none, y9] ∧ Wd st cc F0 H2 ∧ H2 el = some (.lst (nsV es)) ∧ H2 lv = some (.lst (nsV ls)) ∧ es.length = i + 1 ∧ ls.length = i + 1 ∧ RelEL es ls)
    ⟨[0], [1], none, none, rfl, W4, ?_, upd_same, rfl, rfl, RelEL.one⟩ (fun i σ H2 hi p => ?_) (fun σ H2 p => ?_)
  · rw [upd_ne nll]
    exact upd_same
  · obtain ⟨es, ls, y7, y9, rfl, W5, hE, hL, le, ll, R⟩ := p
    -- the three elders
    refine ⟨_, rfl, _, rfl, st, cc, _, rfl, W5.sa, by omega, by omega, fun a1 o6 ha10 ha11 sa6 => ?_⟩
    have W6 := W5.next sa6
    refine ⟨_, rfl, _, _, rfl, rfl, _, rfl, _, _, rfl, rfl, _, rfl, st, cc, 3, rfl, W6.sa, by decide, by decide, fun a2 o7 ha20 ha21 sa7 => ?_⟩
    have W7 := W6.next sa7
    refine ⟨_, _, rfl, rfl, 0, _, rfl, by show 3 ≤ sizeLine; decide, fun p8 hp8 => ?_⟩
    have E7 : (upd (upd H2 st o6) st o7) el = some (.lst (nsV es)) := by rw [upd_ne nel, upd_ne nel]; exact hE
    have L7 : (upd (upd H2 st o6) st o7) lv = some (.lst (nsV ls)) := by rw [upd_ne nlv, upd_ne nlv]; exact hL
    have s8 := same_new (o := HO.lst [V.int a1, V.int (1 + (i : Int) - 1), V.int (if 1 + (i : Int) - 1 - a2 > 0 then 1 + (i : Int) - 1 - a2 else 0)]) hp8
    have W8 := W7.same s8
    have E8 := s8 _ _ E7
    have L8 := s8 _ _ L7
    have pick : ∃ e : Nat, e ≤ i ∧ atI [V.int a1, V.int (1 + (i : Int) - 1), V.int (if 1 + (i : Int) - 1 - a2 > 0 then 1 + (i : Int) - 1 - a2 else 0)] slope = some (.int (e : Int)) := by
      rcases (show slope = 0 ∨ slope = 1 ∨ slope = 2 by omega) with rfl | rfl | rfl
      · exact ⟨a1.toNat, by omega, by rw [show ((a1.toNat : Nat) : Int) = a1 by omega]; exact atI_nat (j := 0) rfl⟩
      · exact ⟨i, Nat.le_refl _, (atI_nat (j := 1) rfl).trans (congrArg (fun z => some (V.int z)) (by omega))⟩
      · by_cases c : 1 + (i : Int) - 1 - a2 > 0
        · exact ⟨(1 + (i : Int) - 1 - a2).toNat, by omega, by rw [if_pos c, show (((1 + (i : Int) - 1 - a2).toNat : Nat) : Int) = 1 + (i : Int) - 1 - a2 by omega]; exact atI_nat (j := 2) rfl⟩
        · exact ⟨0, by omega, by rw [if_neg c]; exact atI_nat (j := 2) rfl⟩
    obtain ⟨e, hei, hat⟩ := pick
    refine ⟨_, rfl, p8, _, slope, _, rfl, rfl, SqL.of upd_same, hat, ?_⟩
    obtain ⟨l, hl⟩ : ∃ l, ls[e]? = some l := ⟨ls[e]'(by omega), List.getElem?_eq_getElem _⟩
    have hl10 := R.lev e l hl
    refine ⟨_, rfl, _, rfl, lv, _, _, _, rfl, rfl, SqL.of L8, nsV_get hl, _, _, rfl, rfl, _, rfl, ?_⟩
    refine iteD (fun c => ?_) (fun c => ?_)
    · have h0 : ls[0]? = some 1 := R.first
      refine ⟨_, rfl, .inl ⟨rfl, _, SqL.of E8⟩, _, rfl, el, _, _, rfl, rfl, E8, ?_, ?_⟩
      · unfold nsV
        rw [List.length_map]
        exact small1000 (by omega)
      have W9 := W8.mut (o := .lst (nsV es ++ [.int ((0 : Nat) : Int)])) fel nel nelc
      have L9 : (upd (upd (upd (upd H2 st o6) st o7) p8 (.lst [V.int a1, V.int (1 + (i : Int) - 1), V.int (if 1 + (i : Int) - 1 - a2 > 0 then 1 + (i : Int) - 1 - a2 else 0)])) el (.lst (nsV es ++ [.int ((0 : Nat) : Int)]))) lv = some (.lst (nsV ls)) := by rw [upd_ne (Ne.symm nll)]; exact L8
      refine ⟨_, rfl, .inl ⟨rfl, _, SqL.of L9⟩, _, rfl, _, rfl, lv, _, _, _, rfl, rfl, SqL.of L9, nsV_get h0, _, _, rfl, rfl, lv, _, _, rfl, rfl, L9, ?_, ?_⟩
      · unfold nsV
        rw [List.length_map]
        exact small1000 (by omega)
      have W10 := W9.mut (o := .lst (nsV ls ++ [.int (((1 : Nat) : Int) + 1)])) flv nlv nlvc
      refine ⟨es ++ [(0 : Nat)], ls ++ [(1 : Nat) + 1], _, _, rfl, W10, ?_, ?_, by rw [List.length_append, le]; rfl, by rw [List.length_append, ll]; rfl, R.app (by omega) h0 (by omega)⟩
      · rw [upd_ne nll, upd_same]
        exact congrArg (fun z => some (HO.lst z)) (nsV_app es _)
      · rw [upd_same]
        exact congrArg (fun z => some (HO.lst z)) (nsV_app ls _)
    · skip
      refine ⟨_, rfl, .inl ⟨rfl, _, SqL.of E8⟩, _, rfl, el, _, _, rfl, rfl, E8, ?_, ?_⟩
      · unfold nsV
        rw [List.length_map]
        exact small1000 (by omega)
      have W9 := W8.mut (o := .lst (nsV es ++ [.int (e : Int)])) fel nel nelc
      have L9 : (upd (upd (upd (upd H2 st o6) st o7) p8 (.lst [V.int a1, V.int (1 + (i : Int) - 1), V.int (if 1 + (i : Int) - 1 - a2 > 0 then 1 + (i : Int) - 1 - a2 else 0)])) el (.lst (nsV es ++ [.int (e : Int)]))) lv = some (.lst (nsV ls)) := by rw [upd_ne (Ne.symm nll)]; exact L8
      refine ⟨_, rfl, .inl ⟨rfl, _, SqL.of L9⟩, _, rfl, _, rfl, lv, _, _, _, rfl, rfl, SqL.of L9, nsV_get hl, _, _, rfl, rfl, lv, _, _, rfl, rfl, L9, ?_, ?_⟩
      · unfold nsV
        rw [List.length_map]
        exact small1000 (by omega)
      have W10 := W9.mut (o := .lst (nsV ls ++ [.int ((l : Int) + 1)])) flv nlv nlvc
      refine ⟨es ++ [e], ls ++ [l + 1], _, _, rfl, W10, ?_, ?_, by rw [List.length_append, le]; rfl, by rw [List.length_append, ll]; rfl, R.app (by omega) hl (by omega)⟩
      · rw [upd_ne nll, upd_same]
        exact congrArg (fun z => some (HO.lst z)) (nsV_app es _)
      · rw [upd_same]
        exact congrArg (fun z => some (HO.lst z)) (nsV_app ls _)
  · obtain ⟨es, ls, y7, y9, rfl, W5, hE, hL, le, ll, R⟩ := p
    have hn : (1 + m0 - 1).toNat = mn := by omega
    rw [hn] at le ll
    have hn1 : (1 + m0).toNat = mn + 1 := by omega
    refine ⟨_, rfl, 1 + m0, rfl, by omega, by omega, fun D hD => ?_⟩
    have hDs := W5.ne hD
    refine lc_range (lo := 0) (n := (1 + m0).toNat) (fun i H3 => ∃ as : List Addr, as.length = i ∧ H3 D = some (.lst (as.map V.ref)) ∧ as.Nodup ∧ (¬ D ∈ as) ∧ (∀ a ∈ as, H3 a = some (.lst []) ∧ H2 a = none) ∧ Same H2 H3)
      ⟨[], rfl, upd_same, List.nodup_nil, List.not_mem_nil, fun a h => absurd h List.not_mem_nil, same_new hD⟩ (fun i H3 hi p => ?_) (fun H3 p => ?_)
    · obtain ⟨as, l1, l2, l3, l4, l5, l6⟩ := p
      refine ⟨rfl, ?_⟩
      refine ⟨by show 0 ≤ sizeLine; decide, fun p hp => ?_⟩
      have npD : D ≠ p := ne_of_none l2 hp
      have npas : ¬ p ∈ as := fun h => by rw [(l5 p h).1] at hp; cases hp
      refine ⟨as.map V.ref, by rw [upd_ne npD]; exact l2, ?_, as ++ [p], by rw [List.length_append, l1]; rfl, ?_, ?_, ?_, fun a ha => ?_, ?_⟩
      · rw [List.length_map, l1]
        exact small1000 (by omega)
      · rw [upd_same, List.map_append]
        rfl
      · rw [List.nodup_append]
        exact ⟨l3, by simp, fun x hx y hy => by
          rw [List.mem_singleton.mp hy]
          exact fun z => npas (by rw [← z]; exact hx)⟩
      · intro h
        rcases List.mem_append.mp h with h | h
        · exact l4 h
        · exact npD (List.mem_singleton.mp h)
      · rcases List.mem_append.mp ha with ha | ha
        · have naD : a ≠ D := fun z => l4 (by rw [← z]; exact ha)
          have nap : a ≠ p := fun z => npas (by rw [← z]; exact ha)
          rw [upd_ne naD, upd_ne nap]
          exact l5 a ha
        · rw [List.mem_singleton.mp ha]
          refine ⟨?_, l6.free hp⟩
          rw [upd_ne (Ne.symm npD)]
          exact upd_same
      · exact same_mut (l6.trans (same_new hp)) hD
    obtain ⟨as, l1, l2, l3, l4, l5, l6⟩ := p
    rw [hn1] at l1
    have W6 := W5.same l6
    have E6 := l6 _ _ hE
    have asok : ∀ a ∈ as, a ≠ st ∧ a ≠ cc ∧ a ≠ el := fun a ha => ⟨(W5.ne (l5 a ha).2).1, (W5.ne (l5 a ha).2).2, (ne_of_none hE (l5 a ha).2).symm⟩
    have K6 : KidsAt K D as (List.replicate (mn + 1) []) F0 H3 := by
      refine ⟨l2, l3, by rw [l1, List.length_replicate], l4, fun j a ts h1 h2 => ?_, fun a ha => W5.fh.free (l5 a ha).2⟩
      rw [(List.mem_replicate.mp (List.mem_of_getElem? h2)).2]
      exact ⟨[], (l5 a (List.mem_of_getElem? h1)).1, .nil⟩
    refine ⟨_, rfl, _, _, rfl, rfl, 1, rfl, 1 + m0 - 1, 0, -1, _, rfl, RgC.neg (by omega) (by omega) (by omega) (by omega), ?_⟩
    have hn2 : (1 + m0 - 1 - 0).toNat = mn := by omega
    refine for_rangeC (lo := 1 + m0 - 1) (c := -1) (n := (1 + m0 - 1 - 0).toNat) (fun i σ H4 => ∃ (tss : List (List PyData)) (F2 : Hp) (z7 : Option V), σ = [some (.ref st), some (.int most), some (.ref tg), some (.int (1 + m0)), some (.int slope), some (.ref el), some (.ref lv), z7, some (.ref D), y9] ∧ Wd st cc F2 H4 ∧ Same F0 F2 ∧ H4 el = some (.lst (nsV es)) ∧ KidsAt K D as tss F2 H4 ∧ tss.length = mn + 1 ∧ sw (mn + 1 - i) tss ≤ 98 * i ∧ ∀ (j l : Nat) (ts : List PyData), tss[j]? = some ts → ls[j]? = some l → ∀ t ∈ ts, TrD (10 - l) t)
      ⟨List.replicate (mn + 1) [], F0, _, rfl, W6, Same.refl _, E6, K6, List.length_replicate, by rw [sw_rep]; exact Nat.zero_le _, fun j l ts h1 _ t ht => ?_⟩ (fun i σ H4 hi p => ?_) (fun σ H4 p => ?_)
    · rw [(List.mem_replicate.mp (List.mem_of_getElem? h1)).2] at ht
      cases ht
    · obtain ⟨tss, F2, z7, rfl, W7, e7, E7, K7, lt7, sw7, tr7⟩ := p
      rw [hn2] at hi
      obtain ⟨kk, hkk⟩ : ∃ kk : Nat, kk + i = mn := ⟨mn - i, by omega⟩
      have hkv : 1 + m0 - 1 + ((i : Nat) : Int) * -1 = (kk : Int) := by omega
      have hk1 : 1 ≤ kk := by omega
      obtain ⟨e, he⟩ : ∃ e, es[kk]? = some e := ⟨es[kk]'(by omega), List.getElem?_eq_getElem _⟩
      obtain ⟨hek, hlev⟩ := R.eld kk e hk1 he
      obtain ⟨ae, hae⟩ : ∃ a, as[e]? = some a := ⟨as[e]'(by omega), List.getElem?_eq_getElem _⟩
      obtain ⟨ak, hak⟩ : ∃ a, as[kk]? = some a := ⟨as[kk]'(by omega), List.getElem?_eq_getElem _⟩
      obtain ⟨te, hte⟩ : ∃ t, tss[e]? = some t := ⟨tss[e]'(by omega), List.getElem?_eq_getElem _⟩
      obtain ⟨tk, htk⟩ : ∃ t, tss[kk]? = some t := ⟨tss[kk]'(by omega), List.getElem?_eq_getElem _⟩
      obtain ⟨le', hle'⟩ : ∃ l, ls[e]? = some l := ⟨ls[e]'(by omega), List.getElem?_eq_getElem _⟩
      obtain ⟨lk, hlk⟩ : ∃ l, ls[kk]? = some l := ⟨ls[kk]'(by omega), List.getElem?_eq_getElem _⟩
      have hll := hlev le' lk hle' hlk
      have hlk10 := R.lev kk lk hlk
      obtain ⟨aest, aecc, aeel⟩ := asok ae (List.mem_of_getElem? hae)
      obtain ⟨akst, akcc, akel⟩ := asok ak (List.mem_of_getElem? hak)
      have stD : st ≠ D := (hDs.1).symm
      have stas : ¬ st ∈ as := fun h => (asok st h).1 rfl
      have atk : ∀ {xs : List V} {v : V}, xs[kk]? = some v → atI xs (1 + m0 - 1 + ((i : Nat) : Int) * -1) = some v := fun h => at_of hkv h
      have atE : atI (nsV es) (1 + m0 - 1 + ((i : Nat) : Int) * -1) = some (.int (e : Int)) := by rw [hkv]; exact nsV_get he
      obtain ⟨ve, hve, dve⟩ := K7.at_ e ae te hae hte
      have atAe : atI (as.map V.ref) (e : Int) = some (.ref ae) := atI_nat (by rw [List.getElem?_map, hae]; rfl)
      have atAk : atI (as.map V.ref) (1 + m0 - 1 + ((i : Nat) : Int) * -1) = some (.ref ak) := atk (by rw [List.getElem?_map, hak]; rfl)
      refine ⟨_, rfl, _, rfl, _, rfl, el, _, _, _, rfl, rfl, SqL.of E7, atE, D, _, _, _, rfl, rfl, SqL.of K7.lst, atAe, .inl ⟨rfl, _, SqL.of hve⟩, ?_⟩
      refine ⟨_, rfl, _, rfl, st, cc, 5, rfl, W7.sa, by decide, by decide, fun r8 o8 hr80 hr81 sa8 => ?_⟩
      have W8 := W7.next sa8
      have K8 := K7.next (o := o8) stD stas
      obtain ⟨tgs, htgs, hat⟩ : ∃ s, s ∈ tags5 ∧ atI (tags5.map V.str) r8 = some (.str s) := by
        obtain ⟨r, rfl⟩ : ∃ r : Nat, r8 = (r : Int) := ⟨r8.toNat, by omega⟩
        have hr5 : r < tags5.length := by show r < 5; omega
        exact ⟨tags5[r], List.getElem_mem hr5, atI_nat (by rw [List.getElem?_map, List.getElem?_eq_getElem hr5]; rfl)⟩
      have htag := tags5_ok tgs htgs
      refine ⟨tg, _, r8, _, rfl, rfl, SqL.of (W8.fh _ _ (e7 _ _ htg0)), hat, ?_⟩
      obtain ⟨vk, hvk, dvk⟩ := K8.at_ kk ak tk hak htk
      refine ⟨_, rfl, _, rfl, D, _, _, _, rfl, rfl, SqL.of K8.lst, atAk, ak, vk, rfl, SqL.of hvk, fun p9 hp9 => ?_⟩
      have g9 : Gw F2 (upd H4 st o8) F2 (upd (upd H4 st o8) p9 (.lst vk.reverse)) := Gw.temp W8.fh hp9
      refine ⟨p9, _, rfl, .inl ⟨SqL.of upd_same, fun p10 hp10 => ?_⟩⟩
      obtain ⟨g10, d10⟩ := gw_tup (K := K) (xs := vk.reverse) g9.fh hp10 (DpAll.rev dvk)
      refine ⟨by show 2 ≤ sizeLine; decide, fun p11 hp11 => ?_⟩
      obtain ⟨g11, d11⟩ := gw_tup (K := K) (xs := [.str tgs, .ref p10]) g10.fh hp11 (.cons (.str _) (.cons d10 .nil))
      have G := (g9.trans g10).trans g11
      have W12 := W8.gw G
      have K12 := K8.gw G
      obtain ⟨ve2, hve2, dve2⟩ := K12.at_ e ae te hae hte
      have hlt : wtAll te ≤ sw (mn + 1 - i) tss := wt_sw (by omega) hte
      have hl2 := len_wt te
      refine ⟨ae, ve2, _, rfl, rfl, hve2, ?_, ?_⟩
      · rw [DpAll.len dve2]
        exact Nat.lt_of_le_of_lt (show te.length ≤ 100000 by omega) (by decide)
      have W13 := W12.mut (o := .lst (ve2 ++ [.ref p11])) (K12.noF ae (List.mem_of_getElem? hae)) aest aecc
      have K13 := K12.put hae hte hve2 dve2 d11
      refine ⟨_, _, _, rfl, W13, e7.trans G.ff, ?_, K13, by rw [List.length_set]; exact lt7, ?_, fun j l ts h1 h2 t ht => ?_⟩
      · rw [upd_ne (Ne.symm aeel)]
        refine G.hh _ _ ?_
        rw [upd_ne nel]
        exact E7
      · have e1 : mn + 1 - (i + 1) = kk := by omega
        have e2 : mn + 1 - i = kk + 1 := by omega
        rw [e2, sw_succ htk] at sw7
        rw [e1, sw_set hek hte, wt_node, wtAll_rev]
        omega
      · by_cases cj : j = e
        · subst cj
          rw [List.getElem?_set_self (by omega)] at h1
          cases h1
          rw [hle'] at h2
          cases h2
          rcases List.mem_append.mp ht with ht | ht
          · exact tr7 j _ te hte hle' t ht
          · rw [List.mem_singleton.mp ht]
            refine TrD.mono (show 10 - lk + 1 ≤ 10 - le' by omega) ⟨tgs, _, rfl, htag, fun kd hkd => ?_⟩
            exact tr7 kk lk tk htk hlk kd (List.mem_reverse.mp hkd)
        · rw [List.getElem?_set_ne (fun z => cj z.symm)] at h1
          exact tr7 j l ts h1 h2 t ht
    · obtain ⟨tss, F2, z7, rfl, W7, e7, E7, K7, lt7, sw7, tr7⟩ := p
      rw [hn2, show mn + 1 - mn = 1 by omega] at sw7
      have stD : st ≠ D := (hDs.1).symm
      have stas : ¬ st ∈ as := fun h => (asok st h).1 rfl
      obtain ⟨ak, hak⟩ : ∃ a, as[0]? = some a := ⟨as[0]'(by omega), List.getElem?_eq_getElem _⟩
      obtain ⟨tk, htk⟩ : ∃ t, tss[0]? = some t := ⟨tss[0]'(by omega), List.getElem?_eq_getElem _⟩
      refine ⟨_, rfl, _, rfl, st, cc, 5, rfl, W7.sa, by decide, by decide, fun r8 o8 hr80 hr81 sa8 => ?_⟩
      have W8 := W7.next sa8
      have K8 := K7.next (o := o8) stD stas
      obtain ⟨tgs, htgs, hat⟩ : ∃ s, s ∈ tags5 ∧ atI (tags5.map V.str) r8 = some (.str s) := by
        obtain ⟨r, rfl⟩ : ∃ r : Nat, r8 = (r : Int) := ⟨r8.toNat, by omega⟩
        have hr5 : r < tags5.length := by show r < 5; omega
        exact ⟨tags5[r], List.getElem_mem hr5, atI_nat (by rw [List.getElem?_map, List.getElem?_eq_getElem hr5]; rfl)⟩
      have htag := tags5_ok tgs htgs
      refine ⟨tg, _, r8, _, rfl, rfl, SqL.of (W8.fh _ _ (e7 _ _ htg0)), hat, ?_⟩
      obtain ⟨vk, hvk, dvk⟩ := K8.at_ 0 ak tk hak htk
      refine ⟨_, rfl, D, _, 0, _, rfl, rfl, SqL.of K8.lst, atI_nat (j := 0) (by rw [List.getElem?_map, hak]; rfl), ak, vk, rfl, SqL.of hvk, fun p9 hp9 => ?_⟩
      have g9 : Gw F2 (upd H4 st o8) F2 (upd (upd H4 st o8) p9 (.lst vk.reverse)) := Gw.temp W8.fh hp9
      refine ⟨p9, _, rfl, .inl ⟨SqL.of upd_same, fun p10 hp10 => ?_⟩⟩
      obtain ⟨g10, d10⟩ := gw_tup (K := K) (xs := vk.reverse) g9.fh hp10 (DpAll.rev dvk)
      refine ⟨by show 2 ≤ sizeLine; decide, fun p11 hp11 => ?_⟩
      obtain ⟨g11, d11⟩ := gw_tup (K := K) (xs := [.str tgs, .ref p10]) g10.fh hp11 (.cons (.str _) (.cons d10 .nil))
      have G := (g9.trans g10).trans g11
      refine k _ _ _ _ (W8.gw G) ((e0.trans e7).trans G.ff) d11 ?_ ?_
      · refine ⟨tgs, _, rfl, htag, fun kd hkd => ?_⟩
        exact tr7 0 1 tk htk R.first kd (List.mem_reverse.mp hkd)
      · have hs1 : wtAll tk ≤ sw 1 tss := wt_sw (by omega) htk
        have hwn := wt_node tgs tk.reverse
        rw [wtAll_rev] at hwn
        omega
end
end Tl

set_option Elab.async false
set_option linter.all false
set_option maxRecDepth 100000
set_option maxHeartbeats 8000000
namespace Tl
open PySem L2 RZ
abbrev sIsDeed : Stmt := top 13
abbrev sHasWord : Stmt := top 14
abbrev sOfForm : Stmt := top 15
/-! ### what the forms are -/
def formsOf (z : Str) : Option (List Str) :=
  if z = "name" then some ["path", "tag"] else if z = "put" then some ["path", "number", "tree"] else if z = "out" then some ["path"] else if z = "move" then some ["path", "path", "number"]
  else if z = "swap" then some ["path", "path"] else if z = "wrap" then some ["path", "number", "number", "tag"] else if z = "unwrap" then some ["path"] else none
/-- the program's table, as the top has written it -/
structure Fm (K : PySem.W.Frag) (w : World) (aF : Addr) : Prop where
  dict : ∃ es n, KDict K w aF es n
  no : ∀ z, formsOf z = none → PySem.W.nsIn K aF z = some none
  yes : ∀ z fs, formsOf z = some fs → ∃ p, PySem.W.nsIn K aF z = some (some (.ref p)) ∧ ∀ H, SqT K H p (fs.map V.str)
theorem forms_len {z : Str} {fs : List Str} (h : formsOf z = some fs) : 1 ≤ fs.length ∧ fs.length ≤ 4 := by
  unfold formsOf at h
  repeat' split at h
  all_goals first | (cases h; decide) | cases h
def ofForm (f : Str) (d : PyData) : Bool := if f = "path" then isPath d else if f = "tag" then isTag d else if f = "tree" then isTreeD d else isNum 60 d
def allForm : List Str → List PyData → Bool
  | f :: fs, d :: ds => ofForm f d && allForm fs ds
  | _, _ => true
def hasWord : PyData → Bool
  | .tuple (.str z :: ds) => match formsOf z with
    | some fs => decide (ds.length = fs.length)
    | none => false
  | _ => false
def isDeedD : PyData → Bool
  | .tuple (.str z :: ds) => match formsOf z with
    | some fs => decide (ds.length = fs.length) && allForm fs ds
    | none => false
  | _ => false
theorem walk_zipT {K : PySem.W.Frag} {a b : Addr} {xs ys : List V} {n : Nat} (h1 : xs.length = n) (h2 : ys.length = n) : Walk (ItzT K a b) n (fun H => SqT K H a xs ∧ SqT K H b ys) (YPair (fun i => xs[i]?) (fun i => ys[i]?)) := by
  refine ⟨fun i _ hi q => ⟨xs, ys, xs[i]'(by omega), ys[i]'(by omega), q.1, q.2, List.getElem?_eq_getElem _, List.getElem?_eq_getElem _⟩, fun _ q => ⟨xs, ys, q.1, q.2, .inl (by omega)⟩, fun i H v H' _ q y => ?_⟩
  obtain ⟨T, x, z, g1, g2, g3, g4, g5⟩ := y
  exact ⟨T, x, z, g1, g2, g3, g4 xs q.1, g5 ys q.2⟩
/-- a comprehension over pairs, whose element leaves all as it was -/
theorem lc_pairs {K : PySem.W.Frag} {J : It} {n i1 i2 : Nat} {G : Hp → Prop} {X1 X2 : Nat → Option V} {te : TE} {vs : List Nat} {σ : L2.St} {H1 : Hp} {D : Addr} {Qd : Hp → Prop} (wk : Walk J n G (YPair X1 X2)) (v : Nat → V)
    (hG : ∀ H, Same H1 H → G H) (hn : n ≤ 1000000) (hw : ∀ x y, wipe (((wipe σ vs).set i1 (some x)).set i2 (some y)) vs = wipe σ vs) (hD : H1 D = none)
    (he : ∀ i x y H, i < n → X1 i = some x → X2 i = some y → Same H1 H → ∀ Qe : VK, (∀ H3, Same H H3 → Qe (v i) H3) → te (((wipe σ vs).set i1 (some x)).set i2 (some y)) H Qe)
    (q : ∀ H2, Same H1 H2 → H2 D = some (.lst ((List.range n).map v)) → Qd H2) :
    ∃ W : Nat → Nat → Hp → Prop, (∃ m, W 0 m (upd H1 D (.lst []))) ∧ ∀ i m H, W i m H → (J.stop i H ∧ Qd H) ∨
      (J.go i H ∧ ∃ Nx : Hp → Prop, (∀ H', Nx H' → ∃ m', m' < m ∧ W (i + 1) m' H') ∧ ∀ x H', J.yld i H x H' → gTup K 2 (gCons (gName i1) (gCons (gName i2) gNil)) x (wipe σ vs) H' fun σ2 H2 => wipe σ2 vs = wipe σ vs ∧ tYes σ2 H2 fun b H3 =>
        if b = true then te σ2 H3 fun y H4 => ∃ acc, H4 D = some (.lst acc) ∧ acc.length < sizeLine ∧ Nx (upd H4 D (.lst (acc ++ [y]))) else Nx H3) := by
  refine lc_it wk (fun i H => Same H1 H ∧ H D = some (.lst ((List.range i).map v))) ⟨same_new hD, upd_same⟩ (fun i H _ p => hG H p.1) (fun i x H H' hi p y => ?_) (fun H p => q H p.1 p.2)
  obtain ⟨T, x1, x2, rfl, hT, rfl, g1, g2⟩ := y
  obtain ⟨p1, p2⟩ := p
  have sT := same_new (o := HO.tup [x1, x2]) hT
  refine ⟨T, _, rfl, .inl (.inl upd_same), rfl, _, _, rfl, _, _, rfl, rfl, hw _ _, ?_⟩
  refine he i x1 x2 _ hi g1 g2 (p1.trans sT) _ fun H4 e4 => ?_
  refine ⟨_, e4 _ _ (sT _ _ p2), ?_, ?_⟩
  · rw [List.length_map, List.length_range]
    exact Nat.lt_of_lt_of_le (Nat.lt_of_lt_of_le hi hn) (by decide)
  · exact ⟨same_mut ((p1.trans sT).trans e4) hD, by rw [upd_same, List.range_succ, List.map_append]; rfl⟩
theorem all_form : ∀ (fs : List Str) (ds : List PyData), fs.length = ds.length → ((List.range fs.length).map fun i => ofForm (fs.getD i "") (ds.getD i .none)).all id = allForm fs ds
  | [], [], _ => rfl
  | f :: fs, d :: ds, h => by
    rw [List.length_cons, List.range_succ_eq_map, List.map_cons, List.map_map, List.all_cons, allForm, ← all_form fs ds (by simpa using h)]
    rfl
  | [], _ :: _, h => by simp at h
  | _ :: _, [], h => by simp at h
def spForm (K : PySem.W.Frag) : Sp := fun vs H Q _ => ∃ (f : Str) (v : V) (d : PyData), vs = [.str f, v] ∧ Dt K H v d ∧ txt d = true ∧ ∀ H', Same H H' → Q (.bl (ofForm f d)) H'
theorem iteS {x y : Str} {A B : Prop} (h1 : x = y → A) (h2 : ¬ x = y → B) : if decide (V.str x = V.str y) = true then A else B :=
  iteD (fun c => h1 (V.str.inj c)) fun c => h2 fun z => c (by rw [z])
section
variable {P : Program} {w : World} {K : PySem.W.Frag} {mg : Str → Option Value} {base : Heap}
theorem scOfForm : FnScope ["form", "thing"] ["form", "thing"] (defScope sOfForm) := ⟨rfl, rfl, rfl, by decide +kernel, rfl, by decide +kernel, by decide +kernel⟩
theorem ok_form {f : Addr} {fd : FuncData} {k j1 j2 j3 j4 : Nat} (F : Fun K "is_of_form" "is_of_form" sOfForm f fd) (Uis_path : Use P w K mg base "is_path" ["thing"] j1 (spB K isPath)) (Uis_tag : Use P w K mg base "is_tag" ["thing"] j2 (spB K isTag)) (Uis_tree : Use P w K mg base "is_tree" ["thing"] j3 (spB K isTreeD)) (Uis_number : Use P w K mg base "is_number" ["thing", "most"] j4 (spB2 K isNum))
    (h1 : j1 ≤ k) (h2 : j2 ≤ k) (h3 : j3 ≤ k) (h4 : j4 ≤ k) (C : Cs mg) : FnOk P w K mg base CX0 (k + 1) f fd ["form", "thing"] (spForm K) := by
  refine F.ok scOfForm (fun vs H Q E h => ?_) (fun cdv A outer s H vs Q E hr h => ?_)
  · obtain ⟨_, _, _, rfl, _⟩ := h
    rfl
  obtain ⟨fm, v, d, rfl, hv, ht, q⟩ := h
  refine ⟨_, (pss_cons (ps_if (pt_cmpR op_eq (pv 0) pe_str (nomark _)) (pss_one (ps_ret (pe_call Uis_path.ok (hr.mono (by omega)) rfl Uis_path.m Uis_path.kp Uis_path.b .nil pass0 (pa_cons (pv 1) pa_nil)))) pss_nil)
    (pss_cons (ps_if (pt_cmpR op_eq (pv 0) pe_str (nomark _)) (pss_one (ps_ret (pe_call Uis_tag.ok (hr.mono (by omega)) rfl Uis_tag.m Uis_tag.kp Uis_tag.b .nil pass0 (pa_cons (pv 1) pa_nil)))) pss_nil)
    (pss_cons (ps_if (pt_cmpR op_eq (pv 0) pe_str (nomark _)) (pss_one (ps_ret (pe_call Uis_tree.ok (hr.mono (by omega)) rfl Uis_tree.m Uis_tree.kp Uis_tree.b .nil pass0 (pa_cons (pv 1) pa_nil)))) pss_nil)
    (pss_one (ps_ret (pe_call Uis_number.ok (hr.mono (by omega)) rfl Uis_number.m Uis_number.kp Uis_number.b .nil pass0 (pa_cons (pv 1) (pa_cons (c_SIZE C) pa_nil)))))))), ?_⟩
  refine ⟨_, rfl, rfl, _, rfl, iteS (fun c => ?_) (fun c => ?_)⟩
  · refine ⟨_, rfl, v, d, rfl, hv, ht, fun H' e => ?_⟩
    have q' := q H' e
    rw [ofForm, if_pos c] at q'
    exact q'
  refine ⟨_, rfl, rfl, _, rfl, iteS (fun c2 => ?_) (fun c2 => ?_)⟩
  · refine ⟨_, rfl, v, d, rfl, hv, ht, fun H' e => ?_⟩
    have q' := q H' e
    rw [ofForm, if_neg c, if_pos c2] at q'
    exact q'
  refine ⟨_, rfl, rfl, _, rfl, iteS (fun c3 => ?_) (fun c3 => ?_)⟩
  · refine ⟨_, rfl, v, d, rfl, hv, ht, fun H' e => ?_⟩
    have q' := q H' e
    rw [ofForm, if_neg c, if_neg c2, if_pos c3] at q'
    exact q'
  · refine ⟨_, rfl, v, d, 60, rfl, hv, ht, fun H' e => ?_⟩
    have q' := q H' e
    rw [ofForm, if_neg c, if_neg c2, if_neg c3] at q'
    exact q'
theorem scHasWord : FnScope ["thing"] ["thing"] (defScope sHasWord) := ⟨rfl, rfl, rfl, by decide +kernel, rfl, by decide +kernel, by decide +kernel⟩
theorem ok_word {f aF : Addr} {fd : FuncData} {k : Nat} (F : Fun K "has_word" "has_word" sHasWord f fd) (M : Fm K w aF) (mF : mg "FORMS" = some (.ref aF)) (T : Bl mg) : FnOk P w K mg base CX0 (k + 1) f fd ["thing"] (spB K hasWord) := by
  obtain ⟨es, n, KD⟩ := M.dict
  refine F.ok scHasWord (fun vs H Q E h => ?_) (fun cdv A outer s H vs Q E hr h => ?_)
  · obtain ⟨_, _, rfl, _⟩ := h
    rfl
  obtain ⟨v, d, rfl, hv, ht, q⟩ := h
  refine ⟨_, (pss_cons (ps_if (PW.pt (pw_or (pt_not (pt_val (pe_callB (r := rIsi K) call_isi (by rfl) T.isi PyProof.Rows.boot_isinstance (pa_cons (pv 0) (pa_cons (b_tuple T) pa_nil))))) (pw_or (pt_cmpR op_eq (pe_callB call_len_seq (by rfl) T.len PySem.boot_len (pa_cons (pv 0) pa_nil)) pe_int (nomark _)) (pw_or1 (pt_not (pt_val (pe_callB (r := rIsi K) call_isi (by rfl) T.isi PyProof.Rows.boot_isinstance (pa_cons (pe_ix ix_tup (pv 0) pe_int (fun _ _ => rfl)) (pa_cons (b_str T) pa_nil))))))))) (pss_one (ps_ret pe_bl)) pss_nil)
    (pss_one (ps_ret (pe_and (pe_cmpR (op_in_kd KD) (pe_ix ix_tup (pv 0) pe_int (fun _ _ => rfl)) (pe_glob (v := .ref aF) rfl mF rfl) (by rfl)) (pe_one (pe_cmpR op_eq (pe_callB call_len_seq (by rfl) T.len PySem.boot_len (pa_cons (pv 0) pa_nil)) (pe_op op_add pe_int (pe_callB call_len_seq (by rfl) T.len PySem.boot_len (pa_cons (pe_ix ix_kdict (pe_glob (v := .ref aF) rfl mF rfl) (pe_ix ix_tup (pv 0) pe_int (fun _ _ => rfl)) (fun _ _ => rfl)) pa_nil))) (nomark _))))))), ?_⟩
  refine ⟨v, rfl, v, .ty "tuple", _, _, _, rfl, .ty "tuple", ty_data hv, kit_ty (kit_tup d), _, rfl, ?_⟩
  cases d with
  | tuple ds =>
    cases hv with
    | d hv =>
      cases hv with
      | @tup a xs _ hs hx =>
      rw [txt] at ht
      refine ⟨_, rfl, a, xs, rfl, .inr hs, rfl, _, rfl, ?_⟩
      cases hx with
      | nil => exact q H (Same.refl H)
      | @cons x0 xr d0 dr h0 hr0 =>
      have lr : xr.length = dr.length := DpAll.len hr0
      refine iteE (fun c => absurd c ?_) (fun c => ?_)
      · show ¬ (((xr.length + 1 : Nat)) : Int) = 0
        omega
      refine ⟨_, rfl, a, _, 0, _, rfl, rfl, hs, atI_nat (j := 0) rfl, x0, .ty "str", _, _, _, rfl, .ty "str", ty_data (.d h0), kit_ty (kit_str d0), _, rfl, ?_⟩
      cases h0 with
      | str z =>
        have at0 : atI (V.str z :: xr) 0 = some (.str z) := atI_nat (j := 0) rfl
        cases hf : formsOf z with
        | none =>
          refine ⟨_, rfl, a, _, 0, _, rfl, rfl, hs, at0, z, _, rfl, rfl, M.no z hf, _, rfl, ?_⟩
          have q' := q H (Same.refl H)
          rw [hasWord, hf] at q'
          exact q'
        | some fs =>
          obtain ⟨p, hp, hsq⟩ := M.yes z fs hf
          refine ⟨_, rfl, a, _, 0, _, rfl, rfl, hs, at0, z, _, rfl, rfl, hp, _, rfl, ?_⟩
          refine ⟨_, rfl, a, _, rfl, .inr hs, _, rfl, a, _, 0, _, rfl, rfl, hs, at0, aF, z, .ref p, rfl, rfl, ⟨es, n, _, KD.at_, KD.lit, hp, rfl⟩, p, _, rfl, .inr (hsq H), 1, _, rfl, rfl, rfl, ?_⟩
          have q' := q H (Same.refl H)
          rw [hasWord, hf] at q'
          have e : decide (V.int (((V.str z :: xr).length : Nat) : Int) = V.int (1 + ((fs.map V.str).length : Nat))) = decide (dr.length = fs.length) := by
            apply decide_eq_decide.mpr
            rw [List.length_cons, List.length_map, lr]
            constructor
            · intro h
              have := V.int.inj h
              omega
            · intro h
              rw [h]
              congr 1
              omega
          show Q (V.bl (decide (V.int (((V.str z :: xr).length : Nat) : Int) = V.int (1 + ((fs.map V.str).length : Nat))))) H
          rw [e]
          exact q'
      | non => exact q H (Same.refl H)
      | bl _ => exact q H (Same.refl H)
      | int _ => exact q H (Same.refl H)
      | lst _ _ => exact q H (Same.refl H)
      | tup _ _ => exact q H (Same.refl H)
  | str z => exact q H (Same.refl H)
  | bool b => exact q H (Same.refl H)
  | int b => exact q H (Same.refl H)
  | none => exact q H (Same.refl H)
  | list s => exact q H (Same.refl H)
  | dict s => exact q H (Same.refl H)
theorem word_no {d : PyData} (h : hasWord d = false) : isDeedD d = false := by
  unfold hasWord at h
  unfold isDeedD
  split
  · dsimp only at h
    split
    · rename_i fs hf
      rw [hf] at h
      dsimp only at h
      rw [h]
      rfl
    · rfl
  · rfl
theorem word_yes {d : PyData} (h : hasWord d = true) : ∃ z ds fs, d = .tuple (.str z :: ds) ∧ formsOf z = some fs ∧ ds.length = fs.length := by
  unfold hasWord at h
  split at h
  · rename_i z ds
    split at h
    · rename_i fs hf
      exact ⟨z, ds, fs, rfl, hf, of_decide_eq_true h⟩
    · cases h
  · cases h
theorem scIsDeed : FnScope ["thing", "form", "field"] ["thing"] (defScope sIsDeed) := ⟨rfl, rfl, rfl, by decide +kernel, rfl, by decide +kernel, by decide +kernel⟩
theorem ok_deed {f aF : Addr} {fd : FuncData} {k j1 j2 : Nat} (F : Fun K "is_deed" "is_deed" sIsDeed f fd) (M : Fm K w aF) (mF : mg "FORMS" = some (.ref aF)) (Uhas_word : Use P w K mg base "has_word" ["thing"] j1 (spB K hasWord)) (Uis_of_form : Use P w K mg base "is_of_form" ["form", "thing"] j2 (spForm K)) (h1 : j1 ≤ k) (h2 : j2 ≤ k) (T : Bl mg) (mz : mg "zip" = none) :
    FnOk P w K mg base CX0 (k + 1) f fd ["thing"] (spB K isDeedD) := by
  obtain ⟨es, n, KD⟩ := M.dict
  refine F.ok scIsDeed (fun vs H Q E h => ?_) (fun cdv A outer s H vs Q E hr h => ?_)
  · obtain ⟨_, _, rfl, _⟩ := h
    rfl
  obtain ⟨v, d, rfl, hv, ht, q⟩ := h
  refine ⟨_, (pss_cons (ps_if (pt_not (pt_val (pe_call Uhas_word.ok (hr.mono (by omega)) rfl Uhas_word.m Uhas_word.kp Uhas_word.b .nil pass0 (pa_cons (pv 0) pa_nil)))) (pss_one (ps_ret pe_bl)) pss_nil)
    (pss_one (ps_ret (pe_callB (cr_all rfl) (by rfl) T.all PyProof.Rows.boot_all (pa_cons (pe_lc (own := [("form", 1), ("field", 2)]) (g := gTup K 2 (gCons (gName 1) (gCons (gName 2) gNil))) (tt := tYes) (by rfl) scIsDeed.nd (pi_zipA (by rfl) mz (pa_cons (pe_ix ix_kdict (pe_glob (v := .ref aF) rfl mF rfl) (pe_ix ix_tup (pv 0) pe_int (fun _ _ => rfl)) (fun _ _ => rfl)) (pa_cons (pe_slice sl_tupA (pv 0) (po_some pe_int) po_none) pa_nil))) (blkOk_by (N := ["thing", "form", "field"]) (sc := defScope sIsDeed) (own := [("form", 1), ("field", 2)]) (by decide +kernel)) (fun _ _ _ _ _ => (pg_tup rfl (pgs_cons (pg_name (i := 1) scIsDeed.nd rfl (Or.inl rfl)) (pgs_cons (pg_name (i := 2) scIsDeed.nd rfl (Or.inl rfl)) pgs_nil)))) (fun _ _ _ _ _ => pts_nil) (fun _ _ _ _ _ => (pe_call Uis_of_form.ok (hr.mono (by omega)) rfl Uis_of_form.m Uis_of_form.kp Uis_of_form.b .nil pass0 (pa_cons (pv 1) (pa_cons (pv 2) pa_nil))))) pa_nil))))), ?_⟩
  refine ⟨_, rfl, v, d, rfl, hv, ht, fun H1 e1 => ⟨_, rfl, ?_⟩⟩
  cases hw : hasWord d with
  | false =>
    have q' := q H1 e1
    rw [word_no hw] at q'
    exact q'
  | true =>
    obtain ⟨z, ds, fs, rfl, hf, hl⟩ := word_yes hw
    have hfl := forms_len hf
    cases hv with
    | d hv =>
      cases hv with
      | @tup a xs _ hs hx =>
      cases hx with
      | @cons x0 xr d0 dr h0 hr0 =>
      cases h0
      rw [txt, txtAll, Bool.and_eq_true] at ht
      have lr : xr.length = ds.length := DpAll.len hr0
      obtain ⟨p, hp, hsq⟩ := M.yes z fs hf
      have hs1 := same_t e1 hs
      refine ⟨_, rfl, a, _, 0, _, rfl, rfl, hs1, atI_nat (j := 0) rfl, aF, z, .ref p, rfl, rfl, ⟨es, n, _, KD.at_, KD.lit, hp, rfl⟩, ?_⟩
      refine ⟨_, rfl, 1, rfl, a, _, rfl, hs1, fun hh => ?_, fun _ p2 hp2 => ?_⟩
      · have := hh.1
        rw [show HT.sIx (V.str z :: xr).length 0 (some 1) = min 1 (V.str z :: xr).length from HT.sIx_nat _ 0 1, List.length_cons] at this
        omega
      have c1 : cutV (V.str z :: xr) (some 1) none = xr := cut_from (V.str z :: xr) 1 (by rw [List.length_cons]; omega)
      rw [c1]
      have s2 := same_new (o := HO.tup xr) hp2
      refine ⟨p, p2, fs.map V.str, xr, rfl, .inr ⟨hsq _, .inl (.inl upd_same), fun D hD => ?_⟩⟩
      refine lc_pairs (K := K) (n := fs.length) (i1 := 1) (i2 := 2) (walk_zipT (xs := fs.map V.str) (ys := xr) (List.length_map _) (by omega)) (fun i => .bl (ofForm (fs.getD i "") (ds.getD i .none))) (fun H' e' => ⟨hsq _, same_t e' (.inl (.inl upd_same))⟩) (by omega) (fun x y => rfl) hD (fun i x y H3 hi hx hy e3 Qe kk => ?_) (fun H3 e3 h3 => ?_)
      · rw [List.getElem?_map] at hx
        obtain ⟨fm, hfm, rfl⟩ := Option.map_eq_some_iff.mp hx
        obtain ⟨dd, hdd, hy2⟩ := DpAll.get hr0 hy
        refine ⟨_, rfl, y, rfl, fm, y, dd, rfl, .d (dp_mono ((e1.trans s2).trans e3) _ _ hy2), txtAll_get ht.2 hdd, fun H4 e4 => ?_⟩
        have k' := kk H4 e4
        rw [List.getD_eq_getElem?_getD, hfm, List.getD_eq_getElem?_getD, hdd] at k'
        exact k'
      · have hb : (List.range fs.length).map (fun i => V.bl (ofForm (fs.getD i "") (ds.getD i .none))) = ((List.range fs.length).map fun i => ofForm (fs.getD i "") (ds.getD i .none)).map V.bl := by
          rw [List.map_map]
          rfl
        rw [hb] at h3
        refine ⟨D, _, rfl, SqL.of h3, ?_⟩
        rw [all_form fs ds hl.symm]
        have q' := q H3 ((e1.trans s2).trans e3)
        rw [isDeedD, hf] at q'
        dsimp only at q'
        rw [decide_eq_true hl, Bool.true_and] at q'
        exact q'
end
end Tl

set_option Elab.async false
set_option linter.all false
set_option maxRecDepth 100000
set_option maxHeartbeats 8000000
namespace Tl
open PySem L2
/-- the table of forms, as the top has left it -/
theorem fm_mk {K : PySem.W.Frag} {w : World} {aF p1 p2 p3 p4 p5 p6 p7 : Addr} {h1 h2 h3 h4 h5 h6 h7 : Int} {q1 q2 q3 q4 q5 q6 q7 : Tok} {nF n1 n2 n3 n4 n5 n6 n7 : Nat} {o1 o2 o3 o4 o5 o6 o7 : Option Addr} {l1 l2 l3 l4 l5 l6 l7 : Array (Option Value)}
    {r1 r2 r3 r4 r5 r6 r7 r8 r9 r10 r11 r12 r13 r14 r15 r16 : Tok}
    (f : K.lookup aF = some ⟨.type "dict", none, .dict #[⟨h1, .str "name" q1, .ref p1⟩, ⟨h2, .str "put" q2, .ref p2⟩, ⟨h3, .str "out" q3, .ref p3⟩, ⟨h4, .str "move" q4, .ref p4⟩, ⟨h5, .str "swap" q5, .ref p5⟩, ⟨h6, .str "wrap" q6, .ref p6⟩, ⟨h7, .str "unwrap" q7, .ref p7⟩] nF, #[]⟩)
    (e1 : h1 = PyData.keyHash w.params "name") (e2 : h2 = PyData.keyHash w.params "put") (e3 : h3 = PyData.keyHash w.params "out") (e4 : h4 = PyData.keyHash w.params "move") (e5 : h5 = PyData.keyHash w.params "swap") (e6 : h6 = PyData.keyHash w.params "wrap") (e7 : h7 = PyData.keyHash w.params "unwrap")
    (low : (aF == sysModules) = false)
    (g1 : K.lookup p1 = some ⟨.type "tuple", o1, .seq #[.str "path" r1, .str "tag" r2] n1, l1⟩)
    (g2 : K.lookup p2 = some ⟨.type "tuple", o2, .seq #[.str "path" r3, .str "number" r4, .str "tree" r5] n2, l2⟩)
    (g3 : K.lookup p3 = some ⟨.type "tuple", o3, .seq #[.str "path" r6] n3, l3⟩)
    (g4 : K.lookup p4 = some ⟨.type "tuple", o4, .seq #[.str "path" r7, .str "path" r8, .str "number" r9] n4, l4⟩)
    (g5 : K.lookup p5 = some ⟨.type "tuple", o5, .seq #[.str "path" r10, .str "path" r11] n5, l5⟩)
    (g6 : K.lookup p6 = some ⟨.type "tuple", o6, .seq #[.str "path" r12, .str "number" r13, .str "number" r14, .str "tag" r15] n6, l6⟩)
    (g7 : K.lookup p7 = some ⟨.type "tuple", o7, .seq #[.str "path" r16] n7, l7⟩) : Fm K w aF := by
  refine ⟨⟨_, _, f, ⟨⟨_, _, rfl, e1⟩, ⟨_, _, rfl, e2⟩, ⟨_, _, rfl, e3⟩, ⟨_, _, rfl, e4⟩, ⟨_, _, rfl, e5⟩, ⟨_, _, rfl, e6⟩, ⟨_, _, rfl, e7⟩, trivial⟩, low⟩, fun z hz => ?_, fun z fs hz => ?_⟩
  · unfold formsOf at hz
    repeat' split at hz
    all_goals first | cases hz | skip
    rename_i z1 z2 z3 z4 z5 z6 z7
    have b : ∀ {x : Str}, ¬ z = x → (x == z) = false := fun {x} h => by
      cases e : (x == z) with
      | false => rfl
      | true => exact absurd (eq_of_beq e).symm h
    unfold PySem.W.nsIn
    rw [f]
    simp only [List.find?, Value.isStr, b z1, b z2, b z3, b z4, b z5, b z6, b z7, List.any, DictEntry.refKey]
    rfl
  · unfold formsOf at hz
    repeat' split at hz
    all_goals cases hz
    all_goals (subst z; unfold PySem.W.nsIn; rw [f])
    · exact ⟨p1, rfl, fun H => .inr ⟨_, _, _, g1, rfl, rfl, by show 2 ≤ sizeLine; decide, .cons ⟨_, rfl⟩ (.cons ⟨_, rfl⟩ .nil)⟩⟩
    · exact ⟨p2, rfl, fun H => .inr ⟨_, _, _, g2, rfl, rfl, by show 3 ≤ sizeLine; decide, .cons ⟨_, rfl⟩ (.cons ⟨_, rfl⟩ (.cons ⟨_, rfl⟩ .nil))⟩⟩
    · exact ⟨p3, rfl, fun H => .inr ⟨_, _, _, g3, rfl, rfl, by show 1 ≤ sizeLine; decide, .cons ⟨_, rfl⟩ .nil⟩⟩
    · exact ⟨p4, rfl, fun H => .inr ⟨_, _, _, g4, rfl, rfl, by show 3 ≤ sizeLine; decide, .cons ⟨_, rfl⟩ (.cons ⟨_, rfl⟩ (.cons ⟨_, rfl⟩ .nil))⟩⟩
    · exact ⟨p5, rfl, fun H => .inr ⟨_, _, _, g5, rfl, rfl, by show 2 ≤ sizeLine; decide, .cons ⟨_, rfl⟩ (.cons ⟨_, rfl⟩ .nil)⟩⟩
    · exact ⟨p6, rfl, fun H => .inr ⟨_, _, _, g6, rfl, rfl, by show 4 ≤ sizeLine; decide, .cons ⟨_, rfl⟩ (.cons ⟨_, rfl⟩ (.cons ⟨_, rfl⟩ (.cons ⟨_, rfl⟩ .nil)))⟩⟩
    · exact ⟨p7, rfl, fun H => .inr ⟨_, _, _, g7, rfl, rfl, by show 1 ≤ sizeLine; decide, .cons ⟨_, rfl⟩ .nil⟩⟩
end Tl

set_option Elab.async false
set_option linter.all false
set_option maxRecDepth 100000
set_option maxHeartbeats 8000000
namespace Tl
open PySem L2
abbrev sUpto : Stmt := top 24
abbrev sLPath : Stmt := top 25
abbrev sLIsDeed : Stmt := top 26
theorem fil_all {α : Type} (p : α → Bool) : ∀ l : List α, (l.filter (fun c => !p c)).isEmpty = l.all p
  | [] => rfl
  | c :: r => by
    rw [List.filter_cons, List.all_cons]
    cases hc : p c with
    | true => simp [fil_all p r]
    | false => simp
theorem deed_by {z : Str} {fr : List Str} {d1 : PyData} {dr : List PyData} (h : formsOf z = some (("path" : Str) :: fr)) : isDeedD (.tuple (.str z :: d1 :: dr)) = (decide (dr.length = fr.length) && (isPath d1 && allForm fr dr)) := by
  rw [isDeedD, h]
  show (decide ((d1 :: dr).length = (("path" : Str) :: fr).length) && (ofForm "path" d1 && allForm fr dr)) = _
  have e : decide ((d1 :: dr).length = (("path" : Str) :: fr).length) = decide (dr.length = fr.length) := by
    apply decide_eq_decide.mpr
    rw [List.length_cons, List.length_cons]
    omega
  rw [e]
  rfl
theorem forms_path {z : Str} {fs : List Str} (h : formsOf z = some fs) : ∃ fr : List Str, fs = ("path" : Str) :: fr := by
  unfold formsOf at h
  repeat' split at h
  all_goals first | (cases h; exact ⟨_, rfl⟩) | cases h
theorem deed_nopath {z : Str} {d1 : PyData} {dr : List PyData} (h : isPath d1 = false) : isDeedD (.tuple (.str z :: d1 :: dr)) = false := by
  cases hf : formsOf z with
  | none => rw [isDeedD, hf]
  | some fs =>
    obtain ⟨fr, rfl⟩ := forms_path hf
    rw [deed_by hf, h, Bool.false_and, Bool.and_false]
theorem deed_short (d0 : PyData) : isDeedD (.tuple [d0]) = false := by
  cases d0 with
  | str z =>
    cases hf : formsOf z with
    | none => rw [isDeedD, hf]
    | some fs =>
      obtain ⟨fr, rfl⟩ := forms_path hf
      rw [isDeedD, hf]
      rfl
  | _ => rfl
theorem DpAll.one' {K : PySem.W.Frag} {H : Hp} : ∀ {vs : List V} {ds : List PyData}, DpAll K H vs ds → ds.length = 1 → ∃ x a, vs = [x] ∧ ds = [a] ∧ Dp K H x a
  | _, _, .nil, e => by simp at e
  | _, _, .cons h1 .nil, _ => ⟨_, _, rfl, rfl, h1⟩
  | _, _, .cons _ (.cons _ _), e => by simp at e
theorem DpAll.three {K : PySem.W.Frag} {H : Hp} : ∀ {vs : List V} {ds : List PyData}, DpAll K H vs ds → ds.length = 3 → ∃ x y z a b c, vs = [x, y, z] ∧ ds = [a, b, c] ∧ Dp K H x a ∧ Dp K H y b ∧ Dp K H z c
  | _, _, .nil, e => by simp at e
  | _, _, .cons _ .nil, e => by simp at e
  | _, _, .cons _ (.cons _ .nil), e => by simp at e
  | _, _, .cons h1 (.cons h2 (.cons h3 .nil)), _ => ⟨_, _, _, _, _, _, rfl, rfl, h1, h2, h3⟩
  | _, _, .cons _ (.cons _ (.cons _ (.cons _ _))), e => by simp at e
theorem in2 (z : Str) : inV (.str z) [.str "out", .str "unwrap"] = (decide (z = "out") || decide (z = "unwrap")) := by
  have h : ∀ a b : Str, eqV (.str a) (.str b) = decide (b = a) := fun a b => by
    show (a == b) = decide (b = a)
    by_cases c : a = b
    · subst c
      simp
    · rw [decide_eq_false (fun z => c z.symm)]
      exact beq_eq_false_iff_ne.mpr c
  unfold inV
  rw [List.any_cons, List.any_cons, List.any_nil, h, h, Bool.or_false]
theorem af_nil : allForm [] [] = true := rfl
theorem af_cons (f : Str) (fs : List Str) (d : PyData) (ds : List PyData) : allForm (f :: fs) (d :: ds) = (ofForm f d && allForm fs ds) := rfl
theorem f_tag (d : PyData) : ofForm "tag" d = isTag d := by rw [ofForm, if_neg (by decide +kernel), if_pos rfl]
theorem f_tree (d : PyData) : ofForm "tree" d = isTreeD d := by rw [ofForm, if_neg (by decide +kernel), if_neg (by decide +kernel), if_pos rfl]
theorem f_num (d : PyData) : ofForm "number" d = isNum 60 d := by rw [ofForm, if_neg (by decide +kernel), if_neg (by decide +kernel), if_neg (by decide +kernel)]
theorem f_path (d : PyData) : ofForm "path" d = isPath d := by rw [ofForm, if_pos rfl]
section
variable {P : Program} {w : World} {K : PySem.W.Frag} {mg : Str → Option Value} {base : Heap}
theorem scUpto : FnScope ["_law_thing", "_law_top"] ["_law_thing", "_law_top"] (defScope sUpto) := ⟨rfl, rfl, rfl, by decide +kernel, rfl, by decide +kernel, by decide +kernel⟩
theorem ok_upto {f : Addr} {fd : FuncData} {k j : Nat} (F : Fun K "_law_upto" "_law_upto" sUpto f fd) (U_law_whole : Use P w K mg base "_law_whole" ["_law_found"] j (spB K isWhole)) (hj : j ≤ k) : FnOk P w K mg base CX0 (k + 1) f fd ["_law_thing", "_law_top"] (spB2 K isNum) := by
  refine F.ok scUpto (fun vs H Q E h => ?_) (fun cdv A outer s H vs Q E hr h => ?_)
  · obtain ⟨_, _, _, rfl, _⟩ := h
    rfl
  obtain ⟨v, d, m, rfl, hv, ht, q⟩ := h
  refine ⟨_, (pss_one (ps_ret (pe_and (pe_call U_law_whole.ok (hr.mono (by omega)) rfl U_law_whole.m U_law_whole.kp U_law_whole.b .nil pass0 (pa_cons (pv 0) pa_nil)) (pe_one (pe_chain op_le op_le pe_int (pv 0) (pv 1)))))), ?_⟩
  refine ⟨_, rfl, v, d, rfl, hv, ht, fun H1 e1 => ⟨_, rfl, ?_⟩⟩
  have q' := q H1 e1
  cases d with
  | int i =>
    cases hv with
    | d hv =>
      cases hv
      refine ⟨_, rfl, _, _, rfl, rfl, _, rfl, ?_⟩
      rw [isNum] at q'
      refine iteD (fun c => ?_) (fun c => ?_)
      · refine ⟨_, rfl, _, _, rfl, rfl, ?_⟩
        rw [decide_eq_true c, Bool.true_and] at q'
        exact q'
      · rw [decide_eq_false c, Bool.false_and] at q'
        exact q'
  | bool b => exact q'
  | none => exact q'
  | str s => exact q'
  | list s => exact q'
  | tuple s => exact q'
  | dict s => exact q'
theorem scLPath : FnScope ["_law_thing", "_law_one"] ["_law_thing"] (defScope sLPath) := ⟨rfl, rfl, rfl, by decide +kernel, rfl, by decide +kernel, by decide +kernel⟩
theorem ok_lpath {f : Addr} {fd : FuncData} {k j : Nat} (F : Fun K "_law_is_path" "_law_is_path" sLPath f fd) (U_law_upto : Use P w K mg base "_law_upto" ["_law_thing", "_law_top"] j (spB2 K isNum)) (hj : j ≤ k) (T : Bl mg) : FnOk P w K mg base CX0 (k + 1) f fd ["_law_thing"] (spB K isPath) := by
  refine F.ok scLPath (fun vs H Q E h => ?_) (fun cdv A outer s H vs Q E hr h => ?_)
  · obtain ⟨v, d, rfl, _⟩ := h
    rfl
  obtain ⟨v, d, rfl, hv, ht, q⟩ := h
  refine ⟨_, (pss_one (ps_ret (pe_and (pe_callB (r := rIsi K) call_isi (by rfl) T.isi PyProof.Rows.boot_isinstance (pa_cons (pv 0) (pa_cons (b_tuple T) pa_nil))) (pe_and (pe_cmpR op_le (pe_callB call_len_seq (by rfl) T.len PySem.boot_len (pa_cons (pv 0) pa_nil)) pe_int (nomark _)) (pe_one (pe_cmpR (op_eqD hr.units) (pe_lc (own := [("_law_one", 1)]) (g := gName 1) (by rfl) scLPath.nd (pi_tup (pv 0)) (blkOk_by (N := ["_law_thing", "_law_one"]) (sc := defScope sLPath) (own := [("_law_one", 1)]) (by decide +kernel)) (fun _ _ _ _ _ => pg_name (i := 1) scLPath.nd rfl (Or.inl rfl)) (fun _ _ _ _ _ => (pts_one (pt_not (pt_val (pe_call U_law_upto.ok (hr.mono (by omega)) rfl U_law_upto.m U_law_upto.kp U_law_upto.b .nil pass0 (pa_cons (pv 1) (pa_cons pe_int pa_nil))))))) (fun _ _ _ _ _ => pe_int)) (pe_lst pa_nil) (nomark _))))))), ?_⟩
  refine ⟨v, rfl, v, .ty "tuple", _, _, _, rfl, .ty "tuple", ty_data hv, kit_ty (kit_tup d), _, rfl, ?_⟩
  cases d with
  | tuple ds =>
    cases hv with
    | d hv =>
      cases hv with
      | @tup a xs _ hs hx =>
      have hl : xs.length = ds.length := DpAll.len hx
      rw [txt] at ht
      refine ⟨_, rfl, a, xs, rfl, .inr hs, _, _, rfl, rfl, _, rfl, ?_⟩
      refine iteD (fun c => ?_) (fun c => ?_)
      · refine ⟨_, rfl, a, rfl, ⟨_, hs⟩, fun D hD => ?_⟩
        refine lc_pure (n := xs.length) (G := fun H => SqT K H a xs) fn_tup (fun i => !isNum 59 (ds.getD i .none)) (fun i => .int 1) (fun _ e => same_t e hs) (by omega) (fun x => rfl) hD (fun i H3 hi e3 Qt k => ?_) (fun i H3 hi _ e3 Qe k => k H3 (Same.refl _)) (fun H2 e2 h2' => ?_)
        · obtain ⟨d', h1, h2⟩ := DpAll.get hx (List.getElem?_eq_getElem hi)
          have e1 : xs.getD i .non = xs[i] := by rw [List.getD_eq_getElem?_getD, List.getElem?_eq_getElem hi]; rfl
          have e2 : ds.getD i .none = d' := by rw [List.getD_eq_getElem?_getD, h1]; rfl
          rw [e1]
          rw [e2] at k
          exact ⟨_, rfl, _, d', 59, rfl, .d (dp_mono e3 _ _ h2), txtAll_get ht h1, fun H' e' => ⟨_, rfl, k H' e'⟩⟩
        · rw [hl, picked_some ds .none (fun d => !isNum 59 d) (fun _ => V.int 1)] at h2'
          generalize hys : ds.filter (fun d => !isNum 59 d) = ys at h2'
          refine ⟨by show 0 ≤ sizeLine; decide, fun p hp => ?_⟩
          have nD : D ≠ p := ne_of_none h2' hp
          refine ⟨.list (ys.map fun _ => .int 1), .list [], .lst (SqL.of (xs := ys.map fun _ => V.int 1) (by rw [upd_ne nD]; exact h2')) ?_, .lst (SqL.of upd_same) .nil, ?_, rfl, ?_⟩
          · clear hys h2' hp
            induction ys with
            | nil => exact .nil
            | cons c r ih => exact .cons (.int _) ih
          · refine flat_shaped (List.all_eq_true.mpr fun d hd => ?_)
            obtain ⟨c, hc, rfl⟩ := List.mem_map.mp hd
            rfl
          · have q' := q _ (e2.trans (same_new (o := .lst []) hp))
            rw [isPath, decide_eq_true (by omega), Bool.true_and] at q'
            rw [eqv_nil, List.isEmpty_map, ← hys, fil_all]
            exact q'
      · have q' := q H (Same.refl H)
        rw [isPath, decide_eq_false (by omega), Bool.false_and] at q'
        exact q'
  | str z => exact q H (Same.refl H)
  | bool b => exact q H (Same.refl H)
  | int b => exact q H (Same.refl H)
  | none => exact q H (Same.refl H)
  | list s => exact q H (Same.refl H)
  | dict s => exact q H (Same.refl H)
theorem scLIsDeed : FnScope ["_law_thing", "_law_word"] ["_law_thing"] (defScope sLIsDeed) := ⟨rfl, rfl, rfl, by decide +kernel, rfl, by decide +kernel, by decide +kernel⟩
theorem ok_lisdeed {f : Addr} {fd : FuncData} {k j1 j2 j3 j4 : Nat} (F : Fun K "_law_is_deed" "_law_is_deed" sLIsDeed f fd) (U_law_is_path : Use P w K mg base "_law_is_path" ["_law_thing"] j1 (spB K isPath)) (Uis_tag : Use P w K mg base "is_tag" ["thing"] j2 (spB K isTag)) (Uis_tree : Use P w K mg base "is_tree" ["thing"] j3 (spB K isTreeD)) (U_law_upto : Use P w K mg base "_law_upto" ["_law_thing", "_law_top"] j4 (spB2 K isNum))
    (h1 : j1 ≤ k) (h2 : j2 ≤ k) (h3 : j3 ≤ k) (h4 : j4 ≤ k) (T : Bl mg) : FnOk P w K mg base CX0 (k + 1) f fd ["_law_thing"] (spB K isDeedD) := by
  refine F.ok scLIsDeed (fun vs H Q E h => ?_) (fun cdv A outer s H vs Q E hr h => ?_)
  · obtain ⟨v, d, rfl, _⟩ := h
    rfl
  obtain ⟨v, d, rfl, hv, ht, q⟩ := h
  refine ⟨_, (pss_cons (ps_if (PW.pt (pw_or (pt_not (pt_val (pe_callB (r := rIsi K) call_isi (by rfl) T.isi PyProof.Rows.boot_isinstance (pa_cons (pv 0) (pa_cons (b_tuple T) pa_nil))))) (pw_or (pt_cmpR op_lt (pe_callB call_len_seq (by rfl) T.len PySem.boot_len (pa_cons (pv 0) pa_nil)) pe_int (nomark _)) (pw_or (pt_not (pt_val (pe_callB (r := rIsi K) call_isi (by rfl) T.isi PyProof.Rows.boot_isinstance (pa_cons (pe_ix ix_tup (pv 0) pe_int (fun _ _ => rfl)) (pa_cons (b_str T) pa_nil))))) (pw_or1 (pt_not (pt_val (pe_call U_law_is_path.ok (hr.mono (by omega)) rfl U_law_is_path.m U_law_is_path.kp U_law_is_path.b .nil pass0 (pa_cons (pe_ix ix_tup (pv 0) pe_int (fun _ _ => rfl)) pa_nil))))))))) (pss_one (ps_ret pe_bl)) pss_nil)
    (pss_cons (ps_set (i := 1) scLIsDeed.nd rfl (.inl rfl) (pe_ix ix_tup (pv 0) pe_int (fun _ _ => rfl)))
    (pss_cons (ps_if (pt_cmpR op_in_seq (pv 1) (pe_lst (pa_cons pe_str (pa_cons pe_str pa_nil))) (by rfl)) (pss_one (ps_ret (pe_cmpR op_eq (pe_callB call_len_seq (by rfl) T.len PySem.boot_len (pa_cons (pv 0) pa_nil)) pe_int (nomark _)))) pss_nil)
    (pss_cons (ps_if (pt_cmpR op_eq (pv 1) pe_str (nomark _)) (pss_one (ps_ret (pe_and (pe_cmpR op_eq (pe_callB call_len_seq (by rfl) T.len PySem.boot_len (pa_cons (pv 0) pa_nil)) pe_int (nomark _)) (pe_one (pe_call Uis_tag.ok (hr.mono (by omega)) rfl Uis_tag.m Uis_tag.kp Uis_tag.b .nil pass0 (pa_cons (pe_ix ix_tup (pv 0) pe_int (fun _ _ => rfl)) pa_nil)))))) pss_nil)
    (pss_cons (ps_if (pt_cmpR op_eq (pv 1) pe_str (nomark _)) (pss_one (ps_ret (pe_and (pe_cmpR op_eq (pe_callB call_len_seq (by rfl) T.len PySem.boot_len (pa_cons (pv 0) pa_nil)) pe_int (nomark _)) (pe_and (pe_call U_law_upto.ok (hr.mono (by omega)) rfl U_law_upto.m U_law_upto.kp U_law_upto.b .nil pass0 (pa_cons (pe_ix ix_tup (pv 0) pe_int (fun _ _ => rfl)) (pa_cons pe_int pa_nil))) (pe_one (pe_call Uis_tree.ok (hr.mono (by omega)) rfl Uis_tree.m Uis_tree.kp Uis_tree.b .nil pass0 (pa_cons (pe_ix ix_tup (pv 0) pe_int (fun _ _ => rfl)) pa_nil))))))) pss_nil)
    (pss_cons (ps_if (pt_cmpR op_eq (pv 1) pe_str (nomark _)) (pss_one (ps_ret (pe_and (pe_cmpR op_eq (pe_callB call_len_seq (by rfl) T.len PySem.boot_len (pa_cons (pv 0) pa_nil)) pe_int (nomark _)) (pe_and (pe_call U_law_is_path.ok (hr.mono (by omega)) rfl U_law_is_path.m U_law_is_path.kp U_law_is_path.b .nil pass0 (pa_cons (pe_ix ix_tup (pv 0) pe_int (fun _ _ => rfl)) pa_nil)) (pe_one (pe_call U_law_upto.ok (hr.mono (by omega)) rfl U_law_upto.m U_law_upto.kp U_law_upto.b .nil pass0 (pa_cons (pe_ix ix_tup (pv 0) pe_int (fun _ _ => rfl)) (pa_cons pe_int pa_nil)))))))) pss_nil)
    (pss_cons (ps_if (pt_cmpR op_eq (pv 1) pe_str (nomark _)) (pss_one (ps_ret (pe_and (pe_cmpR op_eq (pe_callB call_len_seq (by rfl) T.len PySem.boot_len (pa_cons (pv 0) pa_nil)) pe_int (nomark _)) (pe_one (pe_call U_law_is_path.ok (hr.mono (by omega)) rfl U_law_is_path.m U_law_is_path.kp U_law_is_path.b .nil pass0 (pa_cons (pe_ix ix_tup (pv 0) pe_int (fun _ _ => rfl)) pa_nil)))))) pss_nil)
    (pss_cons (ps_if (PW.pt (pw_or (pt_cmpR op_ne (pv 1) pe_str (nomark _)) (pw_or1 (pt_cmpR op_ne (pe_callB call_len_seq (by rfl) T.len PySem.boot_len (pa_cons (pv 0) pa_nil)) pe_int (nomark _))))) (pss_one (ps_ret pe_bl)) pss_nil)
    (pss_one (ps_ret (pe_and (pe_call U_law_upto.ok (hr.mono (by omega)) rfl U_law_upto.m U_law_upto.kp U_law_upto.b .nil pass0 (pa_cons (pe_ix ix_tup (pv 0) pe_int (fun _ _ => rfl)) (pa_cons pe_int pa_nil))) (pe_and (pe_call U_law_upto.ok (hr.mono (by omega)) rfl U_law_upto.m U_law_upto.kp U_law_upto.b .nil pass0 (pa_cons (pe_ix ix_tup (pv 0) pe_int (fun _ _ => rfl)) (pa_cons pe_int pa_nil))) (pe_one (pe_call Uis_tag.ok (hr.mono (by omega)) rfl Uis_tag.m Uis_tag.kp Uis_tag.b .nil pass0 (pa_cons (pe_ix ix_tup (pv 0) pe_int (fun _ _ => rfl)) pa_nil))))))))))))))), ?_⟩
  refine ⟨v, rfl, v, .ty "tuple", _, _, _, rfl, .ty "tuple", ty_data hv, kit_ty (kit_tup d), _, rfl, ?_⟩
  cases d with
  | tuple ds =>
    cases hv with
    | d hv =>
      cases hv with
      | @tup a xs _ hs hx =>
      rw [txt] at ht
      refine ⟨_, rfl, a, xs, rfl, .inr hs, _, _, rfl, rfl, _, rfl, ?_⟩
      cases hx with
      | nil => exact q H (Same.refl H)
      | @cons x0 xr d0 dr h0 hr0 =>
      cases hr0 with
      | nil =>
        have q' := q H (Same.refl H)
        rw [deed_short] at q'
        exact q'
      | @cons x1 xr d1 dr h1' hr1 =>
      have lr : xr.length = dr.length := DpAll.len hr1
      refine iteD (fun c => absurd c ?_) (fun c => ?_)
      · show ¬ (((xr.length + 1 + 1 : Nat)) : Int) < 2
        omega
      have at0 : atI (x0 :: x1 :: xr) 0 = some x0 := atI_nat (j := 0) rfl
      have at1 : atI (x0 :: x1 :: xr) 1 = some x1 := atI_nat (j := 1) rfl
      have len' : ∀ n : Nat, decide (V.int (((x0 :: x1 :: xr).length : Nat) : Int) = V.int ((n + 2 : Nat) : Int)) = decide (dr.length = n) := fun n => by
        apply decide_eq_decide.mpr
        rw [List.length_cons, List.length_cons, lr]
        constructor
        · intro h
          have := V.int.inj h
          omega
        · intro h
          rw [h]
      refine ⟨_, rfl, a, _, 0, _, rfl, rfl, hs, at0, x0, .ty "str", _, _, _, rfl, .ty "str", ty_data (.d h0), kit_ty (kit_str d0), _, rfl, ?_⟩
      cases h0 with
      | str z =>
        refine ⟨_, rfl, a, _, 1, _, rfl, rfl, hs, at1, x1, d1, rfl, .d h1', txtAll_get (i := 1) ht rfl, fun H1 e1 => ⟨_, rfl, ?_⟩⟩
        have hs1 := same_t e1 hs
        cases hp : isPath d1 with
        | false =>
          have q' := q H1 e1
          rw [deed_nopath hp] at q'
          exact q'
        | true =>
          have up : ∀ {H' : Hp}, Same H H' → SqT K H' a (V.str z :: x1 :: xr) := fun e => same_t e hs
          have by_ : ∀ {fr : List Str}, formsOf z = some (("path" : Str) :: fr) → ∀ H', Same H H' → Q (.bl (decide (dr.length = fr.length) && allForm fr dr)) H' := fun h H' e => by
            have q' := q H' e
            rw [deed_by h, hp, Bool.true_and] at q'
            exact q'
          refine ⟨_, rfl, a, _, 0, _, rfl, rfl, hs1, at0, ?_⟩
          refine ⟨_, rfl, by show 2 ≤ sizeLine; decide, fun p2 hp2 => ?_⟩
          have e2 := e1.trans (same_new (o := HO.lst [V.str "out", V.str "unwrap"]) hp2)
          refine ⟨p2, _, rfl, .inl (SqL.of upd_same), rfl, rfl, _, rfl, ?_⟩
          show if inV (.str z) [.str "out", .str "unwrap"] = true then _ else _
          rw [in2]
          refine iteB (fun c1 => ?_) (fun c1 => ?_)
          · have hf : formsOf z = some (("path" : Str) :: []) := by
              rw [Bool.or_eq_true] at c1
              rcases c1 with c1 | c1 <;> (rw [of_decide_eq_true c1]; decide +kernel)
            refine ⟨_, rfl, a, _, rfl, .inr (up e2), rfl, ?_⟩
            have q' := by_ hf _ e2
            have e4 : allForm [] dr = true := by cases dr <;> rfl
            rw [e4, Bool.and_true] at q'
            have e3 := len' 0
            show Q (V.bl (decide (V.int (((V.str z :: x1 :: xr).length : Nat) : Int) = V.int ((0 + 2 : Nat) : Int)))) _
            rw [e3]
            exact q'
          have nout : ¬ z = "out" ∧ ¬ z = "unwrap" := by
            rw [Bool.or_eq_false_iff] at c1
            exact ⟨of_decide_eq_false c1.1, of_decide_eq_false c1.2⟩
          -- name
          refine ⟨_, rfl, rfl, _, rfl, iteS (fun c2 => ?_) (fun c2 => ?_)⟩
          · have q0 := by_ (fr := ["tag"]) (by rw [c2]; decide +kernel)
            refine ⟨_, rfl, a, _, rfl, .inr (up e2), rfl, ?_⟩
            refine ⟨_, rfl, ?_⟩
            show if decide (V.int (((V.str z :: x1 :: xr).length : Nat) : Int) = V.int ((1 + 2 : Nat) : Int)) = true then _ else _
            rw [len' 1]
            refine iteD (fun c3 => ?_) (fun c3 => ?_)
            · obtain ⟨x2, d2, rfl, rfl, h2'⟩ := DpAll.one' hr1 c3
              refine ⟨_, rfl, a, _, 2, _, rfl, rfl, up e2, atI_nat (j := 2) rfl, x2, d2, rfl, .d (dp_mono e2 _ _ h2'), txtAll_get (i := 2) ht rfl, fun H3 e3 => ?_⟩
              have q' := q0 H3 (e2.trans e3)
              rw [show decide ([d2].length = (["tag"] : List Str).length) = true from rfl, Bool.true_and, af_cons, f_tag, af_nil, Bool.and_true] at q'
              exact q'
            · have q' := q0 _ e2
              rw [decide_eq_false (show ¬ dr.length = (["tag"] : List Str).length from c3), Bool.false_and] at q'
              exact q'
          -- put
          refine ⟨_, rfl, rfl, _, rfl, iteS (fun c3 => ?_) (fun c3 => ?_)⟩
          · have q0 := by_ (fr := ["number", "tree"]) (by rw [c3]; decide +kernel)
            refine ⟨_, rfl, a, _, rfl, .inr (up e2), rfl, ?_⟩
            refine ⟨_, rfl, ?_⟩
            show if decide (V.int (((V.str z :: x1 :: xr).length : Nat) : Int) = V.int ((2 + 2 : Nat) : Int)) = true then _ else _
            rw [len' 2]
            refine iteD (fun c4 => ?_) (fun c4 => ?_)
            · obtain ⟨x2, x3, d2, d3, rfl, rfl, h2', h3'⟩ := DpAll.two hr1 (by omega)
              refine ⟨_, rfl, a, _, 2, _, rfl, rfl, up e2, atI_nat (j := 2) rfl, x2, d2, 60, rfl, .d (dp_mono e2 _ _ h2'), txtAll_get (i := 2) ht rfl, fun H3 e3 => ⟨_, rfl, ?_⟩⟩
              refine iteB (fun c5 => ?_) (fun c5 => ?_)
              · refine ⟨_, rfl, a, _, 3, _, rfl, rfl, up (e2.trans e3), atI_nat (j := 3) rfl, x3, d3, rfl, .d (dp_mono (e2.trans e3) _ _ h3'), txtAll_get (i := 3) ht rfl, fun H4 e4 => ?_⟩
                have q' := q0 H4 ((e2.trans e3).trans e4)
                rw [show decide ([d2, d3].length = (["number", "tree"] : List Str).length) = true from rfl, Bool.true_and, af_cons, af_cons, af_nil, f_num, f_tree, c5, Bool.true_and, Bool.and_true] at q'
                exact q'
              · have q' := q0 H3 (e2.trans e3)
                rw [show decide ([d2, d3].length = (["number", "tree"] : List Str).length) = true from rfl, Bool.true_and, af_cons, f_num, c5, Bool.false_and] at q'
                exact q'
            · have q' := q0 _ e2
              rw [decide_eq_false (show ¬ dr.length = (["number", "tree"] : List Str).length from c4), Bool.false_and] at q'
              exact q'
          -- move
          refine ⟨_, rfl, rfl, _, rfl, iteS (fun c4 => ?_) (fun c4 => ?_)⟩
          · have q0 := by_ (fr := ["path", "number"]) (by rw [c4]; decide +kernel)
            refine ⟨_, rfl, a, _, rfl, .inr (up e2), rfl, ?_⟩
            refine ⟨_, rfl, ?_⟩
            show if decide (V.int (((V.str z :: x1 :: xr).length : Nat) : Int) = V.int ((2 + 2 : Nat) : Int)) = true then _ else _
            rw [len' 2]
            refine iteD (fun c5 => ?_) (fun c5 => ?_)
            · obtain ⟨x2, x3, d2, d3, rfl, rfl, h2', h3'⟩ := DpAll.two hr1 (by omega)
              refine ⟨_, rfl, a, _, 2, _, rfl, rfl, up e2, atI_nat (j := 2) rfl, x2, d2, rfl, .d (dp_mono e2 _ _ h2'), txtAll_get (i := 2) ht rfl, fun H3 e3 => ⟨_, rfl, ?_⟩⟩
              refine iteB (fun c6 => ?_) (fun c6 => ?_)
              · refine ⟨_, rfl, a, _, 3, _, rfl, rfl, up (e2.trans e3), atI_nat (j := 3) rfl, x3, d3, 60, rfl, .d (dp_mono (e2.trans e3) _ _ h3'), txtAll_get (i := 3) ht rfl, fun H4 e4 => ?_⟩
                have q' := q0 H4 ((e2.trans e3).trans e4)
                rw [show decide ([d2, d3].length = (["path", "number"] : List Str).length) = true from rfl, Bool.true_and, af_cons, af_cons, af_nil, f_num, f_path, c6, Bool.true_and, Bool.and_true] at q'
                exact q'
              · have q' := q0 H3 (e2.trans e3)
                rw [show decide ([d2, d3].length = (["path", "number"] : List Str).length) = true from rfl, Bool.true_and, af_cons, f_path, c6, Bool.false_and] at q'
                exact q'
            · have q' := q0 _ e2
              rw [decide_eq_false (show ¬ dr.length = (["path", "number"] : List Str).length from c5), Bool.false_and] at q'
              exact q'
          -- swap
          refine ⟨_, rfl, rfl, _, rfl, iteS (fun c5 => ?_) (fun c5 => ?_)⟩
          · have q0 := by_ (fr := ["path"]) (by rw [c5]; decide +kernel)
            refine ⟨_, rfl, a, _, rfl, .inr (up e2), rfl, ?_⟩
            refine ⟨_, rfl, ?_⟩
            show if decide (V.int (((V.str z :: x1 :: xr).length : Nat) : Int) = V.int ((1 + 2 : Nat) : Int)) = true then _ else _
            rw [len' 1]
            refine iteD (fun c6 => ?_) (fun c6 => ?_)
            · obtain ⟨x2, d2, rfl, rfl, h2'⟩ := DpAll.one' hr1 c6
              refine ⟨_, rfl, a, _, 2, _, rfl, rfl, up e2, atI_nat (j := 2) rfl, x2, d2, rfl, .d (dp_mono e2 _ _ h2'), txtAll_get (i := 2) ht rfl, fun H3 e3 => ?_⟩
              have q' := q0 H3 (e2.trans e3)
              rw [show decide ([d2].length = (["path"] : List Str).length) = true from rfl, Bool.true_and, af_cons, f_path, af_nil, Bool.and_true] at q'
              exact q'
            · have q' := q0 _ e2
              rw [decide_eq_false (show ¬ dr.length = (["path"] : List Str).length from c6), Bool.false_and] at q'
              exact q'
          -- wrap
          have none_ : ¬ z = "wrap" → isDeedD (.tuple (.str z :: d1 :: dr)) = false := fun c6 => by
            rw [isDeedD, formsOf, if_neg c2, if_neg c3, if_neg nout.1, if_neg c4, if_neg c5, if_neg c6, if_neg nout.2]
          refine ⟨_, rfl, rfl, _, rfl, ?_⟩
          show if (!decide (V.str z = V.str "wrap")) = true then _ else _
          refine iteN (fun c6 => ?_) (fun c6 => ?_)
          · have q' := q _ e2
            rw [none_ (fun z => c6 (by rw [z]))] at q'
            exact q'
          have c6' : z = "wrap" := V.str.inj c6
          have q0 := by_ (fr := ["number", "number", "tag"]) (by rw [c6']; decide +kernel)
          refine ⟨_, rfl, a, _, rfl, .inr (up e2), rfl, _, rfl, ?_⟩
          show if (!decide (V.int (((V.str z :: x1 :: xr).length : Nat) : Int) = V.int ((3 + 2 : Nat) : Int))) = true then _ else _
          rw [len' 3]
          refine iteN (fun c7 => ?_) (fun c7 => ?_)
          · have q' := q0 _ e2
            rw [decide_eq_false (show ¬ dr.length = (["number", "number", "tag"] : List Str).length from c7), Bool.false_and] at q'
            exact q'
          obtain ⟨x2, x3, x4, d2, d3, d4, rfl, rfl, h2', h3', h4'⟩ := DpAll.three hr1 c7
          refine ⟨_, rfl, a, _, 2, _, rfl, rfl, up e2, atI_nat (j := 2) rfl, x2, d2, 60, rfl, .d (dp_mono e2 _ _ h2'), txtAll_get (i := 2) ht rfl, fun H3 e3 => ⟨_, rfl, ?_⟩⟩
          refine iteB (fun c8 => ?_) (fun c8 => ?_)
          · refine ⟨_, rfl, a, _, 3, _, rfl, rfl, up (e2.trans e3), atI_nat (j := 3) rfl, x3, d3, 60, rfl, .d (dp_mono (e2.trans e3) _ _ h3'), txtAll_get (i := 3) ht rfl, fun H4 e4 => ⟨_, rfl, ?_⟩⟩
            refine iteB (fun c9 => ?_) (fun c9 => ?_)
            · refine ⟨_, rfl, a, _, 4, _, rfl, rfl, up ((e2.trans e3).trans e4), atI_nat (j := 4) rfl, x4, d4, rfl, .d (dp_mono ((e2.trans e3).trans e4) _ _ h4'), txtAll_get (i := 4) ht rfl, fun H5 e5 => ?_⟩
              have q' := q0 H5 (((e2.trans e3).trans e4).trans e5)
              rw [show decide ([d2, d3, d4].length = (["number", "number", "tag"] : List Str).length) = true from rfl, Bool.true_and, af_cons, af_cons, af_cons, af_nil, f_num, f_num, f_tag, c8, c9, Bool.true_and, Bool.true_and, Bool.and_true] at q'
              exact q'
            · have q' := q0 H4 ((e2.trans e3).trans e4)
              rw [show decide ([d2, d3, d4].length = (["number", "number", "tag"] : List Str).length) = true from rfl, Bool.true_and, af_cons, af_cons, f_num, f_num, c8, c9, Bool.true_and, Bool.false_and] at q'
              exact q'
          · have q' := q0 H3 (e2.trans e3)
            rw [show decide ([d2, d3, d4].length = (["number", "number", "tag"] : List Str).length) = true from rfl, Bool.true_and, af_cons, f_num, c8, Bool.false_and] at q'
            exact q'
      | non => exact q H (Same.refl H)
      | bl _ => exact q H (Same.refl H)
      | int _ => exact q H (Same.refl H)
      | lst _ _ => exact q H (Same.refl H)
      | tup _ _ => exact q H (Same.refl H)
  | str z => exact q H (Same.refl H)
  | bool b => exact q H (Same.refl H)
  | int b => exact q H (Same.refl H)
  | none => exact q H (Same.refl H)
  | list s => exact q H (Same.refl H)
  | dict s => exact q H (Same.refl H)
end
end Tl

set_option Elab.async false
set_option linter.all false
set_option maxRecDepth 100000
set_option maxHeartbeats 16000000
namespace Tl
open PySem L2
abbrev sLDeed : Stmt := top 23
theorem tags6_tag : ∀ s ∈ tags6, isTag (.str s) = true := by decide +kernel
theorem tr_wt {h : Nat} {d : PyData} (t : TrD h d) : 24 ≤ wt d := by
  cases h with
  | zero => exact t.elim
  | succ h =>
    obtain ⟨s, ks, rfl, hs, _⟩ := t
    rw [wt_node]
    have := hs.1
    omega
theorem len26 {h : Nat} : ∀ ks : List PyData, (∀ k ∈ ks, TrD h k) → 26 * ks.length ≤ wtAll ks
  | [], _ => Nat.zero_le _
  | a :: r, t => by
    have h1 := tr_wt (t a List.mem_cons_self)
    have h2 := len26 r fun k hk => t k (List.mem_cons_of_mem _ hk)
    rw [List.length_cons, wtAll]
    omega
theorem cntK_wt (l : Nat) : ∀ (ks : List PyData) (n : Nat), (∀ k ∈ ks, 26 * cntB l k ≤ (wt k + 2 : Nat)) → 26 * n + wtAll ks ≤ 1560 → 26 * cntK (cntB l) ks n ≤ ((26 * n + wtAll ks : Nat) : Int)
  | [], n, _, h => by
    rw [cntK, wtAll]
    omega
  | k :: r, n, hk, h => by
    have h1 := hk k List.mem_cons_self
    have hp := cntB_pos l k
    rw [wtAll] at h
    rw [cntK, wtAll]
    rw [if_neg (by omega)]
    obtain ⟨m, hm⟩ : ∃ m : Nat, (m : Int) = n + cntB l k := ⟨(n + cntB l k).toNat, by omega⟩
    rw [← hm]
    have ih := cntK_wt l r m (fun x hx => hk x (List.mem_cons_of_mem _ hx)) (by omega)
    omega
theorem cnt_wt : ∀ (l h : Nat) (d : PyData), TrD h d → h ≤ l → wt d + 2 ≤ 1560 → 26 * cntB l d ≤ (wt d + 2 : Nat)
  | _, 0, _, t, _, _ => t.elim
  | 0, h + 1, _, _, hl, _ => by omega
  | l + 1, h + 1, d, t, hl, hw => by
    obtain ⟨s, ks, rfl, hs, hk⟩ := t
    have e : tagKids (.tuple [.str s, .tuple ks]) = true := by
      rw [tagKids, tags6_tag s hs.2.2.2]
      rfl
    have hn := wt_node s ks
    have h1 := hs.1
    rw [cntB, if_pos e]
    have q := cntK_wt l ks 1 (fun k hk2 => by
      have hm : wt k + 2 ≤ wtAll ks := by
        obtain ⟨i, hi, rfl⟩ := List.getElem_of_mem hk2
        have := wtAll_take_le ks (i + 1)
        rw [wtAll_take (List.getElem?_eq_getElem hi)] at this
        omega
      exact cnt_wt l h k (hk k hk2) (by omega) (by omega)) (by omega)
    show 26 * cntK (cntB l) ks 1 ≤ _
    have q' : 26 * cntK (cntB l) ks 1 ≤ ((26 * 1 + wtAll ks : Nat) : Int) := q
    omega
theorem tr_tree {h : Nat} {d : PyData} (t : TrD h d) (hl : h ≤ 12) (hw : wt d + 2 ≤ 1560) : isTreeD d = true := by
  rw [tree_cnt]
  have := cnt_wt 12 h d t hl hw
  exact decide_eq_true (by omega)
theorem sub_tr26 : ∀ (q : List Nat) (h : Nat) (d e : PyData), TrD h d → sub d q = some e → ∃ h', TrD h' e ∧ h' + q.length ≤ h ∧ wt e ≤ wt d ∧ ∀ n ∈ q, 26 * n ≤ wt d
  | [], h, d, e, t, hs => by
    rw [sub] at hs
    cases hs
    exact ⟨h, t, Nat.le_refl _, Nat.le_refl _, fun n hn => nomatch hn⟩
  | i :: q, 0, d, e, t, hs => t.elim
  | i :: q, h + 1, d, e, t, hs => by
    obtain ⟨s, ks, k, rfl, hk, hs2⟩ := sub_cons hs
    obtain ⟨s', ks', he, _, hall⟩ := t
    cases he
    obtain ⟨h', t', hl, hw, hq⟩ := sub_tr26 q h k e (hall k (List.mem_of_getElem? hk)) hs2
    have w1 := wtAll_take_le ks (i + 1)
    rw [wtAll_take hk] at w1
    have w2 := len26 ks hall
    have hi := (List.getElem?_eq_some_iff.mp hk).1
    have w3 := wt_node s' ks
    refine ⟨h', t', by rw [List.length_cons]; omega, by omega, fun n hn => ?_⟩
    rcases List.mem_cons.mp hn with rfl | hn
    · omega
    · have := hq n hn
      omega
theorem path_is {q : List Nat} (h1 : q.length ≤ 11) (h2 : ∀ n ∈ q, n ≤ 59) : isPath (pathD q) = true := by
  unfold pathD
  rw [isPath, List.length_map, decide_eq_true (by omega), Bool.true_and, List.all_map, List.all_eq_true]
  intro n hn
  have := h2 n hn
  show (decide ((0 : Int) ≤ (n : Int)) && decide ((n : Int) ≤ 59)) = true
  rw [decide_eq_true (by omega), decide_eq_true (by omega)]
  rfl
theorem num_is {n : Int} (h0 : 0 ≤ n) (h1 : n ≤ 60) : isNum 60 (.int n) = true := by
  rw [isNum, decide_eq_true h0, decide_eq_true h1]
  rfl
theorem gd_int {n : Int} (h0 : 0 ≤ n) (h1 : n ≤ 100000) : gd (.int n) = true := by
  rw [gd]
  exact decide_eq_true (Nat.lt_of_lt_of_le (show n.natAbs < 100001 by omega) (by decide))
/-- a path of a drawn tree -/
structure PathOf (q : List Nat) : Prop where
  is : isPath (pathD q) = true
  gd : gd (pathD q) = true
  dep : (pathD q).depth = 1
  wt : wt (pathD q) ≤ 20000
theorem pathOf {q : List Nat} (h1 : q.length ≤ 10) (h2 : ∀ n ∈ q, n ≤ 59) : PathOf q := by
  have h := ints_ok q fun n hn => by have := h2 n hn; omega
  refine ⟨path_is (by omega) h2, ?_, ?_, ?_⟩
  · unfold pathD
    rw [Tl.gd]
    exact h.1
  · unfold pathD
    rw [PyData.depth, h.2.2]
  · unfold pathD
    rw [Tl.wt, h.2.1]
    omega
def Deed (ds : List PyData) : Prop := isDeedD (.tuple ds) = true ∧ gdAll ds = true ∧ PyData.depthAll ds ≤ 22 ∧ wtAll ds ≤ 60000 ∧ 2 ≤ ds.length ∧ ds.length ≤ 5
def spLDeed (K : PySem.W.Frag) : Sp := fun vs H Q _ => ∃ (st cc : Addr) (F : Hp) (v : V) (td : PyData), vs = [.ref st, v] ∧ Wd st cc F H ∧ Dp K F v td ∧ TrD 10 td ∧ wt td ≤ 1500 ∧
  ∀ (r : V) (ds : List PyData) (F' H' : Hp), Wd st cc F' H' → Same F F' → Dp K F' r (.tuple ds) → Deed ds → Q r H'
theorem deed_is {z : Str} {fr : List Str} {d1 : PyData} {dr : List PyData} (h : formsOf z = some (("path" : Str) :: fr)) (hp : isPath d1 = true) (hl : dr.length = fr.length) (ha : allForm fr dr = true) : isDeedD (.tuple (.str z :: d1 :: dr)) = true := by
  rw [deed_by h, hp, ha, decide_eq_true hl]
  rfl
section
variable {P : Program} {w : World} {K : PySem.W.Frag} {mg : Str → Option Value} {base : Heap}
theorem scLDeed : FnScope ["_law_state_here", "_law_tree_here", "_law_places_here", "_law_path", "_law_other", "_law_many", "_law_spot", "_law_way"] ["_law_state_here", "_law_tree_here"] (defScope sLDeed) := ⟨rfl, rfl, rfl, by decide +kernel, rfl, by decide +kernel, by decide +kernel⟩
theorem ok_ldeed {f : Addr} {fd : FuncData} {k j1 j2 j3 j4 : Nat} (F : Fun K "_law_deed" "_law_deed" sLDeed f fd) (U_law_next : Use P w K mg base "_law_next" ["_law_state_here", "_law_below"] j1 spNext) (U_law_places : Use P w K mg base "_law_places" ["_law_tree_here", "_law_path"] j2 (spPlaces K 10)) (U_law_reach : Use P w K mg base "_law_reach" ["_law_tree_here", "_law_path"] j3 (spReach K)) (U_law_tree : Use P w K mg base "_law_tree" ["_law_state_here", "_law_most"] j4 (spTreeL K))
    (h1 : j1 ≤ k) (h2 : j2 ≤ k) (h3 : j3 ≤ k) (h4 : j4 ≤ k) (T : Bl mg) : FnOk P w K mg base CX0 (k + 1) f fd ["_law_state_here", "_law_tree_here"] (spLDeed K) := by
  refine F.ok scLDeed (fun vs H Q E h => ?_) (fun cdv A outer s H vs Q E hr h => ?_)
  · obtain ⟨_, _, _, _, _, rfl, _⟩ := h
    rfl
  obtain ⟨st, cc, Fd, tv, td, rfl, W, dtv, ttv, wtv, k⟩ := h
  refine ⟨_, (pss_cons (ps_set (i := 2) scLDeed.nd rfl (.inl rfl) (pe_call U_law_places.ok (hr.mono (by omega)) rfl U_law_places.m U_law_places.kp U_law_places.b .nil pass0 (pa_cons (pv 1) (pa_cons (pe_tup pa_nil) pa_nil))))
    (pss_cons (ps_set (i := 3) scLDeed.nd rfl (.inl rfl) (pe_ix ix_list (pv 2) (pe_call U_law_next.ok (hr.mono (by omega)) rfl U_law_next.m U_law_next.kp U_law_next.b .nil pass0 (pa_cons (pv 0) (pa_cons (pe_callB call_len_seq (by rfl) T.len PySem.boot_len (pa_cons (pv 2) pa_nil)) pa_nil))) (fun _ _ => rfl)))
    (pss_cons (ps_set (i := 4) scLDeed.nd rfl (.inl rfl) (pe_ix ix_list (pv 2) (pe_call U_law_next.ok (hr.mono (by omega)) rfl U_law_next.m U_law_next.kp U_law_next.b .nil pass0 (pa_cons (pv 0) (pa_cons (pe_callB call_len_seq (by rfl) T.len PySem.boot_len (pa_cons (pv 2) pa_nil)) pa_nil))) (fun _ _ => rfl)))
    (pss_cons (ps_set (i := 5) scLDeed.nd rfl (.inl rfl) (pe_callB call_len_seq (by rfl) T.len PySem.boot_len (pa_cons (pe_ix ix_tup (pe_call U_law_reach.ok (hr.mono (by omega)) rfl U_law_reach.m U_law_reach.kp U_law_reach.b .nil pass0 (pa_cons (pv 1) (pa_cons (pv 3) pa_nil))) pe_int (fun _ _ => rfl)) pa_nil)))
    (pss_cons (ps_set (i := 6) scLDeed.nd rfl (.inl rfl) (pe_call U_law_next.ok (hr.mono (by omega)) rfl U_law_next.m U_law_next.kp U_law_next.b .nil pass0 (pa_cons (pv 0) (pa_cons (pe_op op_add (pv 5) pe_int) pa_nil))))
    (pss_cons (ps_set (i := 7) scLDeed.nd rfl (.inl rfl) (pe_call U_law_next.ok (hr.mono (by omega)) rfl U_law_next.m U_law_next.kp U_law_next.b .nil pass0 (pa_cons (pv 0) (pa_cons pe_int pa_nil))))
    (pss_cons (ps_if (pt_cmpR op_eq (pv 7) pe_int (nomark _)) (pss_one (ps_ret (pe_tup (pa_cons pe_str (pa_cons (pv 3) (pa_cons (pe_ix ix_list (pe_lst (pa_cons pe_str (pa_cons pe_str (pa_cons pe_str (pa_cons pe_str pa_nil))))) (pe_call U_law_next.ok (hr.mono (by omega)) rfl U_law_next.m U_law_next.kp U_law_next.b .nil pass0 (pa_cons (pv 0) (pa_cons pe_int pa_nil))) (fun _ _ => rfl)) pa_nil)))))) pss_nil)
    (pss_cons (ps_if (pt_cmpR op_lt (pv 7) pe_int (nomark _)) (pss_one (ps_ret (pe_tup (pa_cons pe_str (pa_cons (pv 3) (pa_cons (pv 6) (pa_cons (pe_call U_law_tree.ok (hr.mono (by omega)) rfl U_law_tree.m U_law_tree.kp U_law_tree.b .nil pass0 (pa_cons (pv 0) (pa_cons (pe_ix ix_list (pe_lst (pa_cons pe_int (pa_cons pe_int (pa_cons pe_int pa_nil)))) (pe_call U_law_next.ok (hr.mono (by omega)) rfl U_law_next.m U_law_next.kp U_law_next.b .nil pass0 (pa_cons (pv 0) (pa_cons pe_int pa_nil))) (fun _ _ => rfl)) pa_nil))) pa_nil))))))) pss_nil)
    (pss_cons (ps_if (pt_cmpR op_eq (pv 7) pe_int (nomark _)) (pss_one (ps_ret (pe_tup (pa_cons pe_str (pa_cons (pv 3) pa_nil))))) pss_nil)
    (pss_cons (ps_if (pt_cmpR op_eq (pv 7) pe_int (nomark _)) (pss_one (ps_ret (pe_tup (pa_cons pe_str (pa_cons (pv 3) (pa_cons (pv 4) (pa_cons (pe_call U_law_next.ok (hr.mono (by omega)) rfl U_law_next.m U_law_next.kp U_law_next.b .nil pass0 (pa_cons (pv 0) (pa_cons (pe_op op_add (pe_callB call_len_seq (by rfl) T.len PySem.boot_len (pa_cons (pe_ix ix_tup (pe_call U_law_reach.ok (hr.mono (by omega)) rfl U_law_reach.m U_law_reach.kp U_law_reach.b .nil pass0 (pa_cons (pv 1) (pa_cons (pv 4) pa_nil))) pe_int (fun _ _ => rfl)) pa_nil)) pe_int) pa_nil))) pa_nil))))))) pss_nil)
    (pss_cons (ps_if (pt_cmpR op_eq (pv 7) pe_int (nomark _)) (pss_one (ps_ret (pe_tup (pa_cons pe_str (pa_cons (pv 3) (pa_cons (pv 4) pa_nil)))))) pss_nil)
    (pss_cons (ps_if (pt_cmpR op_eq (pv 7) pe_int (nomark _)) (pss_one (ps_ret (pe_tup (pa_cons pe_str (pa_cons (pv 3) (pa_cons (pv 6) (pa_cons (pe_call U_law_next.ok (hr.mono (by omega)) rfl U_law_next.m U_law_next.kp U_law_next.b .nil pass0 (pa_cons (pv 0) (pa_cons (pe_op op_add (pe_op op_sub (pv 5) (pv 6)) pe_int) pa_nil))) (pa_cons (pe_ix ix_list (pe_lst (pa_cons pe_str (pa_cons pe_str pa_nil))) (pe_call U_law_next.ok (hr.mono (by omega)) rfl U_law_next.m U_law_next.kp U_law_next.b .nil pass0 (pa_cons (pv 0) (pa_cons pe_int pa_nil))) (fun _ _ => rfl)) pa_nil)))))))) pss_nil)
    (pss_one (ps_ret (pe_tup (pa_cons pe_str (pa_cons (pv 3) pa_nil))))))))))))))))), ?_⟩
  refine ⟨_, rfl, by show 0 ≤ sizeLine; decide, fun p1 hp1 => ?_⟩
  obtain ⟨g1, d1⟩ := gw_tup (K := K) (xs := []) (ds := []) W.fh hp1 .nil
  have W1 := W.gw g1
  refine ⟨_, tv, td, .ref p1, [], rfl, W1.fh, dp_mono g1.ff _ _ dtv, ttv, d1, by omega, by decide, by decide, fun pa xs L F2 H2 g2 hpa hxs hL0 hL1 hLp => ?_⟩
  have W2 := W1.gw g2
  have e2 := g1.ff.trans g2.ff
  have dtv2 := dp_mono e2 _ _ dtv
  have lx := DpAll.len hxs
  rw [List.length_map] at lx
  have pick : ∀ m : Int, 0 ≤ m → m < (xs.length : Nat) → ∃ pv q e h', atI xs m = some pv ∧ Dp K F2 pv (pathD q) ∧ sub td q = some e ∧ PathOf q ∧ TrD h' e ∧ wt e ≤ wt td := fun m hm0 hm1 => by
    obtain ⟨pv, pd, hat, hmem, dpv⟩ := DpAll.pick hxs hm0 (by rw [List.length_map]; omega)
    obtain ⟨q, hqL, rfl⟩ := List.mem_map.mp hmem
    obtain ⟨q', e, hq', hsub⟩ := hLp q hqL
    rw [List.nil_append] at hq'
    subst hq'
    obtain ⟨h', te, hlen, hwe, hqs⟩ := sub_tr26 q 10 td e ttv hsub
    exact ⟨pv, q, e, h', hat, dpv, hsub, pathOf (by omega) (fun n hn => by have := hqs n hn; omega), te, hwe⟩
  refine ⟨_, rfl, _, rfl, _, rfl, pa, xs, rfl, .inl (SqL.of (W2.fh _ _ hpa)), st, cc, _, rfl, W2.sa, by omega, by omega, fun m3 o3 hm30 hm31 sa3 => ?_⟩
  have W3 := W2.next sa3
  obtain ⟨pv, q, e, h', hat3, dpv, hsub, pq, te, hwe⟩ := pick m3 hm30 hm31
  refine ⟨pa, xs, m3, pv, rfl, rfl, SqL.of (W3.fh _ _ hpa), hat3, ?_⟩
  refine ⟨_, rfl, _, rfl, _, rfl, pa, xs, rfl, .inl (SqL.of (W3.fh _ _ hpa)), st, cc, _, rfl, W3.sa, by omega, by omega, fun m4 o4 hm40 hm41 sa4 => ?_⟩
  have W4 := W3.next sa4
  obtain ⟨ov, q2, e', h'', hat4, dov, hsub2, pq2, te2, hwe2⟩ := pick m4 hm40 hm41
  refine ⟨pa, xs, m4, ov, rfl, rfl, SqL.of (W4.fh _ _ hpa), hat4, ?_⟩
  -- many
  obtain ⟨n', rfl⟩ : ∃ n, h' = n + 1 := by
    cases h' with
    | zero => exact te.elim
    | succ n => exact ⟨n, rfl⟩
  obtain ⟨sg, ks, rfl, hsg, hks⟩ := te
  have wks := wt_node sg ks
  have lks := len26 ks hks
  refine ⟨_, rfl, _, rfl, F2, tv, td, pv, q, _, rfl, W4.fh, dtv2, dpv, hsub, fun rv drv => ?_⟩
  cases drv with
  | @tup ra rxs _ hra hrx =>
  obtain ⟨x0, y0, _, _, rfl, h00, dx0, dy0⟩ := DpAll.two hrx (DpAll.len hrx)
  cases h00
  cases dy0 with
  | @tup rc rys _ hrc hry =>
  have lry : rys.length = ks.length := DpAll.len hry
  refine ⟨ra, _, 1, _, rfl, rfl, same_t W4.fh hra, atI_nat (j := 1) rfl, rc, rys, rfl, .inr (same_t W4.fh hrc), ?_⟩
  -- spot, way
  refine ⟨_, rfl, _, rfl, _, _, rfl, rfl, st, cc, _, rfl, W4.sa, by omega, by omega, fun spot o5 hs50 hs51 sa5 => ?_⟩
  have W5 := W4.next sa5
  refine ⟨_, rfl, st, cc, 8, rfl, W5.sa, by decide, by decide, fun way o6 hw60 hw61 sa6 => ?_⟩
  have W6 := W5.next sa6
  have spot60 : spot ≤ 60 := by omega
  have gsp := gd_int hs50 (by omega)
  refine ⟨_, rfl, rfl, _, rfl, iteE (fun c => ?_) (fun c => ?_)⟩
  · -- name
    refine ⟨_, rfl, by show 4 ≤ sizeLine; decide, fun p7 hp7 => ?_⟩
    have hfour : DpAll K F2 [.str "a", .str "b", .str "new", .str "abcdefgh"] [.str "a", .str "b", .str "new", .str "abcdefgh"] := .cons (.str _) (.cons (.str _) (.cons (.str _) (.cons (.str _) .nil)))
    obtain ⟨g7, d7⟩ := gw_lst (K := K) W6.fh hp7 hfour
    have W7 := W6.gw g7
    refine ⟨_, rfl, st, cc, 4, rfl, W7.sa, by decide, by decide, fun r8 o8 hr80 hr81 sa8 => ?_⟩
    have W8 := W7.next sa8
    obtain ⟨rv, rd, hat, hmem, hrv⟩ := DpAll.pick (dpAll_mono g7.ff _ _ hfour) hr80 (show r8 < ((4 : Nat) : Int) from hr81)
    refine ⟨p7, _, r8, rv, rfl, rfl, .inl (.inl (W8.fh _ _ upd_same)), hat, by show 3 ≤ sizeLine; decide, fun p9 hp9 => ?_⟩
    obtain ⟨g9, d9⟩ := gw_tup (K := K) (xs := [.str "name", pv, rv]) W8.fh hp9 (.cons (.str _) (.cons (dp_mono g7.ff _ _ dpv) (.cons hrv .nil)))
    have good : isTag rd = true ∧ gd rd = true ∧ rd.depth = 0 ∧ wt rd ≤ 100 := by
      have all : ∀ d ∈ [PyData.str "a", .str "b", .str "new", .str "abcdefgh"], isTag d = true ∧ gd d = true ∧ d.depth = 0 ∧ wt d ≤ 100 := by decide +kernel
      exact all rd hmem
    refine k _ _ _ _ (W8.gw g9) ((e2.trans g7.ff).trans g9.ff) d9 ⟨deed_is (fr := ["tag"]) (by decide +kernel) pq.is rfl (by rw [af_cons, af_nil, f_tag, good.1]; rfl), ?_, ?_, ?_, by simp, by simp⟩
    · simp only [gdAll, pq.gd, good.2.1]
      decide +kernel
    · simp only [PyData.depthAll, pq.dep, good.2.2.1, PyData.depth]
      omega
    · have := pq.wt
      have e4 : wt (.str "name") = 44 := by decide +kernel
      simp only [wtAll, e4]
      omega
  refine ⟨_, rfl, way, 3, rfl, rfl, _, rfl, iteD (fun c2 => ?_) (fun c2 => ?_)⟩
  · -- put
    refine ⟨_, rfl, _, rfl, _, rfl, by show 3 ≤ sizeLine; decide, fun p7 hp7 => ?_⟩
    have s7 := same_new (o := HO.lst [V.int 1, V.int 3, V.int 6]) hp7
    have W7 := W6.same s7
    refine ⟨_, rfl, st, cc, 3, rfl, W7.sa, by decide, by decide, fun r8 o8 hr80 hr81 sa8 => ?_⟩
    have W8 := W7.next sa8
    have np7 : p7 ≠ st := (W6.ne hp7).1
    obtain ⟨mo, hat, hmo0, hmo1⟩ : ∃ mo : Int, atI [V.int 1, V.int 3, V.int 6] r8 = some (.int mo) ∧ 1 ≤ mo ∧ mo ≤ 6 := by
      rcases (show r8 = 0 ∨ r8 = 1 ∨ r8 = 2 by omega) with rfl | rfl | rfl
      · exact ⟨1, atI_nat (j := 0) rfl, by decide, by decide⟩
      · exact ⟨3, atI_nat (j := 1) rfl, by decide, by decide⟩
      · exact ⟨6, atI_nat (j := 2) rfl, by decide, by decide⟩
    refine ⟨p7, _, r8, _, rfl, rfl, SqL.of (by rw [upd_ne np7]; exact upd_same), hat, ?_⟩
    refine ⟨st, cc, F2, mo, rfl, W8, hmo0, by omega, fun nv nd F9 H9 W9 e9 dnv tnd wnd => ?_⟩
    refine ⟨by show 4 ≤ sizeLine; decide, fun p10 hp10 => ?_⟩
    obtain ⟨g10, d10⟩ := gw_tup (K := K) (xs := [.str "put", pv, .int spot, nv]) W9.fh hp10 (.cons (.str _) (.cons (dp_mono e9 _ _ dpv) (.cons (.int _) (.cons dnv .nil))))
    have gnd := TrD.gd tnd
    refine k _ _ _ _ (W9.gw g10) ((e2.trans e9).trans g10.ff) d10 ⟨deed_is (fr := ["number", "tree"]) (by decide +kernel) pq.is rfl (by rw [af_cons, af_cons, af_nil, f_num, f_tree, num_is hs50 spot60, tr_tree tnd (by decide) (by omega)]; rfl), ?_, ?_, ?_, by simp, by simp⟩
    · simp only [gdAll, pq.gd, gsp, gnd.1]
      decide +kernel
    · simp only [PyData.depthAll, pq.dep, PyData.depth]
      omega
    · have := pq.wt
      have e4 : wt (.str "put") = 34 := by decide +kernel
      have e5 : wt (.int spot) = 1930 := rfl
      simp only [wtAll, e4, e5]
      omega
  refine ⟨_, rfl, rfl, _, rfl, iteE (fun c3 => ?_) (fun c3 => ?_)⟩
  · -- out
    refine ⟨_, rfl, by show 2 ≤ sizeLine; decide, fun p9 hp9 => ?_⟩
    obtain ⟨g9, d9⟩ := gw_tup (K := K) (xs := [.str "out", pv]) W6.fh hp9 (.cons (.str _) (.cons dpv .nil))
    refine k _ _ _ _ (W6.gw g9) (e2.trans g9.ff) d9 ⟨deed_is (fr := []) (by decide +kernel) pq.is rfl rfl, ?_, ?_, ?_, by simp, by simp⟩
    · simp only [gdAll, pq.gd]
      decide +kernel
    · simp only [PyData.depthAll, pq.dep, PyData.depth]
      omega
    · have := pq.wt
      have e4 : wt (.str "out") = 34 := by decide +kernel
      simp only [wtAll, e4]
      omega
  refine ⟨_, rfl, rfl, _, rfl, iteE (fun c4 => ?_) (fun c4 => ?_)⟩
  · -- move
    obtain ⟨n2, rfl⟩ : ∃ n, h'' = n + 1 := by
      cases h'' with
      | zero => exact te2.elim
      | succ n => exact ⟨n, rfl⟩
    obtain ⟨sg2, ks2, rfl, hsg2, hks2⟩ := te2
    have wks2 := wt_node sg2 ks2
    have lks2 := len26 ks2 hks2
    refine ⟨_, rfl, _, rfl, _, rfl, _, rfl, _, rfl, F2, tv, td, ov, q2, _, rfl, W6.fh, dtv2, dov, hsub2, fun rv2 drv2 => ?_⟩
    cases drv2 with
    | @tup rb rxs2 _ hrb hrx2 =>
    obtain ⟨x02, y02, _, _, rfl, h002, dx02, dy02⟩ := DpAll.two hrx2 (DpAll.len hrx2)
    cases h002
    cases dy02 with
    | @tup rd rys2 _ hrd hry2 =>
    have lry2 : rys2.length = ks2.length := DpAll.len hry2
    refine ⟨rb, _, 1, _, rfl, rfl, same_t W6.fh hrb, atI_nat (j := 1) rfl, rd, rys2, rfl, .inr (same_t W6.fh hrd), _, _, rfl, rfl, ?_⟩
    refine ⟨st, cc, _, rfl, W6.sa, by omega, by omega, fun at_ o7 ha70 ha71 sa7 => ?_⟩
    have W7 := W6.next sa7
    refine ⟨by show 4 ≤ sizeLine; decide, fun p9 hp9 => ?_⟩
    obtain ⟨g9, d9⟩ := gw_tup (K := K) (xs := [.str "move", pv, ov, .int at_]) W7.fh hp9 (.cons (.str _) (.cons dpv (.cons dov (.cons (.int _) .nil))))
    refine k _ _ _ _ (W7.gw g9) (e2.trans g9.ff) d9 ⟨deed_is (fr := ["path", "number"]) (by decide +kernel) pq.is rfl (by rw [af_cons, af_cons, af_nil, f_num, f_path, pq2.is, num_is ha70 (by omega)]; rfl), ?_, ?_, ?_, by simp, by simp⟩
    · simp only [gdAll, pq.gd, pq2.gd, gd_int ha70 (show at_ ≤ 100000 by omega)]
      decide +kernel
    · simp only [PyData.depthAll, pq.dep, pq2.dep, PyData.depth]
      omega
    · have := pq.wt
      have := pq2.wt
      have e4 : wt (.str "move") = 44 := by decide +kernel
      have e5 : wt (.int at_) = 1930 := rfl
      simp only [wtAll, e4, e5]
      omega
  refine ⟨_, rfl, rfl, _, rfl, iteE (fun c5 => ?_) (fun c5 => ?_)⟩
  · -- swap
    refine ⟨_, rfl, _, rfl, by show 3 ≤ sizeLine; decide, fun p9 hp9 => ?_⟩
    obtain ⟨g9, d9⟩ := gw_tup (K := K) (xs := [.str "swap", pv, ov]) W6.fh hp9 (.cons (.str _) (.cons dpv (.cons dov .nil)))
    refine k _ _ _ _ (W6.gw g9) (e2.trans g9.ff) d9 ⟨deed_is (fr := ["path"]) (by decide +kernel) pq.is rfl (by rw [af_cons, af_nil, f_path, pq2.is]; rfl), ?_, ?_, ?_, by simp, by simp⟩
    · simp only [gdAll, pq.gd, pq2.gd]
      decide +kernel
    · simp only [PyData.depthAll, pq.dep, pq2.dep, PyData.depth]
      omega
    · have := pq.wt
      have := pq2.wt
      have e4 : wt (.str "swap") = 44 := by decide +kernel
      simp only [wtAll, e4]
      omega
  refine ⟨_, rfl, rfl, _, rfl, iteE (fun c6 => ?_) (fun c6 => ?_)⟩
  · -- wrap
    refine ⟨_, rfl, _, rfl, _, rfl, _, rfl, _, rfl, _, _, rfl, rfl, _, _, rfl, rfl, st, cc, _, rfl, W6.sa, by omega, by omega, fun mm o7 hm70 hm71 sa7 => ?_⟩
    have W7 := W6.next sa7
    refine ⟨by show 2 ≤ sizeLine; decide, fun p8 hp8 => ?_⟩
    have htwo : DpAll K F2 [.str "w", .str "b"] [.str "w", .str "b"] := .cons (.str _) (.cons (.str _) .nil)
    obtain ⟨g8, d8⟩ := gw_lst (K := K) W7.fh hp8 htwo
    have W8 := W7.gw g8
    refine ⟨_, rfl, st, cc, 2, rfl, W8.sa, by decide, by decide, fun r8 o8 hr80 hr81 sa8 => ?_⟩
    have W9 := W8.next sa8
    obtain ⟨rv, rd, hat, hmem, hrv⟩ := DpAll.pick (dpAll_mono g8.ff _ _ htwo) hr80 (show r8 < ((2 : Nat) : Int) from hr81)
    refine ⟨p8, _, r8, rv, rfl, rfl, .inl (.inl (W9.fh _ _ upd_same)), hat, by show 5 ≤ sizeLine; decide, fun p9 hp9 => ?_⟩
    obtain ⟨g9, d9⟩ := gw_tup (K := K) (xs := [.str "wrap", pv, .int spot, .int mm, rv]) W9.fh hp9 (.cons (.str _) (.cons (dp_mono g8.ff _ _ dpv) (.cons (.int _) (.cons (.int _) (.cons hrv .nil)))))
    have good : isTag rd = true ∧ gd rd = true ∧ rd.depth = 0 ∧ wt rd ≤ 100 := by
      have all : ∀ d ∈ [PyData.str "w", .str "b"], isTag d = true ∧ gd d = true ∧ d.depth = 0 ∧ wt d ≤ 100 := by decide +kernel
      exact all rd hmem
    refine k _ _ _ _ (W9.gw g9) ((e2.trans g8.ff).trans g9.ff) d9 ⟨deed_is (fr := ["number", "number", "tag"]) (by decide +kernel) pq.is rfl (by rw [af_cons, af_cons, af_cons, af_nil, f_num, f_num, f_tag, good.1, num_is hs50 spot60, num_is hm70 (by omega)]; rfl), ?_, ?_, ?_, by simp, by simp⟩
    · simp only [gdAll, pq.gd, gsp, good.2.1, gd_int hm70 (show mm ≤ 100000 by omega)]
      decide +kernel
    · simp only [PyData.depthAll, pq.dep, good.2.2.1, PyData.depth]
      omega
    · have := pq.wt
      have e4 : wt (.str "wrap") = 44 := by decide +kernel
      have e5 : wt (.int spot) = 1930 := rfl
      have e6 : wt (.int mm) = 1930 := rfl
      simp only [wtAll, e4, e5, e6]
      omega
  · -- unwrap
    refine ⟨_, rfl, by show 2 ≤ sizeLine; decide, fun p9 hp9 => ?_⟩
    obtain ⟨g9, d9⟩ := gw_tup (K := K) (xs := [.str "unwrap", pv]) W6.fh hp9 (.cons (.str _) (.cons dpv .nil))
    refine k _ _ _ _ (W6.gw g9) (e2.trans g9.ff) d9 ⟨deed_is (fr := []) (by decide +kernel) pq.is rfl rfl, ?_, ?_, ?_, by simp, by simp⟩
    · simp only [gdAll, pq.gd]
      decide +kernel
    · simp only [PyData.depthAll, pq.dep, PyData.depth]
      omega
    · have := pq.wt
      have e4 : wt (.str "unwrap") = 64 := by decide +kernel
      simp only [wtAll, e4]
      omega
end
end Tl

set_option Elab.async false
set_option linter.all false
set_option maxRecDepth 100000
set_option maxHeartbeats 16000000
namespace Tl
open PySem L2
abbrev sBent : Stmt := top 27
def odd16 : List PyData := [.none, .bool true, .int 61, .int 60, .int (-1), .str "x", .str "A", .tuple [.int 0], .tuple [.int 60], .list [.int 0], .tuple [.str "a", .tuple []], .tuple [.str "a", .list []], .tuple [], .int (10 ^ 40), .str "name", .str "out"]
theorem odd16_ok : ∀ d ∈ odd16, gd d = true ∧ d.depth ≤ 2 ∧ wt d ≤ 3000 := by decide +kernel
def BentP (ds : List PyData) (e : PyData) : Prop := (gd e = true ∧ e.depth ≤ PyData.depthAll ds + 5 ∧ wt e ≤ wtAll ds + 10000 ∧ ∀ es, e = .tuple es → es.length ≤ ds.length + 1) ∨ e = .dict []
def spBent (K : PySem.W.Frag) : Sp := fun vs H Q _ => ∃ (st cc : Addr) (F : Hp) (v : V) (ds : List PyData), vs = [.ref st, v] ∧ Wd st cc F H ∧ Dp K F v (.tuple ds) ∧ 1 ≤ ds.length ∧ ds.length ≤ 20 ∧ gdAll ds = true ∧
  ∀ (r : V) (e : PyData) (F' H' : Hp), Wd st cc F' H' → Same F F' → Dt K F' r e → BentP ds e → Q r H'
theorem gdAll_take {ds : List PyData} (h : gdAll ds = true) (i : Nat) : gdAll (ds.take i) = true ∧ gdAll (ds.drop i) = true := by
  have := h
  rw [← List.take_append_drop i ds, gdAll_app, Bool.and_eq_true] at this
  exact this
theorem dep_take (ds : List PyData) (i : Nat) : PyData.depthAll (ds.take i) ≤ PyData.depthAll ds ∧ PyData.depthAll (ds.drop i) ≤ PyData.depthAll ds := by
  have h : PyData.depthAll ds = max (PyData.depthAll (ds.take i)) (PyData.depthAll (ds.drop i)) := by
    conv => lhs; rw [← List.take_append_drop i ds, depthAll_app]
  omega
theorem wt_split (ds : List PyData) (i : Nat) : wtAll (ds.take i) + wtAll (ds.drop i) = wtAll ds := by
  conv => rhs; rw [← List.take_append_drop i ds, wtAll_app]
theorem wt_drop1 (ds : List PyData) (i : Nat) : wtAll (ds.drop (i + 1)) ≤ wtAll (ds.drop i) := by
  rw [← List.drop_drop]
  have := wt_split (ds.drop i) 1
  omega
section
variable {P : Program} {w : World} {K : PySem.W.Frag} {mg : Str → Option Value} {base : Heap}
theorem scBent : FnScope ["_law_state_here", "_law_deed_here", "_law_spot", "_law_odd", "_law_way"] ["_law_state_here", "_law_deed_here"] (defScope sBent) := ⟨rfl, rfl, rfl, by decide +kernel, rfl, by decide +kernel, by decide +kernel⟩
theorem ok_bent {f : Addr} {fd : FuncData} {k j1 : Nat} (F : Fun K "_law_bent" "_law_bent" sBent f fd) (U_law_next : Use P w K mg base "_law_next" ["_law_state_here", "_law_below"] j1 spNext) (h1 : j1 ≤ k) (T : Bl mg) : FnOk P w K mg base CX0 (k + 1) f fd ["_law_state_here", "_law_deed_here"] (spBent K) := by
  refine F.ok scBent (fun vs H Q E h => ?_) (fun cdv A outer s H vs Q E hr h => ?_)
  · obtain ⟨_, _, _, _, _, rfl, _⟩ := h
    rfl
  obtain ⟨st, cc, Fd, v, ds, rfl, W, hv, hl1, hl20, gds, k⟩ := h
  refine ⟨_, (pss_cons (ps_set (i := 2) scBent.nd rfl (.inl rfl) (pe_call U_law_next.ok (hr.mono (by omega)) rfl U_law_next.m U_law_next.kp U_law_next.b .nil pass0 (pa_cons (pv 0) (pa_cons (pe_callB call_len_seq (by rfl) T.len PySem.boot_len (pa_cons (pv 1) pa_nil)) pa_nil))))
    (pss_cons (ps_set (i := 3) scBent.nd rfl (.inl rfl) (pe_lst (pa_cons pe_non (pa_cons pe_bl (pa_cons pe_int (pa_cons pe_int (pa_cons (pe_un un_neg pe_int) (pa_cons pe_str (pa_cons pe_str (pa_cons (pe_tup (pa_cons pe_int pa_nil)) (pa_cons (pe_tup (pa_cons pe_int pa_nil)) (pa_cons (pe_lst (pa_cons pe_int pa_nil)) (pa_cons (pe_tup (pa_cons pe_str (pa_cons (pe_tup pa_nil) pa_nil))) (pa_cons (pe_tup (pa_cons pe_str (pa_cons (pe_lst pa_nil) pa_nil))) (pa_cons (pe_tup pa_nil) (pa_cons (pe_op op_pow pe_int pe_int) (pa_cons pe_str (pa_cons pe_str pa_nil))))))))))))))))))
    (pss_cons (ps_set (i := 4) scBent.nd rfl (.inl rfl) (pe_call U_law_next.ok (hr.mono (by omega)) rfl U_law_next.m U_law_next.kp U_law_next.b .nil pass0 (pa_cons (pv 0) (pa_cons pe_int pa_nil))))
    (pss_cons (ps_if (pt_cmpR op_eq (pv 4) pe_int (nomark _)) (pss_one (ps_ret (pe_op op_catA (pe_slice sl_tupA (pv 1) po_none (po_some (pv 2))) (pe_slice sl_tupA (pv 1) (po_some (pe_op op_add (pv 2) pe_int)) po_none)))) pss_nil)
    (pss_cons (ps_if (pt_cmpR op_eq (pv 4) pe_int (nomark _)) (pss_one (ps_ret (pe_op op_catA (pv 1) (pe_tup (pa_cons (pe_ix ix_list (pv 3) (pe_call U_law_next.ok (hr.mono (by omega)) rfl U_law_next.m U_law_next.kp U_law_next.b .nil pass0 (pa_cons (pv 0) (pa_cons pe_int pa_nil))) (fun _ _ => rfl)) pa_nil))))) pss_nil)
    (pss_cons (ps_if (pt_cmpR op_eq (pv 4) pe_int (nomark _)) (pss_one (ps_ret (pe_callTy call_list_of (by rfl) T.list PyProof.Rows.boot_list (pa_cons (pv 1) pa_nil)))) pss_nil)
    (pss_cons (ps_if (pt_cmpR op_eq (pv 4) pe_int (nomark _)) (pss_one (ps_ret (pe_ix ix_list (pe_lst (pa_cons pe_non (pa_cons (pe_tup pa_nil) (pa_cons pe_int (pa_cons pe_str (pa_cons (pe_tup (pa_cons pe_str pa_nil)) (pa_cons (pe_tup (pa_cons (pe_tup (pa_cons pe_str (pa_cons (pe_tup pa_nil) pa_nil))) pa_nil)) (pa_cons pe_dnewK (pa_cons pe_bl pa_nil))))))))) (pe_call U_law_next.ok (hr.mono (by omega)) rfl U_law_next.m U_law_next.kp U_law_next.b .nil pass0 (pa_cons (pv 0) (pa_cons pe_int pa_nil))) (fun _ _ => rfl)))) pss_nil)
    (pss_one (ps_ret (pe_op op_catA (pe_op op_catA (pe_slice sl_tupA (pv 1) po_none (po_some (pv 2))) (pe_tup (pa_cons (pe_ix ix_list (pv 3) (pe_call U_law_next.ok (hr.mono (by omega)) rfl U_law_next.m U_law_next.kp U_law_next.b .nil pass0 (pa_cons (pv 0) (pa_cons pe_int pa_nil))) (fun _ _ => rfl)) pa_nil))) (pe_slice sl_tupA (pv 1) (po_some (pe_op op_add (pv 2) pe_int)) po_none))))))))))), ?_⟩
  cases hv with
  | @tup a xs _ ha hx =>
  have lx : xs.length = ds.length := DpAll.len hx
  refine ⟨_, rfl, _, rfl, a, xs, rfl, .inr (same_t W.fh ha), st, cc, _, rfl, W.sa, by omega, by omega, fun spot o1 hs0 hs1 sa1 => ?_⟩
  have W1 := W.next sa1
  generalize upd H st o1 = H1 at W1
  clear sa1 o1
  obtain ⟨sp, rfl⟩ : ∃ sp : Nat, spot = (sp : Int) := ⟨spot.toNat, by omega⟩
  refine ⟨1, rfl, by show 1 ≤ sizeLine; decide, fun p1 hp1 => ?_⟩
  obtain ⟨g1, d1⟩ := gw_tup (K := K) (xs := [.int 0]) W1.fh hp1 (.cons (.int _) .nil)
  refine ⟨by show 1 ≤ sizeLine; decide, fun p2 hp2 => ?_⟩
  obtain ⟨g2, d2⟩ := gw_tup (K := K) (xs := [.int 60]) g1.fh hp2 (.cons (.int _) .nil)
  refine ⟨by show 1 ≤ sizeLine; decide, fun p3 hp3 => ?_⟩
  obtain ⟨g3, d3⟩ := gw_lst (K := K) (xs := [.int 0]) g2.fh hp3 (.cons (.int _) .nil)
  refine ⟨by show 0 ≤ sizeLine; decide, fun p4 hp4 => ?_⟩
  obtain ⟨g4, d4⟩ := gw_tup (K := K) (xs := []) (ds := []) g3.fh hp4 .nil
  refine ⟨by show 2 ≤ sizeLine; decide, fun p5 hp5 => ?_⟩
  obtain ⟨g5, d5⟩ := gw_tup (K := K) (xs := [.str "a", .ref p4]) g4.fh hp5 (.cons (.str _) (.cons d4 .nil))
  refine ⟨by show 0 ≤ sizeLine; decide, fun p6 hp6 => ?_⟩
  obtain ⟨g6, d6⟩ := gw_lst (K := K) (xs := []) (ds := []) g5.fh hp6 .nil
  refine ⟨by show 2 ≤ sizeLine; decide, fun p7 hp7 => ?_⟩
  obtain ⟨g7, d7⟩ := gw_tup (K := K) (xs := [.str "a", .ref p6]) g6.fh hp7 (.cons (.str _) (.cons d6 .nil))
  refine ⟨by show 0 ≤ sizeLine; decide, fun p8 hp8 => ?_⟩
  obtain ⟨g8, d8⟩ := gw_tup (K := K) (xs := []) (ds := []) g7.fh hp8 .nil
  refine ⟨10, 40, rfl, rfl, ⟨by decide, by decide, by decide⟩, by show 16 ≤ sizeLine; decide, fun p9 hp9 => ?_⟩
  have hodd : DpAll K _ [.non, .bl true, .int 61, .int 60, .int (-1), .str "x", .str "A", .ref p1, .ref p2, .ref p3, .ref p5, .ref p7, .ref p8, .int (10 ^ 40), .str "name", .str "out"] odd16 :=
    .cons .non (.cons (.bl _) (.cons (.int _) (.cons (.int _) (.cons (.int _) (.cons (.str _) (.cons (.str _) (.cons (dp_mono ((((((g2.ff.trans g3.ff).trans g4.ff).trans g5.ff).trans g6.ff).trans g7.ff).trans g8.ff) _ _ d1)
      (.cons (dp_mono (((((g3.ff.trans g4.ff).trans g5.ff).trans g6.ff).trans g7.ff).trans g8.ff) _ _ d2) (.cons (dp_mono ((((g4.ff.trans g5.ff).trans g6.ff).trans g7.ff).trans g8.ff) _ _ d3) (.cons (dp_mono ((g6.ff.trans g7.ff).trans g8.ff) _ _ d5) (.cons (dp_mono g8.ff _ _ d7) (.cons d8 (.cons (.int _) (.cons (.str _) (.cons (.str _) .nil)))))))))))))))
  obtain ⟨g9, d9⟩ := gw_lst (K := K) g8.fh hp9 hodd
  have G9 := (((((((g1.trans g2).trans g3).trans g4).trans g5).trans g6).trans g7).trans g8).trans g9
  obtain ⟨Fo, Wo, eo, hpo, hoo⟩ : ∃ Fo, Wd st cc Fo _ ∧ Same Fd Fo ∧ Fo p9 = some (.lst [.non, .bl true, .int 61, .int 60, .int (-1), .str "x", .str "A", .ref p1, .ref p2, .ref p3, .ref p5, .ref p7, .ref p8, .int (10 ^ 40), .str "name", .str "out"]) ∧ DpAll K Fo [.non, .bl true, .int 61, .int 60, .int (-1), .str "x", .str "A", .ref p1, .ref p2, .ref p3, .ref p5, .ref p7, .ref p8, .int (10 ^ 40), .str "name", .str "out"] odd16 :=
    ⟨_, W1.gw G9, G9.ff, upd_same, dpAll_mono g9.ff _ _ hodd⟩
  clear hodd d9 g9 G9 g1 g2 g3 g4 g5 g6 g7 g8 d1 d2 d3 d4 d5 d6 d7 d8
  refine ⟨_, rfl, st, cc, 7, rfl, Wo.sa, by decide, by decide, fun way o10 hw0 hw1 sa10 => ?_⟩
  have W10 := Wo.next sa10
  have ha10 := same_t (K := K) eo ha
  have hx10 := dpAll_mono eo _ _ hx
  have gt1 := gdAll_take gds sp
  have gt2 := gdAll_take gds (sp + 1)
  have dt1 := dep_take ds sp
  have dt2 := dep_take ds (sp + 1)
  have ws := wt_split ds sp
  have ws1 := wt_drop1 ds sp
  have ld : (ds.drop (sp + 1)).length = ds.length - (sp + 1) := List.length_drop
  have lt : (ds.take sp).length = min sp ds.length := List.length_take
  refine ⟨_, rfl, rfl, _, rfl, iteE (fun c => ?_) (fun c => ?_)⟩
  · -- one left out
    refine ⟨_, rfl, _, rfl, _, rfl, ?_⟩
    refine sl_to (K := K) (i := sp) W10.fh ha10 hx10 (fun r1 F11 H11 g11 d11 => ?_)
    have W11 := W10.gw g11
    refine ⟨_, rfl, _, rfl, _, _, rfl, rfl, _, rfl, ?_⟩
    dsimp only [tNoPart]
    refine sl_from (K := K) (i := sp + 1) (z := (sp : Int) + 1) (by omega) W11.fh (same_t g11.ff ha10) (dpAll_mono g11.ff _ _ hx10) (fun r2 F12 H12 g12 d12 => ?_)
    have d11' := dp_mono g12.ff _ _ d11
    cases d11' with
    | @tup a1 xs1 _ hs1' ha1 =>
    cases d12 with
    | @tup a2 xs2 _ hs2' ha2 =>
    refine cat_data (K := K) g12.fh hs1' hs2' ha1 ha2 ?_ (fun r3 F13 H13 g13 d13 => ?_)
    · rw [DpAll.len ha1, DpAll.len ha2, ld, lt]
      exact sz1000 (by omega)
    have G := (g11.trans g12).trans g13
    refine k _ _ _ _ (W10.gw G) (eo.trans G.ff) (.d d13) (.inl ⟨?_, ?_, ?_, fun es hes => ?_⟩)
    · rw [gd, gdAll_app, gt1.1, gt2.2]
      rfl
    · rw [PyData.depth, depthAll_app]
      omega
    · rw [wt, wtAll_app]
      omega
    · cases hes
      rw [List.length_append, ld, lt]
      omega
  refine ⟨_, rfl, rfl, _, rfl, iteE (fun c2 => ?_) (fun c2 => ?_)⟩
  · -- one more
    refine ⟨_, rfl, _, rfl, _, rfl, st, cc, 16, rfl, W10.sa, by decide, by decide, fun r11 o11 hr110 hr111 sa11 => ?_⟩
    have W11 := W10.next sa11
    obtain ⟨ov, od, hat, hmem, hov⟩ := DpAll.pick hoo hr110 (show r11 < (odd16.length : Nat) from hr111)
    obtain ⟨og, odp, owt⟩ := odd16_ok od hmem
    refine ⟨p9, _, r11, ov, rfl, rfl, .inl (.inl (W11.fh _ _ hpo)), hat, by show 1 ≤ sizeLine; decide, fun p12 hp12 => ?_⟩
    obtain ⟨g12, d12⟩ := gw_tup (K := K) (xs := [ov]) W11.fh hp12 (.cons hov .nil)
    cases d12 with
    | @tup a2 xs2 _ hs2' ha2 =>
    refine cat_data (K := K) g12.fh (same_t g12.ff ha10) hs2' (dpAll_mono g12.ff _ _ hx10) ha2 ?_ (fun r3 F13 H13 g13 d13 => ?_)
    · rw [DpAll.len ha2, lx]
      exact sz1000 (by show ds.length + 1 ≤ 1000; omega)
    have G := g12.trans g13
    refine k _ _ _ _ (W11.gw G) (eo.trans G.ff) (.d d13) (.inl ⟨?_, ?_, ?_, fun es hes => ?_⟩)
    · rw [gd, gdAll_app, gds, gdAll, gdAll, og]
      rfl
    · simp only [PyData.depth, PyData.depthAll, depthAll_app]
      omega
    · simp only [wt, wtAll, wtAll_app]
      omega
    · cases hes
      rw [List.length_append]
      exact Nat.le_refl _
  refine ⟨_, rfl, rfl, _, rfl, iteE (fun c3 => ?_) (fun c3 => ?_)⟩
  · -- a list
    refine ⟨_, rfl, a, xs, rfl, .inr (same_t W10.fh ha10), fun l hl => ?_⟩
    obtain ⟨g11, d11⟩ := gw_lst (K := K) W10.fh hl hx10
    refine k _ _ _ _ (W10.gw g11) (eo.trans g11.ff) (.d d11) (.inl ⟨by rw [gd]; exact gds, by rw [PyData.depth]; omega, by rw [wt]; omega, fun es hes => nomatch hes⟩)
  refine ⟨_, rfl, rfl, _, rfl, iteE (fun c4 => ?_) (fun c4 => ?_)⟩
  · -- one of eight
    refine ⟨by show 0 ≤ sizeLine; decide, fun q1 hq1 => ?_⟩
    obtain ⟨g1, d1⟩ := gw_tup (K := K) (xs := []) (ds := []) W10.fh hq1 .nil
    refine ⟨by show 1 ≤ sizeLine; decide, fun q2 hq2 => ?_⟩
    obtain ⟨g2, d2⟩ := gw_tup (K := K) (xs := [.str "out"]) g1.fh hq2 (.cons (.str _) .nil)
    refine ⟨by show 0 ≤ sizeLine; decide, fun q3 hq3 => ?_⟩
    obtain ⟨g3, d3⟩ := gw_tup (K := K) (xs := []) (ds := []) g2.fh hq3 .nil
    refine ⟨by show 2 ≤ sizeLine; decide, fun q4 hq4 => ?_⟩
    obtain ⟨g4, d4⟩ := gw_tup (K := K) (xs := [.str "out", .ref q3]) g3.fh hq4 (.cons (.str _) (.cons d3 .nil))
    refine ⟨by show 1 ≤ sizeLine; decide, fun q5 hq5 => ?_⟩
    obtain ⟨g5, d5⟩ := gw_tup (K := K) (xs := [.ref q4]) g4.fh hq5 (.cons d4 .nil)
    intro q6 hq6
    have g6 := Gw.new (o := HO.dK []) g5.fh hq6
    have G6 := ((((g1.trans g2).trans g3).trans g4).trans g5).trans g6
    refine ⟨by show 8 ≤ sizeLine; decide, fun q7 hq7 => ?_⟩
    have g7 := Gw.new (o := HO.lst [.non, .ref q1, .int 0, .str "out", .ref q2, .ref q5, .ref q6, .bl true]) g6.fh hq7
    have G7 := G6.trans g7
    obtain ⟨Fq, W11, eq, D1, D2, D5, D6, D7⟩ : ∃ Fq, Wd st cc Fq _ ∧ Same Fo Fq ∧ Dp K Fq (.ref q1) (.tuple []) ∧ Dp K Fq (.ref q2) (.tuple [.str "out"]) ∧ Dp K Fq (.ref q5) (.tuple [.tuple [.str "out", .tuple []]]) ∧ Fq q6 = some (.dK []) ∧ Fq q7 = some (HO.lst [.non, .ref q1, .int 0, .str "out", .ref q2, .ref q5, .ref q6, .bl true]) :=
      ⟨_, W10.gw G7, G7.ff, dp_mono (((((g2.ff.trans g3.ff).trans g4.ff).trans g5.ff).trans g6.ff).trans g7.ff) _ _ d1, dp_mono ((((g3.ff.trans g4.ff).trans g5.ff).trans g6.ff).trans g7.ff) _ _ d2, dp_mono (g6.ff.trans g7.ff) _ _ d5, g7.ff _ _ upd_same, upd_same⟩
    refine ⟨_, rfl, st, cc, 8, rfl, W11.sa, by decide, by decide, fun r11 o11 hr110 hr111 sa11 => ?_⟩
    have W12 := W11.next sa11
    have hl7 : SqL K _ q7 [.non, .ref q1, .int 0, .str "out", .ref q2, .ref q5, .ref q6, .bl true] := .inl (.inl (W12.fh _ _ D7))
    have small : ∀ d ∈ [PyData.none, .tuple [], .int 0, .str "out", .tuple [.str "out"], .tuple [.tuple [.str "out", .tuple []]], .bool true], gd d = true ∧ d.depth ≤ 4 ∧ wt d ≤ 3000 ∧ ∀ es, d = .tuple es → es.length ≤ 1 := by
      intro d hd
      simp only [List.mem_cons, List.not_mem_nil, or_false] at hd
      rcases hd with rfl | rfl | rfl | rfl | rfl | rfl | rfl
      · exact ⟨by decide +kernel, by decide +kernel, by decide +kernel, fun es h => nomatch h⟩
      · exact ⟨by decide +kernel, by decide +kernel, by decide +kernel, fun es h => by cases h; decide⟩
      · exact ⟨by decide +kernel, by decide +kernel, by decide +kernel, fun es h => nomatch h⟩
      · exact ⟨by decide +kernel, by decide +kernel, by decide +kernel, fun es h => nomatch h⟩
      · exact ⟨by decide +kernel, by decide +kernel, by decide +kernel, fun es h => by cases h; exact Nat.le_refl _⟩
      · exact ⟨by decide +kernel, by decide +kernel, by decide +kernel, fun es h => by cases h; exact Nat.le_refl _⟩
      · exact ⟨by decide +kernel, by decide +kernel, by decide +kernel, fun es h => nomatch h⟩
    have one : ∀ (j : Nat) (x : V) (d : PyData), r11 = (j : Int) → [V.non, .ref q1, .int 0, .str "out", .ref q2, .ref q5, .ref q6, .bl true][j]? = some x → Dp K Fq x d → d ∈ [PyData.none, .tuple [], .int 0, .str "out", .tuple [.str "out"], .tuple [.tuple [.str "out", .tuple []]], .bool true] →
        ∃ y e, atI [V.non, .ref q1, .int 0, .str "out", .ref q2, .ref q5, .ref q6, .bl true] r11 = some y ∧ Dt K Fq y e ∧ BentP ds e := fun j x d hj hxj hd hm => by
      obtain ⟨s1, s2, s3, s4⟩ := small d hm
      exact ⟨x, d, by rw [hj]; exact atI_nat hxj, .d hd, .inl ⟨s1, by omega, by omega, fun es h => by have := s4 es h; omega⟩⟩
    obtain ⟨y, e, hy, he, hb⟩ : ∃ y e, atI [V.non, .ref q1, .int 0, .str "out", .ref q2, .ref q5, .ref q6, .bl true] r11 = some y ∧ Dt K Fq y e ∧ BentP ds e := by
      rcases (show r11 = 0 ∨ r11 = 1 ∨ r11 = 2 ∨ r11 = 3 ∨ r11 = 4 ∨ r11 = 5 ∨ r11 = 6 ∨ r11 = 7 by omega) with z | z | z | z | z | z | z | z
      · exact one 0 _ _ z rfl .non (by simp)
      · exact one 1 _ _ z rfl D1 (by simp)
      · exact one 2 _ _ z rfl (.int 0) (by simp)
      · exact one 3 _ _ z rfl (.str "out") (by simp)
      · exact one 4 _ _ z rfl D2 (by simp)
      · exact one 5 _ _ z rfl D5 (by simp)
      · exact ⟨.ref q6, .dict [], by rw [z]; exact atI_nat (j := 6) rfl, .e D6, .inr rfl⟩
      · exact one 7 _ _ z rfl (.bl true) (by simp)
    refine ⟨q7, _, r11, y, rfl, rfl, hl7, hy, ?_⟩
    exact k _ _ _ _ W12 (eo.trans eq) he hb
  · -- another instead
    refine ⟨_, rfl, _, rfl, _, rfl, ?_⟩
    refine sl_to (K := K) (i := sp) W10.fh ha10 hx10 (fun r1 F11 H11 g11 d11 => ?_)
    have W11 := W10.gw g11
    refine ⟨_, rfl, _, rfl, st, cc, 16, rfl, W11.sa, by decide, by decide, fun r12 o12 hr120 hr121 sa12 => ?_⟩
    have W12 := W11.next sa12
    obtain ⟨ov, od, hat, hmem, hov⟩ := DpAll.pick (dpAll_mono g11.ff _ _ hoo) hr120 (show r12 < (odd16.length : Nat) from hr121)
    obtain ⟨og, odp, owt⟩ := odd16_ok od hmem
    refine ⟨p9, _, r12, ov, rfl, rfl, .inl (.inl (W12.fh _ _ (g11.ff _ _ hpo))), hat, by show 1 ≤ sizeLine; decide, fun p13 hp13 => ?_⟩
    obtain ⟨g13, d13⟩ := gw_tup (K := K) (xs := [ov]) W12.fh hp13 (.cons hov .nil)
    have d11' := dp_mono g13.ff _ _ d11
    cases d11' with
    | @tup a1 xs1 _ hs1' ha1 =>
    cases d13 with
    | @tup a2 xs2 _ hs2' ha2 =>
    refine cat_data (K := K) g13.fh hs1' hs2' ha1 ha2 ?_ (fun r3 F14 H14 g14 d14 => ?_)
    · rw [DpAll.len ha1, DpAll.len ha2, lt]
      exact sz1000 (by show min sp ds.length + 1 ≤ 1000; omega)
    have G14 := g13.trans g14
    have W14 := W12.gw G14
    refine ⟨_, rfl, _, rfl, _, _, rfl, rfl, _, rfl, ?_⟩
    dsimp only [tNoPart]
    refine sl_from (K := K) (i := sp + 1) (z := (sp : Int) + 1) (by omega) W14.fh (same_t (g11.ff.trans G14.ff) ha10) (dpAll_mono (g11.ff.trans G14.ff) _ _ hx10) (fun r4 F15 H15 g15 d15 => ?_)
    have d14' := dp_mono g15.ff _ _ d14
    cases d14' with
    | @tup a3 xs3 _ hs3' ha3 =>
    cases d15 with
    | @tup a4 xs4 _ hs4' ha4 =>
    refine cat_data (K := K) g15.fh hs3' hs4' ha3 ha4 ?_ (fun r5 F16 H16 g16 d16 => ?_)
    · rw [DpAll.len ha3, DpAll.len ha4, List.length_append, ld, lt]
      exact sz1000 (by show min sp ds.length + 1 + (ds.length - (sp + 1)) ≤ 1000; omega)
    have G := g15.trans g16
    refine k _ _ _ _ (W14.gw G) (((eo.trans g11.ff).trans G14.ff).trans G.ff) (.d d16) (.inl ⟨?_, ?_, ?_, fun es hes => ?_⟩)
    · rw [gd, gdAll_app, gdAll_app, gt1.1, gt2.2, gdAll, gdAll, og]
      rfl
    · simp only [PyData.depth, PyData.depthAll, depthAll_app]
      omega
    · simp only [wt, wtAll, wtAll_app]
      omega
    · cases hes
      rw [List.length_append, List.length_append, ld, lt]
      show min sp ds.length + 1 + (ds.length - (sp + 1)) ≤ ds.length + 1
      omega
end
end Tl

set_option Elab.async false
set_option linter.all false
set_option maxRecDepth 100000
set_option maxHeartbeats 16000000
namespace Tl
open PySem L2
abbrev sLaw : Stmt := top 28
mutual
theorem gd_lay : ∀ d : PyData, gd d = true → d.canLay0 = true
  | .none, _ => rfl
  | .bool _, _ => rfl
  | .int _, _ => rfl
  | .str s, h => by
    rw [gd, Bool.and_eq_true] at h
    rw [PyData.canLay0]
    exact h.2
  | .list ds, h => by rw [gd] at h; rw [PyData.canLay0]; exact gdAll_lay ds h
  | .tuple ds, h => by rw [gd] at h; rw [PyData.canLay0]; exact gdAll_lay ds h
  | .dict _, h => Bool.noConfusion h
theorem gdAll_lay : ∀ ds : List PyData, gdAll ds = true → PyData.canLayAll0 ds = true
  | [], _ => rfl
  | d :: ds, h => by
    rw [gdAll, Bool.and_eq_true] at h
    rw [PyData.canLayAll0, gd_lay d h.1, gdAll_lay ds h.2]
    rfl
end
theorem gd_shaped {d : PyData} (h : gd d = true) (hd : d.depth ≤ 64) : SeqAt.shaped d = true := by
  unfold SeqAt.shaped
  rw [gd_lay d h, decide_eq_true hd]
  rfl
theorem eqv_tup (es : List PyData) : PyData.eqv (.tuple es) (.tuple []) = es.isEmpty := by
  cases es with
  | nil => simp [PyData.eqv, PyData.eqvAll]
  | cons a r => simp [PyData.eqv, PyData.eqvAll]
theorem Thing.facts {d : PyData} (h : Thing d) : txt d = true ∧ d.showable = true ∧ d.depth ≤ 100 ∧ d.shown.length ≤ sizeLine := by
  rcases h with ⟨h1, h2, h3⟩ | rfl
  · exact ⟨gd_txt d h1, gd_show d h1, by omega, Nat.le_trans (Nat.le_trans (shown_le d h1) h3) (by decide)⟩
  · exact ⟨rfl, by decide +kernel, by decide +kernel, by decide +kernel⟩
theorem dt_gd {K : PySem.W.Frag} {H : Hp} {v : V} {d : PyData} (h : Dt K H v d) (hg : gd d = true) : Dp K H v d := by
  cases h with
  | d h => exact h
  | e _ => cases hg
theorem dt_gd' {K : PySem.W.Frag} {H : Hp} {v : V} {ds : List PyData} (h : Dt K H v (.tuple ds)) : Dp K H v (.tuple ds) := by
  cases h with
  | d h => exact h
theorem ints_rep (x : Int) (hx : 0 ≤ x) (hx2 : x ≤ 60) (n : Nat) : gdAll (List.replicate n [PyData.int x]).flatten = true ∧ wtAll (List.replicate n [PyData.int x]).flatten = n * 1932 ∧ PyData.depthAll (List.replicate n [PyData.int x]).flatten = 0 := by
  refine ⟨gdAll_rep (by rw [gdAll, gdAll, gd_int hx (by omega)]; rfl) n, wtAll_rep _ n, ?_⟩
  have := depthAll_rep [PyData.int x] n
  have e : PyData.depthAll [PyData.int x] = 0 := rfl
  omega
theorem cons_gen {e : St → Hp → VK → Prop} {es : St → Hp → (List V → Hp → Prop) → Prop} {σ : St} {H : Hp} {Q : List V → Hp → Prop} (R : V → Hp → Prop) (h1 : ∀ Q' : VK, (∀ v H', R v H' → Q' v H') → e σ H Q') (h2 : ∀ v H', R v H' → es σ H' (fun xs H2 => Q (v :: xs) H2)) : tCons e es σ H Q := h1 _ h2
section
variable {P : Program} {w : World} {K : PySem.W.Frag} {mg : Str → Option Value} {base : Heap}
structure Calls (P : Program) (w : World) (K : PySem.W.Frag) (mg : Str → Option Value) (base : Heap) where
  is_deed : Use P w K mg base "is_deed" ["thing"] 18 (spB K isDeedD)
  state : Use P w K mg base "_law_state" ["_law_script"] 1 (spState K)
  next : Use P w K mg base "_law_next" ["_law_state_here", "_law_below"] 1 spNext
  tree : Use P w K mg base "_law_tree" ["_law_state_here", "_law_most"] 2 (spTreeL K)
  deed : Use P w K mg base "_law_deed" ["_law_state_here", "_law_tree_here"] 11 (spLDeed K)
  lisdeed : Use P w K mg base "_law_is_deed" ["_law_thing"] 17 (spB K isDeedD)
  bent : Use P w K mg base "_law_bent" ["_law_state_here", "_law_deed_here"] 2 (spBent K)
theorem scLaw : FnScope ["_law_script", "_law_state_here", "_law_turn", "_law_tree_here", "_law_time", "_law_deed_here", "_law_far", "_law_bent_here", "_law_thing", "_law_before", "_law_found"] ["_law_script"] (defScope sLaw) := ⟨rfl, rfl, rfl, by decide +kernel, rfl, by decide +kernel, by decide +kernel⟩
theorem ok_law {f : Addr} {fd : FuncData} {s : Shared} {H : Hp} {a : Addr} {ns : List Int} (F : Fun K "law" "law" sLaw f fd) (T : Bl mg) (U : Calls P w K mg base) (hS : SqL K H a (ns.map V.int)) (e0 : Env0 P w K mg base callerA [] s H) :
    codeAny (model P w) callerA (.call (.ref f) ⟨[.ref a], []⟩) (CR CX0 [] P w H s (fun v _ => v = V.bl true) fun _ _ _ => False) s := by
  have hb := F.binds (ps := ["_law_script"]) fun _ _ _ _ _ _ us hl => match us, hl with | [_], _ => rfl
  have KX : K.In s.heap := e0.mod.kin.keeps fun b o q => (e0.bs b o q).1
  obtain ⟨Uis_deed, U_law_state, U_law_next, U_law_tree, U_law_deed, U_law_is_deed, U_law_bent⟩ := U
  refine run_at (k := 20) (vs := [V.ref a]) (us := [Value.ref a]) F scLaw ⟨rfl, by decide, by decide⟩ e0 (hb s [.ref a] KX rfl) (.cons rfl .nil) rfl (fun cdv hr => ?_)
  have hgu : (callerA.deeper (PyProof.Rows.envOfC "law" (defScope sLaw) s.heap.objs.size f cdv)).guards = some [] := rfl
  have hun : (callerA.deeper (PyProof.Rows.envOfC "law" (defScope sLaw) s.heap.objs.size f cdv)).units + 200 < cLine := by
    have := hr.un
    omega
  refine ⟨_, (pss_cons (ps_set (i := 1) scLaw.nd rfl (.inl rfl) (pe_call U_law_state.ok (hr.mono (by omega)) rfl U_law_state.m U_law_state.kp U_law_state.b .nil pass0 (pa_cons (pv 0) pa_nil)))
    (pss_cons (ps_for PassesOwn.never rfl (pi_range1 (by rfl) T.range (pa_cons pe_int pa_nil)) (pg_name (i := 2) scLaw.nd rfl (.inl rfl)) (pss_cons (ps_set (i := 3) scLaw.nd rfl (.inl rfl) (pe_call U_law_tree.ok (hr.mono (by omega)) rfl U_law_tree.m U_law_tree.kp U_law_tree.b .nil pass0 (pa_cons (pv 1) (pa_cons pe_int pa_nil))))
      (pss_one (ps_for PassesOwn.never rfl (pi_range1 (by rfl) T.range (pa_cons pe_int pa_nil)) (pg_name (i := 4) scLaw.nd rfl (.inl rfl)) (pss_cons (ps_set (i := 5) scLaw.nd rfl (.inl rfl) (pe_call U_law_deed.ok (hr.mono (by omega)) rfl U_law_deed.m U_law_deed.kp U_law_deed.b .nil pass0 (pa_cons (pv 1) (pa_cons (pv 3) pa_nil))))
        (pss_cons (ps_set (i := 6) scLaw.nd rfl (.inl rfl) (pe_tup (pa_cons pe_str (pa_cons (pe_op op_repA (pe_tup (pa_cons pe_int pa_nil)) (pe_call U_law_next.ok (hr.mono (by omega)) rfl U_law_next.m U_law_next.kp U_law_next.b .nil pass0 (pa_cons (pv 1) (pa_cons pe_int pa_nil)))) (pa_cons (pe_op op_repA (pe_tup (pa_cons pe_int pa_nil)) (pe_call U_law_next.ok (hr.mono (by omega)) rfl U_law_next.m U_law_next.kp U_law_next.b .nil pass0 (pa_cons (pv 1) (pa_cons pe_int pa_nil)))) (pa_cons (pe_call U_law_next.ok (hr.mono (by omega)) rfl U_law_next.m U_law_next.kp U_law_next.b .nil pass0 (pa_cons (pv 1) (pa_cons pe_int pa_nil))) pa_nil))))))
        (pss_cons (ps_set (i := 7) scLaw.nd rfl (.inl rfl) (pe_call U_law_bent.ok (hr.mono (by omega)) rfl U_law_bent.m U_law_bent.kp U_law_bent.b .nil pass0 (pa_cons (pv 1) (pa_cons (pv 5) pa_nil))))
        (pss_cons (ps_for PassesOwn.never rfl (pi_list (pe_lst (pa_cons (pv 5) (pa_cons (pv 7) (pa_cons (pe_ifExp (PW.pt (pw_and (pt_val (pe_callB (r := rIsi K) call_isi (by rfl) T.isi PyProof.Rows.boot_isinstance (pa_cons (pv 7) (pa_cons (b_tuple T) pa_nil)))) (pw_and1 (pt_cmpR (op_neD hr.units) (pv 7) (pe_tup pa_nil) (nomark _))))) (pe_call U_law_bent.ok (hr.mono (by omega)) rfl U_law_bent.m U_law_bent.kp U_law_bent.b .nil pass0 (pa_cons (pv 1) (pa_cons (pv 7) pa_nil))) pe_non) (pa_cons (pv 6) pa_nil)))))) (pg_name (i := 8) scLaw.nd rfl (.inl rfl)) (pss_cons (ps_set (i := 9) scLaw.nd rfl (.inl rfl) (pe_callB (call_reprD hgu hun) (by rfl) T.repr PyProof.Rows.boot_repr (pa_cons (pv 8) pa_nil)))
          (pss_cons (ps_set (i := 10) scLaw.nd rfl (.inl rfl) (pe_call Uis_deed.ok (hr.mono (by omega)) rfl Uis_deed.m Uis_deed.kp Uis_deed.b .nil pass0 (pa_cons (pv 8) pa_nil)))
          (pss_one (ps_if (PW.pt (pw_or (pt_not (pt_val (pe_callB (r := rIsi K) call_isi (by rfl) T.isi PyProof.Rows.boot_isinstance (pa_cons (pv 10) (pa_cons (b_bool T) pa_nil))))) (pw_or (pt_cmpR op_ne (pv 10) (pe_call U_law_is_deed.ok (hr.mono (by omega)) rfl U_law_is_deed.m U_law_is_deed.kp U_law_is_deed.b .nil pass0 (pa_cons (pv 8) pa_nil)) (nomark _)) (pw_or1 (pt_cmpR op_ne (pe_callB (call_reprD hgu hun) (by rfl) T.repr PyProof.Rows.boot_repr (pa_cons (pv 8) pa_nil)) (pv 9) (nomark _)))))) (pss_one (ps_ret pe_bl)) pss_nil)))))
        (pss_one (ps_if (pt_cmpR op_notBl (pe_call Uis_deed.ok (hr.mono (by omega)) rfl Uis_deed.m Uis_deed.kp Uis_deed.b .nil pass0 (pa_cons (pv 5) pa_nil)) pe_bl (nomark _)) (pss_one (ps_ret pe_bl)) pss_nil))))))))))
    (pss_one (ps_ret pe_bl)))), ?_⟩
  refine ⟨_, rfl, a, ns, rfl, hS, fun st cc H1 e1 hst sa1 => ?_⟩
  have W1 : Wd st cc (fun _ => none) H1 := ⟨fun b o q => (by cases q), rfl, sa1⟩
  refine ⟨4, rfl, by decide, by decide, ?_⟩
  refine for_range (n := 4) (fun i σ H6 => ∃ (F6 : Hp) (y2 y3 y4 y5 y6 y7 y8 y9 y10 : Option V), σ = [some (.ref a), some (.ref st), y2, y3, y4, y5, y6, y7, y8, y9, y10] ∧ Wd st cc F6 H6)
    ⟨_, none, none, none, none, none, none, none, none, none, rfl, W1⟩ (fun i σ H6 hi p => ?_) (fun σ H6 p => ?_)
  · obtain ⟨F6, y2, y3, y4, y5, y6, y7, y8, y9, y10, rfl, W6⟩ := p
    refine ⟨_, rfl, st, cc, F6, 9, rfl, W6, by decide, by decide, fun tv td F7 H7 W7 e7 dtv ttv wtv => ?_⟩
    refine ⟨4, rfl, by decide, by decide, ?_⟩
    refine for_range (n := 4) (fun i2 σ H8 => ∃ (F8 : Hp) (z2 z4 z5 z6 z7 z8 z9 z10 : Option V), σ = [some (.ref a), some (.ref st), z2, some tv, z4, z5, z6, z7, z8, z9, z10] ∧ Wd st cc F8 H8 ∧ Dp K F8 tv td)
      ⟨F7, _, _, _, _, _, _, _, _, rfl, W7, dtv⟩ (fun i2 σ H8 hi2 p => ?_) (fun σ H8 p => ?_)
    · obtain ⟨F8, z2, z4, z5, z6, z7, z8, z9, z10, rfl, W8, dtv8⟩ := p
      refine ⟨_, rfl, _, rfl, st, cc, F8, tv, td, rfl, W8, dtv8, ttv, by omega, fun dv ds F9 H9 W9 e9 ddv hD => ?_⟩
      obtain ⟨hD1, hD2, hD3, hD4, hD5, hD6⟩ := hD
      -- far
      refine ⟨by show 1 ≤ sizeLine; decide, fun p1 hp1 => ?_⟩
      obtain ⟨g1, d1⟩ := gw_tup (K := K) (xs := [.int 59]) W9.fh hp1 (.cons (.int _) .nil)
      have W10 := W9.gw g1
      refine ⟨_, rfl, st, cc, 12, rfl, W10.sa, by decide, by decide, fun n1 o1 hn10 hn11 sa1' => ?_⟩
      have W11 := W10.next sa1'
      cases d1 with
      | @tup _ xs1 _ hs1 ha1 =>
      refine rep_data (K := K) (n := n1) W11.fh hs1 ha1 (by omega) (by omega) (by rw [DpAll.len ha1]; show 1 ≤ 1000; decide) (fun r1 F12 H12 g12 d12 => ?_)
      have W12 := W11.gw g12
      refine ⟨by show 1 ≤ sizeLine; decide, fun p2 hp2 => ?_⟩
      obtain ⟨g2, d2⟩ := gw_tup (K := K) (xs := [.int 0]) W12.fh hp2 (.cons (.int _) .nil)
      have W13 := W12.gw g2
      refine ⟨_, rfl, st, cc, 13, rfl, W13.sa, by decide, by decide, fun n2 o2 hn20 hn21 sa2' => ?_⟩
      have W14 := W13.next sa2'
      cases d2 with
      | @tup _ xs2 _ hs2 ha2 =>
      refine rep_data (K := K) (n := n2) W14.fh hs2 ha2 (by omega) (by omega) (by rw [DpAll.len ha2]; show 1 ≤ 1000; decide) (fun r2 F15 H15 g15 d15 => ?_)
      have W15 := W14.gw g15
      refine ⟨_, rfl, st, cc, 63, rfl, W15.sa, by decide, by decide, fun n3 o3 hn30 hn31 sa3' => ?_⟩
      have W16 := W15.next sa3'
      refine ⟨by show 4 ≤ sizeLine; decide, fun p3 hp3 => ?_⟩
      obtain ⟨g16, d16⟩ := gw_tup (K := K) (xs := [.str "move", r1, r2, .int n3]) W16.fh hp3 (.cons (.str _) (.cons (dp_mono (g2.ff.trans g15.ff) _ _ d12) (.cons d15 (.cons (.int _) .nil))))
      have W17 := W16.gw g16
      have e17 := (((g1.ff.trans g12.ff).trans g2.ff).trans g15.ff).trans g16.ff
      have ddv17 := dp_mono e17 _ _ ddv
      -- bent
      refine ⟨_, rfl, _, rfl, st, cc, _, dv, ds, rfl, W17, ddv17, by omega, by omega, hD2, fun bv be F18 H18 W18 e18 dbv hbe => ?_⟩
      have tfar : Thing (.tuple [.str "move", .tuple (List.replicate n1.toNat [PyData.int 59]).flatten, .tuple (List.replicate n2.toNat [PyData.int 0]).flatten, .int n3]) := by
        have i1 := ints_rep 59 (by decide) (by decide) n1.toNat
        have i2 := ints_rep 0 (by decide) (by decide) n2.toNat
        have m1 : n1.toNat * 1932 ≤ 12 * 1932 := Nat.mul_le_mul_right _ (by omega)
        have m2 : n2.toNat * 1932 ≤ 13 * 1932 := Nat.mul_le_mul_right _ (by omega)
        have e4 : wt (.str "move") = 44 := by decide +kernel
        have e5 : wt (.int n3) = 1930 := rfl
        refine .inl ⟨?_, ?_, ?_⟩
        · simp only [gd, gdAll, i1.1, i2.1]
          have := gd_int hn30 (show n3 ≤ 100000 by omega)
          rw [gd] at this
          rw [this]
          decide +kernel
        · simp only [PyData.depth, PyData.depthAll, i1.2.2, i2.2.2]
          omega
        · rw [wt, wtAll, wtAll, wtAll, wtAll, wtAll, e4, e5, wt, wt, i1.2.1, i2.2.1]
          omega
      have tdeed : Thing (.tuple ds) := .inl ⟨by rw [gd]; exact hD2, by rw [PyData.depth]; omega, by rw [wt]; omega⟩
      have tbent : Thing be := by
        rcases hbe with ⟨b1, b2, b3, _⟩ | rfl
        · exact .inl ⟨b1, by omega, by omega⟩
        · exact .inr rfl
      have tail : ∀ (ev : V) (ed : PyData) (F19 H19 : Hp), Wd st cc F19 H19 → Same F18 F19 → Dt K F19 ev ed → Thing ed →
          ∀ p, H19 p = none → ∃ (Fz Hz : Hp) (xs : List V), Wd st cc Fz Hz ∧ Same F18 Fz ∧ Hz = upd H19 p (.lst [dv, bv, ev, .ref p3]) ∧ xs = [dv, bv, ev, .ref p3] ∧ ∀ x ∈ xs, ∃ d, Dt K Fz x d ∧ Thing d := fun ev ed F19 H19 W19 e19 dev ted p hp => by
        refine ⟨F19, _, _, W19.same (same_new hp), e19, rfl, rfl, ?_⟩
        simp only [List.forall_mem_cons]
        exact ⟨⟨_, .d (dp_mono (e18.trans e19) _ _ ddv17), tdeed⟩, ⟨_, dbv.mono e19, tbent⟩, ⟨_, dev, ted⟩, ⟨_, .d (dp_mono (e18.trans e19) _ _ d16), tfar⟩, fun x hx => absurd hx List.not_mem_nil⟩
      refine ⟨_, rfl, _, rfl, ?_⟩
      refine cons_gen (fun ev H19 => ∃ (ed : PyData) (F19 : Hp), Wd st cc F19 H19 ∧ Same F18 F19 ∧ Dt K F19 ev ed ∧ Thing ed) (fun Q q => ?_) (fun ev H19 p => ?_)
      · have tnone : Thing .none := .inl ⟨rfl, by decide, by decide⟩
        refine ⟨_, rfl, _, .ty "tuple", _, _, _, rfl, .ty "tuple", ty_data (dbv.mono W18.fh), kit_ty (kit_tup be), _, rfl, ?_⟩
        cases be with
        | tuple es =>
          have dbp := dt_gd' dbv
          obtain ⟨b1, b2, b3, b4⟩ : gd (.tuple es) = true ∧ (PyData.tuple es).depth ≤ PyData.depthAll ds + 5 ∧ wt (.tuple es) ≤ wtAll ds + 10000 ∧ ∀ es', PyData.tuple es = .tuple es' → es'.length ≤ ds.length + 1 := by
            rcases hbe with h | h
            · exact h
            · cases h
          have b5 := b4 es rfl
          refine iteT ?_
          refine ⟨_, rfl, by show 0 ≤ sizeLine; decide, fun p19 hp19 => ?_⟩
          obtain ⟨g19, d19⟩ := gw_tup (K := K) (xs := []) W18.fh hp19 .nil
          have W19 := W18.gw g19
          have dbv19 := dp_mono g19.ff _ _ dbp
          refine ⟨.tuple es, .tuple [], dp_mono W19.fh _ _ dbv19, dp_mono W19.fh _ _ d19, gd_shaped b1 (by omega), by decide, _, rfl, ?_⟩
          rw [eqv_tup]
          cases es with
          | nil => exact q _ _ ⟨_, _, W19, g19.ff, .d .non, tnone⟩
          | cons e0 er =>
            refine ⟨_, rfl, _, rfl, st, cc, _, bv, e0 :: er, rfl, W19, dbv19, by simp, by omega, by rw [gd] at b1; exact b1, fun cv ce F20 H20 W20 e20 dcv hce => ?_⟩
            refine q _ _ ⟨ce, F20, W20, g19.ff.trans e20, dcv, ?_⟩
            rw [PyData.depth] at b2
            rw [wt] at b3
            rcases hce with ⟨c1, c2, c3, _⟩ | rfl
            · exact .inl ⟨c1, by omega, by omega⟩
            · exact .inr rfl
        | none => exact q _ _ ⟨_, _, W18, Same.refl _, .d .non, tnone⟩
        | bool b => exact q _ _ ⟨_, _, W18, Same.refl _, .d .non, tnone⟩
        | int b => exact q _ _ ⟨_, _, W18, Same.refl _, .d .non, tnone⟩
        | str b => exact q _ _ ⟨_, _, W18, Same.refl _, .d .non, tnone⟩
        | list b => exact q _ _ ⟨_, _, W18, Same.refl _, .d .non, tnone⟩
        | dict b => exact q _ _ ⟨_, _, W18, Same.refl _, .d .non, tnone⟩
      obtain ⟨ed, F19, W19, e19, dev, ted⟩ := p
      refine ⟨_, rfl, by show 4 ≤ sizeLine; decide, fun p20 hp20 => ?_⟩
      obtain ⟨Fz, Hz, xs, Wz, ez, hz1, hz2, dz⟩ := tail ev ed F19 H19 W19 e19 dev ted p20 hp20
      refine ⟨p20, rfl, ⟨_, SqL.of upd_same⟩, ?_⟩
      have hz3 : Hz p20 = some (.lst [dv, bv, ev, .ref p3]) := by rw [hz1]; exact upd_same
      rw [← hz1]
      rw [hz2] at dz
      refine for_list (xs := [dv, bv, ev, .ref p3]) (fun i σ H21 => ∃ (z2 z4 z8 z9 z10 : Option V), σ = [some (.ref a), some (.ref st), z2, some tv, z4, some dv, some (.ref p3), some bv, z8, z9, z10] ∧ Wd st cc Fz H21 ∧ H21 p20 = some (.lst [dv, bv, ev, .ref p3]))
        ⟨_, _, _, _, _, rfl, Wz, hz3⟩ (fun i σ H21 _ p => ?_) (fun i x σ H21 hx p => ?_) (fun σ H21 p => ?_)
      · obtain ⟨_, _, _, _, _, _, _, h⟩ := p
        exact SqL.of h
      · obtain ⟨z2, z4, z8, z9, z10, rfl, W21, h21⟩ := p
        obtain ⟨d, hdt, hth⟩ := dz x (List.mem_of_getElem? hx)
        obtain ⟨htx2, hshow, hdep, hlen2⟩ := hth.facts
        clear hx
        refine ⟨_, rfl, x, d, rfl, hdt.mono W21.fh, hshow, hdep, hlen2, ?_⟩
        refine ⟨_, rfl, x, d, rfl, hdt.mono W21.fh, htx2, fun H22 s22 => ?_⟩
        have W22 := W21.same s22
        refine ⟨_, rfl, _, .ty "bool", _, _, _, rfl, .ty "bool", ty_data (.d (.bl (isDeedD d))), kit_ty (kit_bl (.bool (isDeedD d))), _, rfl, ?_⟩
        refine iteF ?_
        refine ⟨_, rfl, _, rfl, x, d, rfl, hdt.mono W22.fh, htx2, fun H23 s23 => ?_⟩
        have W23 := W22.same s23
        refine ⟨rfl, _, rfl, ?_⟩
        refine iteN (fun z => absurd rfl z) (fun _ => ?_)
        refine ⟨_, rfl, x, d, rfl, hdt.mono W23.fh, hshow, hdep, hlen2, _, rfl, rfl, _, rfl, ?_⟩
        refine iteN (fun z => absurd rfl z) (fun _ => ?_)
        exact ⟨_, _, _, _, _, rfl, W23, s23 _ _ (s22 _ _ h21)⟩
      · obtain ⟨z2, z4, z8, z9, z10, rfl, W21, h21⟩ := p
        have ddz := dp_mono (e18.trans ez) _ _ ddv17
        refine ⟨_, rfl, dv, .tuple ds, rfl, .d (dp_mono W21.fh _ _ ddz), gd_txt _ (by rw [gd]; exact hD2), fun H24 s24 => ?_⟩
        have W24 := W21.same s24
        rw [hD1]
        refine ⟨_, _, rfl, rfl, _, rfl, ?_⟩
        refine iteF ?_
        exact ⟨Fz, _, _, _, _, _, _, _, _, rfl, W24, dp_mono ((e9.trans e17).trans (e18.trans ez)) _ _ dtv8⟩
    · obtain ⟨F8, z2, z4, z5, z6, z7, z8, z9, z10, rfl, W8, dtv8⟩ := p
      exact ⟨F8, _, _, _, _, _, _, _, _, _, rfl, W8⟩
  · obtain ⟨F6, y2, y3, y4, y5, y6, y7, y8, y9, y10, rfl, W6⟩ := p
    rfl
end
end Tl

set_option Elab.async false
set_option linter.all false
set_option maxRecDepth 100000
set_option maxHeartbeats 16000000
namespace Tl
open PySem L2
section
variable {P : Program} {w : World} {K : PySem.W.Frag} {mg : Str → Option Value}
/-- a def as the top has left it -/
structure At (K : PySem.W.Frag) (mg : Str → Option Value) (x : Str) (st : Stmt) where
  f : Addr
  fd : FuncData
  F : Fun K x x st f fd
  m : mg x = some (.ref f)
/-- all defs of the text -/
structure Defs (K : PySem.W.Frag) (mg : Str → Option Value) where
  d_is_count : At K mg "is_count" sIsCount
  d_is_number : At K mg "is_number" sIsNumber
  d_is_tag : At K mg "is_tag" sIsTag
  d_is_path : At K mg "is_path" sIsPath
  d_is_tree : At K mg "is_tree" sIsTree
  d_room_behind : At K mg "room_behind" sRoom
  d_is_tag_and_kids : At K mg "is_tag_and_kids" sTagKids
  d_is_deed : At K mg "is_deed" sIsDeed
  d_has_word : At K mg "has_word" sHasWord
  d_is_of_form : At K mg "is_of_form" sOfForm
  d_law_state : At K mg "_law_state" sState
  d_law_next : At K mg "_law_next" sNext
  d_law_whole : At K mg "_law_whole" sWhole
  d_law_tree : At K mg "_law_tree" sTreeL
  d_law_places : At K mg "_law_places" sPlaces
  d_law_reach : At K mg "_law_reach" sReach
  d_law_deed : At K mg "_law_deed" sLDeed
  d_law_upto : At K mg "_law_upto" sUpto
  d_law_is_path : At K mg "_law_is_path" sLPath
  d_law_is_deed : At K mg "_law_is_deed" sLIsDeed
  d_law_bent : At K mg "_law_bent" sBent
  d_law : At K mg "law" sLaw
def use {base : Heap} {x : Str} {st : Stmt} {ps : List Str} {k : Nat} {sp : Sp} (d : At K mg x st) (b : Binds K d.fd ps []) (ok : FnOk P w K mg base CX0 k d.f d.fd ps sp) : Use P w K mg base x ps k sp := ⟨d.f, d.fd, ok, d.m, d.F.kp, b⟩
def calls (D : Defs K mg) (T : Bl mg) (C : Cs mg) {aF : Addr} (M : Fm K w aF) (mF : mg "FORMS" = some (.ref aF)) (mz : mg "zip" = none) (base : Heap) : Calls P w K mg base :=
  let uCount := use (P := P) (w := w) (base := base) D.d_is_count (D.d_is_count.F.binds (ps := ["thing"]) fun _ _ _ _ _ _ us hl => match us, hl with | [_], _ => rfl) (ok_count (k := 0) D.d_is_count.F T)
  let uNumber := use (P := P) (w := w) (base := base) D.d_is_number (D.d_is_number.F.binds (ps := ["thing", "most"]) fun _ _ _ _ _ _ us hl => match us, hl with | [_, _], _ => rfl) (ok_number (k := 1) D.d_is_number.F uCount (Nat.le_refl _) T)
  let uTag := use (P := P) (w := w) (base := base) D.d_is_tag (D.d_is_tag.F.binds (ps := ["thing"]) fun _ _ _ _ _ _ us hl => match us, hl with | [_], _ => rfl) (ok_tag (k := 0) D.d_is_tag.F T C)
  let uPath := use (P := P) (w := w) (base := base) D.d_is_path (D.d_is_path.F.binds (ps := ["thing"]) fun _ _ _ _ _ _ us hl => match us, hl with | [_], _ => rfl) (ok_path (k := 2) D.d_is_path.F uNumber (Nat.le_refl _) T C)
  let uTagKids := use (P := P) (w := w) (base := base) D.d_is_tag_and_kids (D.d_is_tag_and_kids.F.binds (ps := ["thing"]) fun _ _ _ _ _ _ us hl => match us, hl with | [_], _ => rfl) (ok_tagKids (k := 1) D.d_is_tag_and_kids.F uTag (Nat.le_refl _) T)
  let uRoom := use (P := P) (w := w) (base := base) D.d_room_behind (D.d_room_behind.F.binds (ps := ["thing", "levels", "room"]) fun _ _ _ _ _ _ us hl => match us, hl with | [_, _, _], _ => rfl) (ok_room D.d_room_behind.F D.d_room_behind.m uTagKids (Nat.le_refl _) T 13)
  let uTree := use (P := P) (w := w) (base := base) D.d_is_tree (D.d_is_tree.F.binds (ps := ["thing"]) fun _ _ _ _ _ _ us hl => match us, hl with | [_], _ => rfl) (ok_tree (k := 15) D.d_is_tree.F uRoom (Nat.le_refl _) C)
  let uForm := use (P := P) (w := w) (base := base) D.d_is_of_form (D.d_is_of_form.F.binds (ps := ["form", "thing"]) fun _ _ _ _ _ _ us hl => match us, hl with | [_, _], _ => rfl) (ok_form (k := 16) D.d_is_of_form.F uPath uTag uTree uNumber (by decide) (by decide) (by decide) (by decide) C)
  let uWord := use (P := P) (w := w) (base := base) D.d_has_word (D.d_has_word.F.binds (ps := ["thing"]) fun _ _ _ _ _ _ us hl => match us, hl with | [_], _ => rfl) (ok_word (k := 0) D.d_has_word.F M mF T)
  let uDeed := use (P := P) (w := w) (base := base) D.d_is_deed (D.d_is_deed.F.binds (ps := ["thing"]) fun _ _ _ _ _ _ us hl => match us, hl with | [_], _ => rfl) (ok_deed (k := 17) D.d_is_deed.F M mF uWord uForm (by decide) (by decide) T mz)
  let uState := use (P := P) (w := w) (base := base) D.d_law_state (D.d_law_state.F.binds (ps := ["_law_script"]) fun _ _ _ _ _ _ us hl => match us, hl with | [_], _ => rfl) (ok_state (k := 0) D.d_law_state.F T)
  let uNext := use (P := P) (w := w) (base := base) D.d_law_next (D.d_law_next.F.binds (ps := ["_law_state_here", "_law_below"]) fun _ _ _ _ _ _ us hl => match us, hl with | [_, _], _ => rfl) (ok_next (k := 0) D.d_law_next.F T)
  let uWhole := use (P := P) (w := w) (base := base) D.d_law_whole (D.d_law_whole.F.binds (ps := ["_law_found"]) fun _ _ _ _ _ _ us hl => match us, hl with | [_], _ => rfl) (ok_whole (k := 0) D.d_law_whole.F T)
  let uTreeL := use (P := P) (w := w) (base := base) D.d_law_tree (D.d_law_tree.F.binds (ps := ["_law_state_here", "_law_most"]) fun _ _ _ _ _ _ us hl => match us, hl with | [_, _], _ => rfl) (ok_treeL (k := 1) D.d_law_tree.F uNext (Nat.le_refl _) T)
  let uPlaces := use (P := P) (w := w) (base := base) D.d_law_places (D.d_law_places.F.binds (ps := ["_law_tree_here", "_law_path"]) fun _ _ _ _ _ _ us hl => match us, hl with | [_, _], _ => rfl) (ok_places D.d_law_places.F D.d_law_places.m T 10)
  let uReach := use (P := P) (w := w) (base := base) D.d_law_reach (D.d_law_reach.F.binds (ps := ["_law_tree_here", "_law_path"]) fun _ _ _ _ _ _ us hl => match us, hl with | [_, _], _ => rfl) (ok_reach (k := 0) D.d_law_reach.F T)
  let uLDeed := use (P := P) (w := w) (base := base) D.d_law_deed (D.d_law_deed.F.binds (ps := ["_law_state_here", "_law_tree_here"]) fun _ _ _ _ _ _ us hl => match us, hl with | [_, _], _ => rfl) (ok_ldeed (k := 10) D.d_law_deed.F uNext uPlaces uReach uTreeL (by decide) (by decide) (by decide) (by decide) T)
  let uUpto := use (P := P) (w := w) (base := base) D.d_law_upto (D.d_law_upto.F.binds (ps := ["_law_thing", "_law_top"]) fun _ _ _ _ _ _ us hl => match us, hl with | [_, _], _ => rfl) (ok_upto (k := 1) D.d_law_upto.F uWhole (by decide))
  let uLPath := use (P := P) (w := w) (base := base) D.d_law_is_path (D.d_law_is_path.F.binds (ps := ["_law_thing"]) fun _ _ _ _ _ _ us hl => match us, hl with | [_], _ => rfl) (ok_lpath (k := 2) D.d_law_is_path.F uUpto (by decide) T)
  let uLIsDeed := use (P := P) (w := w) (base := base) D.d_law_is_deed (D.d_law_is_deed.F.binds (ps := ["_law_thing"]) fun _ _ _ _ _ _ us hl => match us, hl with | [_], _ => rfl) (ok_lisdeed (k := 16) D.d_law_is_deed.F uLPath uTag uTree uUpto (by decide) (by decide) (by decide) (by decide) T)
  let uBent := use (P := P) (w := w) (base := base) D.d_law_bent (D.d_law_bent.F.binds (ps := ["_law_state_here", "_law_deed_here"]) fun _ _ _ _ _ _ us hl => match us, hl with | [_, _], _ => rfl) (ok_bent (k := 1) D.d_law_bent.F uNext (by decide) T)
  ⟨uDeed, uState, uNext, uTreeL, uLDeed, uLIsDeed, uBent⟩
/-- one def, from what the top has written -/
def at_mk {h : Heap} {x : Str} {st : Stmt} (X : K.In h) (G : h.Ns mainGlobals mg) {f : Addr} {od an : Option Addr} {sl : Array (Option Value)} {oc kV dc pm cd ct : Value} (a : PySem.W.nsIn K mainGlobals x = some (some (.ref f)))
    (l : K.lookup f = some ⟨oc, od, .func (PySem.W.fnOf x x (defArgs st) (defBody st) (defScope st) .none kV dc pm an cd ct), sl⟩) (c : PySem.W.codeIn K cd x = true) (k : PySem.W.keepIn K (.ref f) = true) : At K mg x st :=
  ⟨f, _, fun_mk (st := st) l c k, PySem.W.mg_of X G a⟩
end
theorem all_mk {P : Program} {w : World} {K : PySem.W.Frag} {h : Heap} {mg : Str → Option Value} {fa : Addr} (X : K.In h) (G : h.Ns mainGlobals mg) (hfa : mg "law" = some (.ref fa)) {t1 t2 t3 : Tok}
    {f1 : Addr} {od1 an1 : Option Addr} {sl1 : Array (Option Value)} {oc1 kV1 dc1 pm1 cd1 ct1 : Value}
    {f2 : Addr} {od2 an2 : Option Addr} {sl2 : Array (Option Value)} {oc2 kV2 dc2 pm2 cd2 ct2 : Value}
    {f3 : Addr} {od3 an3 : Option Addr} {sl3 : Array (Option Value)} {oc3 kV3 dc3 pm3 cd3 ct3 : Value}
    {f4 : Addr} {od4 an4 : Option Addr} {sl4 : Array (Option Value)} {oc4 kV4 dc4 pm4 cd4 ct4 : Value}
    {f5 : Addr} {od5 an5 : Option Addr} {sl5 : Array (Option Value)} {oc5 kV5 dc5 pm5 cd5 ct5 : Value}
    {f6 : Addr} {od6 an6 : Option Addr} {sl6 : Array (Option Value)} {oc6 kV6 dc6 pm6 cd6 ct6 : Value}
    {f7 : Addr} {od7 an7 : Option Addr} {sl7 : Array (Option Value)} {oc7 kV7 dc7 pm7 cd7 ct7 : Value}
    {f8 : Addr} {od8 an8 : Option Addr} {sl8 : Array (Option Value)} {oc8 kV8 dc8 pm8 cd8 ct8 : Value}
    {f9 : Addr} {od9 an9 : Option Addr} {sl9 : Array (Option Value)} {oc9 kV9 dc9 pm9 cd9 ct9 : Value}
    {f10 : Addr} {od10 an10 : Option Addr} {sl10 : Array (Option Value)} {oc10 kV10 dc10 pm10 cd10 ct10 : Value}
    {f11 : Addr} {od11 an11 : Option Addr} {sl11 : Array (Option Value)} {oc11 kV11 dc11 pm11 cd11 ct11 : Value}
    {f12 : Addr} {od12 an12 : Option Addr} {sl12 : Array (Option Value)} {oc12 kV12 dc12 pm12 cd12 ct12 : Value}
    {f13 : Addr} {od13 an13 : Option Addr} {sl13 : Array (Option Value)} {oc13 kV13 dc13 pm13 cd13 ct13 : Value}
    {f14 : Addr} {od14 an14 : Option Addr} {sl14 : Array (Option Value)} {oc14 kV14 dc14 pm14 cd14 ct14 : Value}
    {f15 : Addr} {od15 an15 : Option Addr} {sl15 : Array (Option Value)} {oc15 kV15 dc15 pm15 cd15 ct15 : Value}
    {f16 : Addr} {od16 an16 : Option Addr} {sl16 : Array (Option Value)} {oc16 kV16 dc16 pm16 cd16 ct16 : Value}
    {f17 : Addr} {od17 an17 : Option Addr} {sl17 : Array (Option Value)} {oc17 kV17 dc17 pm17 cd17 ct17 : Value}
    {f18 : Addr} {od18 an18 : Option Addr} {sl18 : Array (Option Value)} {oc18 kV18 dc18 pm18 cd18 ct18 : Value}
    {f19 : Addr} {od19 an19 : Option Addr} {sl19 : Array (Option Value)} {oc19 kV19 dc19 pm19 cd19 ct19 : Value}
    {f20 : Addr} {od20 an20 : Option Addr} {sl20 : Array (Option Value)} {oc20 kV20 dc20 pm20 cd20 ct20 : Value}
    {f21 : Addr} {od21 an21 : Option Addr} {sl21 : Array (Option Value)} {oc21 kV21 dc21 pm21 cd21 ct21 : Value}
    {f22 : Addr} {od22 an22 : Option Addr} {sl22 : Array (Option Value)} {oc22 kV22 dc22 pm22 cd22 ct22 : Value}
    {aF : Addr} {p1 : Addr} {p2 : Addr} {p3 : Addr} {p4 : Addr} {p5 : Addr} {p6 : Addr} {p7 : Addr} {h1 h2 h3 h4 h5 h6 h7 : Int} {q1 q2 q3 q4 q5 q6 q7 : Tok} {nF m1 m2 m3 m4 m5 m6 m7 : Nat} {o1 o2 o3 o4 o5 o6 o7 : Option Addr} {u1 u2 u3 u4 u5 u6 u7 : Array (Option Value)} {r1 r2 r3 r4 r5 r6 r7 r8 r9 r10 r11 r12 r13 r14 r15 r16 : Tok}
    (a1 : PySem.W.nsIn K mainGlobals "is_count" = some (some (.ref f1))) (l1 : K.lookup f1 = some ⟨oc1, od1, .func (PySem.W.fnOf "is_count" "is_count" (defArgs sIsCount) (defBody sIsCount) (defScope sIsCount) .none kV1 dc1 pm1 an1 cd1 ct1), sl1⟩) (c1 : PySem.W.codeIn K cd1 "is_count" = true) (k1 : PySem.W.keepIn K (.ref f1) = true)
    (a2 : PySem.W.nsIn K mainGlobals "is_number" = some (some (.ref f2))) (l2 : K.lookup f2 = some ⟨oc2, od2, .func (PySem.W.fnOf "is_number" "is_number" (defArgs sIsNumber) (defBody sIsNumber) (defScope sIsNumber) .none kV2 dc2 pm2 an2 cd2 ct2), sl2⟩) (c2 : PySem.W.codeIn K cd2 "is_number" = true) (k2 : PySem.W.keepIn K (.ref f2) = true)
    (a3 : PySem.W.nsIn K mainGlobals "is_tag" = some (some (.ref f3))) (l3 : K.lookup f3 = some ⟨oc3, od3, .func (PySem.W.fnOf "is_tag" "is_tag" (defArgs sIsTag) (defBody sIsTag) (defScope sIsTag) .none kV3 dc3 pm3 an3 cd3 ct3), sl3⟩) (c3 : PySem.W.codeIn K cd3 "is_tag" = true) (k3 : PySem.W.keepIn K (.ref f3) = true)
    (a4 : PySem.W.nsIn K mainGlobals "is_path" = some (some (.ref f4))) (l4 : K.lookup f4 = some ⟨oc4, od4, .func (PySem.W.fnOf "is_path" "is_path" (defArgs sIsPath) (defBody sIsPath) (defScope sIsPath) .none kV4 dc4 pm4 an4 cd4 ct4), sl4⟩) (c4 : PySem.W.codeIn K cd4 "is_path" = true) (k4 : PySem.W.keepIn K (.ref f4) = true)
    (a5 : PySem.W.nsIn K mainGlobals "is_tree" = some (some (.ref f5))) (l5 : K.lookup f5 = some ⟨oc5, od5, .func (PySem.W.fnOf "is_tree" "is_tree" (defArgs sIsTree) (defBody sIsTree) (defScope sIsTree) .none kV5 dc5 pm5 an5 cd5 ct5), sl5⟩) (c5 : PySem.W.codeIn K cd5 "is_tree" = true) (k5 : PySem.W.keepIn K (.ref f5) = true)
    (a6 : PySem.W.nsIn K mainGlobals "room_behind" = some (some (.ref f6))) (l6 : K.lookup f6 = some ⟨oc6, od6, .func (PySem.W.fnOf "room_behind" "room_behind" (defArgs sRoom) (defBody sRoom) (defScope sRoom) .none kV6 dc6 pm6 an6 cd6 ct6), sl6⟩) (c6 : PySem.W.codeIn K cd6 "room_behind" = true) (k6 : PySem.W.keepIn K (.ref f6) = true)
    (a7 : PySem.W.nsIn K mainGlobals "is_tag_and_kids" = some (some (.ref f7))) (l7 : K.lookup f7 = some ⟨oc7, od7, .func (PySem.W.fnOf "is_tag_and_kids" "is_tag_and_kids" (defArgs sTagKids) (defBody sTagKids) (defScope sTagKids) .none kV7 dc7 pm7 an7 cd7 ct7), sl7⟩) (c7 : PySem.W.codeIn K cd7 "is_tag_and_kids" = true) (k7 : PySem.W.keepIn K (.ref f7) = true)
    (a8 : PySem.W.nsIn K mainGlobals "is_deed" = some (some (.ref f8))) (l8 : K.lookup f8 = some ⟨oc8, od8, .func (PySem.W.fnOf "is_deed" "is_deed" (defArgs sIsDeed) (defBody sIsDeed) (defScope sIsDeed) .none kV8 dc8 pm8 an8 cd8 ct8), sl8⟩) (c8 : PySem.W.codeIn K cd8 "is_deed" = true) (k8 : PySem.W.keepIn K (.ref f8) = true)
    (a9 : PySem.W.nsIn K mainGlobals "has_word" = some (some (.ref f9))) (l9 : K.lookup f9 = some ⟨oc9, od9, .func (PySem.W.fnOf "has_word" "has_word" (defArgs sHasWord) (defBody sHasWord) (defScope sHasWord) .none kV9 dc9 pm9 an9 cd9 ct9), sl9⟩) (c9 : PySem.W.codeIn K cd9 "has_word" = true) (k9 : PySem.W.keepIn K (.ref f9) = true)
    (a10 : PySem.W.nsIn K mainGlobals "is_of_form" = some (some (.ref f10))) (l10 : K.lookup f10 = some ⟨oc10, od10, .func (PySem.W.fnOf "is_of_form" "is_of_form" (defArgs sOfForm) (defBody sOfForm) (defScope sOfForm) .none kV10 dc10 pm10 an10 cd10 ct10), sl10⟩) (c10 : PySem.W.codeIn K cd10 "is_of_form" = true) (k10 : PySem.W.keepIn K (.ref f10) = true)
    (a11 : PySem.W.nsIn K mainGlobals "_law_state" = some (some (.ref f11))) (l11 : K.lookup f11 = some ⟨oc11, od11, .func (PySem.W.fnOf "_law_state" "_law_state" (defArgs sState) (defBody sState) (defScope sState) .none kV11 dc11 pm11 an11 cd11 ct11), sl11⟩) (c11 : PySem.W.codeIn K cd11 "_law_state" = true) (k11 : PySem.W.keepIn K (.ref f11) = true)
    (a12 : PySem.W.nsIn K mainGlobals "_law_next" = some (some (.ref f12))) (l12 : K.lookup f12 = some ⟨oc12, od12, .func (PySem.W.fnOf "_law_next" "_law_next" (defArgs sNext) (defBody sNext) (defScope sNext) .none kV12 dc12 pm12 an12 cd12 ct12), sl12⟩) (c12 : PySem.W.codeIn K cd12 "_law_next" = true) (k12 : PySem.W.keepIn K (.ref f12) = true)
    (a13 : PySem.W.nsIn K mainGlobals "_law_whole" = some (some (.ref f13))) (l13 : K.lookup f13 = some ⟨oc13, od13, .func (PySem.W.fnOf "_law_whole" "_law_whole" (defArgs sWhole) (defBody sWhole) (defScope sWhole) .none kV13 dc13 pm13 an13 cd13 ct13), sl13⟩) (c13 : PySem.W.codeIn K cd13 "_law_whole" = true) (k13 : PySem.W.keepIn K (.ref f13) = true)
    (a14 : PySem.W.nsIn K mainGlobals "_law_tree" = some (some (.ref f14))) (l14 : K.lookup f14 = some ⟨oc14, od14, .func (PySem.W.fnOf "_law_tree" "_law_tree" (defArgs sTreeL) (defBody sTreeL) (defScope sTreeL) .none kV14 dc14 pm14 an14 cd14 ct14), sl14⟩) (c14 : PySem.W.codeIn K cd14 "_law_tree" = true) (k14 : PySem.W.keepIn K (.ref f14) = true)
    (a15 : PySem.W.nsIn K mainGlobals "_law_places" = some (some (.ref f15))) (l15 : K.lookup f15 = some ⟨oc15, od15, .func (PySem.W.fnOf "_law_places" "_law_places" (defArgs sPlaces) (defBody sPlaces) (defScope sPlaces) .none kV15 dc15 pm15 an15 cd15 ct15), sl15⟩) (c15 : PySem.W.codeIn K cd15 "_law_places" = true) (k15 : PySem.W.keepIn K (.ref f15) = true)
    (a16 : PySem.W.nsIn K mainGlobals "_law_reach" = some (some (.ref f16))) (l16 : K.lookup f16 = some ⟨oc16, od16, .func (PySem.W.fnOf "_law_reach" "_law_reach" (defArgs sReach) (defBody sReach) (defScope sReach) .none kV16 dc16 pm16 an16 cd16 ct16), sl16⟩) (c16 : PySem.W.codeIn K cd16 "_law_reach" = true) (k16 : PySem.W.keepIn K (.ref f16) = true)
    (a17 : PySem.W.nsIn K mainGlobals "_law_deed" = some (some (.ref f17))) (l17 : K.lookup f17 = some ⟨oc17, od17, .func (PySem.W.fnOf "_law_deed" "_law_deed" (defArgs sLDeed) (defBody sLDeed) (defScope sLDeed) .none kV17 dc17 pm17 an17 cd17 ct17), sl17⟩) (c17 : PySem.W.codeIn K cd17 "_law_deed" = true) (k17 : PySem.W.keepIn K (.ref f17) = true)
    (a18 : PySem.W.nsIn K mainGlobals "_law_upto" = some (some (.ref f18))) (l18 : K.lookup f18 = some ⟨oc18, od18, .func (PySem.W.fnOf "_law_upto" "_law_upto" (defArgs sUpto) (defBody sUpto) (defScope sUpto) .none kV18 dc18 pm18 an18 cd18 ct18), sl18⟩) (c18 : PySem.W.codeIn K cd18 "_law_upto" = true) (k18 : PySem.W.keepIn K (.ref f18) = true)
    (a19 : PySem.W.nsIn K mainGlobals "_law_is_path" = some (some (.ref f19))) (l19 : K.lookup f19 = some ⟨oc19, od19, .func (PySem.W.fnOf "_law_is_path" "_law_is_path" (defArgs sLPath) (defBody sLPath) (defScope sLPath) .none kV19 dc19 pm19 an19 cd19 ct19), sl19⟩) (c19 : PySem.W.codeIn K cd19 "_law_is_path" = true) (k19 : PySem.W.keepIn K (.ref f19) = true)
    (a20 : PySem.W.nsIn K mainGlobals "_law_is_deed" = some (some (.ref f20))) (l20 : K.lookup f20 = some ⟨oc20, od20, .func (PySem.W.fnOf "_law_is_deed" "_law_is_deed" (defArgs sLIsDeed) (defBody sLIsDeed) (defScope sLIsDeed) .none kV20 dc20 pm20 an20 cd20 ct20), sl20⟩) (c20 : PySem.W.codeIn K cd20 "_law_is_deed" = true) (k20 : PySem.W.keepIn K (.ref f20) = true)
    (a21 : PySem.W.nsIn K mainGlobals "_law_bent" = some (some (.ref f21))) (l21 : K.lookup f21 = some ⟨oc21, od21, .func (PySem.W.fnOf "_law_bent" "_law_bent" (defArgs sBent) (defBody sBent) (defScope sBent) .none kV21 dc21 pm21 an21 cd21 ct21), sl21⟩) (c21 : PySem.W.codeIn K cd21 "_law_bent" = true) (k21 : PySem.W.keepIn K (.ref f21) = true)
    (a22 : PySem.W.nsIn K mainGlobals "law" = some (some (.ref f22))) (l22 : K.lookup f22 = some ⟨oc22, od22, .func (PySem.W.fnOf "law" "law" (defArgs sLaw) (defBody sLaw) (defScope sLaw) .none kV22 dc22 pm22 an22 cd22 ct22), sl22⟩) (c22 : PySem.W.codeIn K cd22 "law" = true) (k22 : PySem.W.keepIn K (.ref f22) = true)
    (z1 : PySem.W.nsIn K mainGlobals "isinstance" = some none)
    (z2 : PySem.W.nsIn K mainGlobals "int" = some none)
    (z3 : PySem.W.nsIn K mainGlobals "bool" = some none)
    (z4 : PySem.W.nsIn K mainGlobals "str" = some none)
    (z5 : PySem.W.nsIn K mainGlobals "tuple" = some none)
    (z6 : PySem.W.nsIn K mainGlobals "list" = some none)
    (z7 : PySem.W.nsIn K mainGlobals "len" = some none)
    (z8 : PySem.W.nsIn K mainGlobals "all" = some none)
    (z9 : PySem.W.nsIn K mainGlobals "repr" = some none)
    (z10 : PySem.W.nsIn K mainGlobals "max" = some none)
    (z11 : PySem.W.nsIn K mainGlobals "range" = some none)
    (z12 : PySem.W.nsIn K mainGlobals "enumerate" = some none)
    (z13 : PySem.W.nsIn K mainGlobals "zip" = some none)
    (n1 : PySem.W.nsIn K mainGlobals "SIZE" = some (some (.int 60 t1)))
    (n2 : PySem.W.nsIn K mainGlobals "DEPTH" = some (some (.int 12 t2)))
    (n3 : PySem.W.nsIn K mainGlobals "SIGNS" = some (some (.int 8 t3)))
    (fF : PySem.W.nsIn K mainGlobals "FORMS" = some (some (.ref aF)))
    (fD : K.lookup aF = some ⟨.type "dict", none, .dict #[⟨h1, .str "name" q1, .ref p1⟩, ⟨h2, .str "put" q2, .ref p2⟩, ⟨h3, .str "out" q3, .ref p3⟩, ⟨h4, .str "move" q4, .ref p4⟩, ⟨h5, .str "swap" q5, .ref p5⟩, ⟨h6, .str "wrap" q6, .ref p6⟩, ⟨h7, .str "unwrap" q7, .ref p7⟩] nF, #[]⟩)
    (e1 : h1 = PyData.keyHash w.params "name")
    (e2 : h2 = PyData.keyHash w.params "put")
    (e3 : h3 = PyData.keyHash w.params "out")
    (e4 : h4 = PyData.keyHash w.params "move")
    (e5 : h5 = PyData.keyHash w.params "swap")
    (e6 : h6 = PyData.keyHash w.params "wrap")
    (e7 : h7 = PyData.keyHash w.params "unwrap")
    (fL : (aF == sysModules) = false)
    (g1 : K.lookup p1 = some ⟨.type "tuple", o1, .seq #[.str "path" r1, .str "tag" r2] m1, u1⟩)
    (g2 : K.lookup p2 = some ⟨.type "tuple", o2, .seq #[.str "path" r3, .str "number" r4, .str "tree" r5] m2, u2⟩)
    (g3 : K.lookup p3 = some ⟨.type "tuple", o3, .seq #[.str "path" r6] m3, u3⟩)
    (g4 : K.lookup p4 = some ⟨.type "tuple", o4, .seq #[.str "path" r7, .str "path" r8, .str "number" r9] m4, u4⟩)
    (g5 : K.lookup p5 = some ⟨.type "tuple", o5, .seq #[.str "path" r10, .str "path" r11] m5, u5⟩)
    (g6 : K.lookup p6 = some ⟨.type "tuple", o6, .seq #[.str "path" r12, .str "number" r13, .str "number" r14, .str "tag" r15] m6, u6⟩)
    (g7 : K.lookup p7 = some ⟨.type "tuple", o7, .seq #[.str "path" r16] m7, u7⟩)
    {s₁ : Shared} {base : Heap} {H : Hp} {a : Addr} {ns : List Int} (hS : SqL K H a (ns.map V.int)) (e0 : Env0 P w K mg base callerA [] s₁ H) :
    codeAny (model P w) callerA (.call (.ref fa) ⟨[.ref a], []⟩) (CR CX0 [] P w H s₁ (fun v _ => v = V.bl true) fun _ _ _ => False) s₁ := by
  have T : Bl mg := ⟨PySem.W.mg_none_of X G z1, PySem.W.mg_none_of X G z2, PySem.W.mg_none_of X G z3, PySem.W.mg_none_of X G z4, PySem.W.mg_none_of X G z5, PySem.W.mg_none_of X G z6, PySem.W.mg_none_of X G z7, PySem.W.mg_none_of X G z8, PySem.W.mg_none_of X G z9, PySem.W.mg_none_of X G z10, PySem.W.mg_none_of X G z11, PySem.W.mg_none_of X G z12⟩
  have cSIZE : ∃ t, mg "SIZE" = some (.int 60 t) := ⟨_, PySem.W.mg_of X G n1⟩
  have cDEPTH : ∃ t, mg "DEPTH" = some (.int 12 t) := ⟨_, PySem.W.mg_of X G n2⟩
  have cSIGNS : ∃ t, mg "SIGNS" = some (.int 8 t) := ⟨_, PySem.W.mg_of X G n3⟩
  have z_zip : mg "zip" = none := PySem.W.mg_none_of X G z13
  have M : Fm K w aF := fm_mk fD e1 e2 e3 e4 e5 e6 e7 fL g1 g2 g3 g4 g5 g6 g7
  have mF : mg "FORMS" = some (.ref aF) := PySem.W.mg_of X G fF
  have C : Cs mg := ⟨cSIZE, cDEPTH, cSIGNS⟩
  have D : Nonempty (Defs K mg) := ⟨⟨at_mk X G a1 l1 c1 k1, at_mk X G a2 l2 c2 k2, at_mk X G a3 l3 c3 k3, at_mk X G a4 l4 c4 k4, at_mk X G a5 l5 c5 k5, at_mk X G a6 l6 c6 k6, at_mk X G a7 l7 c7 k7, at_mk X G a8 l8 c8 k8, at_mk X G a9 l9 c9 k9, at_mk X G a10 l10 c10 k10, at_mk X G a11 l11 c11 k11, at_mk X G a12 l12 c12 k12, at_mk X G a13 l13 c13 k13, at_mk X G a14 l14 c14 k14, at_mk X G a15 l15 c15 k15, at_mk X G a16 l16 c16 k16, at_mk X G a17 l17 c17 k17, at_mk X G a18 l18 c18 k18, at_mk X G a19 l19 c19 k19, at_mk X G a20 l20 c20 k20, at_mk X G a21 l21 c21 k21, at_mk X G a22 l22 c22 k22⟩⟩
  obtain ⟨D⟩ := D
  have e : D.d_law.f = fa := by
    have := hfa.symm.trans D.d_law.m
    cases this
    rfl
  rw [← e]
  exact ok_law D.d_law.F T (calls D T C M mF z_zip base) hS e0
end Tl

open PySem PySem.W PyProof.Rows
set_option Elab.async false
set_option maxRecDepth 100000 in
set_option maxHeartbeats 0 in
theorem PySem.Challenge.cw_treelore_k03_deeds_or_not_holds : PySem.Challenge.rw_treelore_k03_deeds_or_not.Holds := by
  w_on; o_law; k_head; (case hw => w_witness2)
  k_fill
  refine Tl.walk_at_top (l := PySem.Challenge.rw_treelore_k03_deeds_or_not) (n := 63) rfl (by decide) rfl (fun w h Y => PySem.W.kIn_of Y) ?F
  case F =>
    intro w mg fa h KX G hmg s₁ base H a ns hlen hKb hNb hS e0
    refine' Tl.all_mk KX G hmg ?a1 ?l1 ?c1 ?k1 ?a2 ?l2 ?c2 ?k2 ?a3 ?l3 ?c3 ?k3 ?a4 ?l4 ?c4 ?k4 ?a5 ?l5 ?c5 ?k5 ?a6 ?l6 ?c6 ?k6 ?a7 ?l7 ?c7 ?k7 ?a8 ?l8 ?c8 ?k8 ?a9 ?l9 ?c9 ?k9 ?a10 ?l10 ?c10 ?k10 ?a11 ?l11 ?c11 ?k11 ?a12 ?l12 ?c12 ?k12 ?a13 ?l13 ?c13 ?k13 ?a14 ?l14 ?c14 ?k14 ?a15 ?l15 ?c15 ?k15 ?a16 ?l16 ?c16 ?k16 ?a17 ?l17 ?c17 ?k17 ?a18 ?l18 ?c18 ?k18 ?a19 ?l19 ?c19 ?k19 ?a20 ?l20 ?c20 ?k20 ?a21 ?l21 ?c21 ?k21 ?a22 ?l22 ?c22 ?k22 ?z1 ?z2 ?z3 ?z4 ?z5 ?z6 ?z7 ?z8 ?z9 ?z10 ?z11 ?z12 ?z13 ?n1 ?n2 ?n3 ?fF ?fD ?e1 ?e2 ?e3 ?e4 ?e5 ?e6 ?e7 ?fL ?g1 ?g2 ?g3 ?g4 ?g5 ?g6 ?g7 hS e0
    (case a1 => k_is)
    (case l1 => k_is)
    (case c1 => k_is)
    (case k1 => k_is)
    (case a2 => k_is)
    (case l2 => k_is)
    (case c2 => k_is)
    (case k2 => k_is)
    (case a3 => k_is)
    (case l3 => k_is)
    (case c3 => k_is)
    (case k3 => k_is)
    (case a4 => k_is)
    (case l4 => k_is)
    (case c4 => k_is)
    (case k4 => k_is)
    (case a5 => k_is)
    (case l5 => k_is)
    (case c5 => k_is)
    (case k5 => k_is)
    (case a6 => k_is)
    (case l6 => k_is)
    (case c6 => k_is)
    (case k6 => k_is)
    (case a7 => k_is)
    (case l7 => k_is)
    (case c7 => k_is)
    (case k7 => k_is)
    (case a8 => k_is)
    (case l8 => k_is)
    (case c8 => k_is)
    (case k8 => k_is)
    (case a9 => k_is)
    (case l9 => k_is)
    (case c9 => k_is)
    (case k9 => k_is)
    (case a10 => k_is)
    (case l10 => k_is)
    (case c10 => k_is)
    (case k10 => k_is)
    (case a11 => k_is)
    (case l11 => k_is)
    (case c11 => k_is)
    (case k11 => k_is)
    (case a12 => k_is)
    (case l12 => k_is)
    (case c12 => k_is)
    (case k12 => k_is)
    (case a13 => k_is)
    (case l13 => k_is)
    (case c13 => k_is)
    (case k13 => k_is)
    (case a14 => k_is)
    (case l14 => k_is)
    (case c14 => k_is)
    (case k14 => k_is)
    (case a15 => k_is)
    (case l15 => k_is)
    (case c15 => k_is)
    (case k15 => k_is)
    (case a16 => k_is)
    (case l16 => k_is)
    (case c16 => k_is)
    (case k16 => k_is)
    (case a17 => k_is)
    (case l17 => k_is)
    (case c17 => k_is)
    (case k17 => k_is)
    (case a18 => k_is)
    (case l18 => k_is)
    (case c18 => k_is)
    (case k18 => k_is)
    (case a19 => k_is)
    (case l19 => k_is)
    (case c19 => k_is)
    (case k19 => k_is)
    (case a20 => k_is)
    (case l20 => k_is)
    (case c20 => k_is)
    (case k20 => k_is)
    (case a21 => k_is)
    (case l21 => k_is)
    (case c21 => k_is)
    (case k21 => k_is)
    (case a22 => k_is)
    (case l22 => k_is)
    (case c22 => k_is)
    (case k22 => k_is)
    (case z1 => k_is)
    (case z2 => k_is)
    (case z3 => k_is)
    (case z4 => k_is)
    (case z5 => k_is)
    (case z6 => k_is)
    (case z7 => k_is)
    (case z8 => k_is)
    (case z9 => k_is)
    (case z10 => k_is)
    (case z11 => k_is)
    (case z12 => k_is)
    (case z13 => k_is)
    (case n1 => k_is)
    (case n2 => k_is)
    (case n3 => k_is)
    (case fF => k_is)
    (case fD => k_is)
    (case e1 => rfl)
    (case e2 => rfl)
    (case e3 => rfl)
    (case e4 => rfl)
    (case e5 => rfl)
    (case e6 => rfl)
    (case e7 => rfl)
    (case fL => rfl)
    (case g1 => k_is)
    (case g2 => k_is)
    (case g3 => k_is)
    (case g4 => k_is)
    (case g5 => k_is)
    (case g6 => k_is)
    (case g7 => k_is)

