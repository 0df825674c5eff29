import PyProof.Rows.All
import Wide.All
import OpenK.AllK
import Wide.FinOn
import HandS.ForMost
import HandS.IsInst
import HandS.TupAny
import HandS.TupMul
import HandS.Style
import HandS.Flow
import HandS.Walk
import KE.GoesMore
import HandS.FStrTup
import HandS.ExcValue
import HandS.ExcIs
import HandS.ExcField
import KE.KExcIs
import HandS.ExcInit
import HandS.WordsExc
import HandS.SortKw
import KE.DataMinMax
import KE.KeyNested
import KE.KDictKeyed
import HandS.Dict
import HandS.Zip
import HandS.RevTup
import HandS.More
import HandS.TryOnly
import HandS.IterVal
import PyProof.NeKinds
import HandS.Conv
import HandS.Deep
import PyProof.SliceSyntax
import HandS.WordsDict
import HandS.Replace
import HandS.SuiteRaise
import HandS.RaiseFrom
import HandS.ExcInitHot
import HandS.SetFor
import HandS.List
import HandS.Codes
import PyProof.Rows.IntBool
import KE.KDictPairs
import HandS.Steps
import KE.SortData
import KE.SortKeyHeap
import HandS.TupLe
import PyProof.EqKinds
import PyProof.FactsAll.dict
import PySem.Challenge.RW_treelore_k70_texts_of_trees
section
open PySem PySem.W PyProof.Rows
set_option Elab.async false
set_option maxRecDepth 100000 in
set_option maxHeartbeats 0 in
open_top tl_head for PySem.Challenge.rw_treelore_k70_texts_of_trees
end
set_option Elab.async false
set_option linter.all false
set_option maxRecDepth 100000
set_option maxHeartbeats 4000000
/-! Data in the heap, by value: what stays when the heap grows, what isinstance and len answer of it. -/
namespace Tl
open PySem L2
theorem same_new {H : Hp} {p : Addr} {o : HO} (h : H p = none) : Same H (upd H p o) := fun b u q => by
  rw [upd_ne (ne_of_none q h)]
  exact q
/-- what F does not know may change -/
theorem same_mut {F H : Hp} {p : Addr} {o : HO} (e : Same F H) (h : F p = none) : Same F (upd H p o) := fun b u q => by
  rw [upd_ne (ne_of_none q h)]
  exact e b u q
theorem same_rd {H H' : Hp} {a : Addr} {u : HO} (e : Same H H') (h : Rd H a u) : Rd H' a u := by
  rcases h with h | ⟨o, h⟩
  · exact .inl (e a _ h)
  · exact .inr ⟨o, e a _ h⟩
theorem same_t {K : PySem.W.Frag} {H H' : Hp} {a : Addr} {xs : List V} (e : Same H H') (h : SqT K H a xs) : SqT K H' a xs := by
  rcases h with h | h
  · exact .inl (same_rd e h)
  · exact .inr h
theorem same_l {K : PySem.W.Frag} {H H' : Hp} {a : Addr} {xs : List V} (e : Same H H') (h : SqL K H a xs) : SqL K H' a xs := by
  rcases h with h | h
  · exact .inl (same_rd e h)
  · exact .inr h
mutual
theorem dp_mono {K : PySem.W.Frag} {H H' : Hp} (e : Same H H') : ∀ (d : PyData) (v : V), Dp K H v d → Dp K H' v d
  | .none, _, h => by cases h; exact .non
  | .bool b, _, h => by cases h; exact .bl b
  | .int i, _, h => by cases h; exact .int i
  | .str x, _, h => by cases h; exact .str x
  | .list ds, _, h => by
    cases h with
    | lst hs ha => exact .lst (same_l e hs) (dpAll_mono e ds _ ha)
  | .tuple ds, _, h => by
    cases h with
    | tup hs ha => exact .tup (same_t e hs) (dpAll_mono e ds _ ha)
  | .dict _, _, h => by cases h
theorem dpAll_mono {K : PySem.W.Frag} {H H' : Hp} (e : Same H H') : ∀ (ds : List PyData) (vs : List V), DpAll K H vs ds → DpAll K H' vs ds
  | [], _, h => by cases h; exact .nil
  | d :: ds, _, h => by
    cases h with
    | cons h1 h2 => exact .cons (dp_mono e d _ h1) (dpAll_mono e ds _ h2)
end
/-- a thing of the law: data, or the empty dict -/
inductive Dt (K : PySem.W.Frag) (H : Hp) : V → PyData → Prop
  | d {v : V} {d : PyData} : Dp K H v d → Dt K H v d
  | e {a : Addr} : H a = some (.dK []) → Dt K H (.ref a) (.dict [])
theorem Dt.mono {K : PySem.W.Frag} {H H' : Hp} {v : V} {d : PyData} (e : Same H H') (h : Dt K H v d) : Dt K H' v d := by
  cases h with
  | d h => exact .d (dp_mono e _ _ h)
  | e h => exact .e (e _ _ h)
theorem DpAll.len {K : PySem.W.Frag} {H : Hp} : ∀ {vs : List V} {ds : List PyData}, DpAll K H vs ds → vs.length = ds.length
  | _, _, .nil => rfl
  | _, _, .cons _ h => by rw [List.length_cons, List.length_cons, DpAll.len h]
theorem DpAll.got {K : PySem.W.Frag} {H : Hp} : ∀ {vs : List V} {ds : List PyData} {i : Nat} {d : PyData}, DpAll K H vs ds → ds[i]? = some d → ∃ v, vs[i]? = some v ∧ Dp K H v d
  | _, _, _, _, .nil, e => by simp at e
  | _, _, 0, _, .cons h _, e => by simp at e; subst e; exact ⟨_, rfl, h⟩
  | _, _, i + 1, d, .cons _ h, e => by
    obtain ⟨v, h1, h2⟩ := DpAll.got (i := i) (d := d) h (by simpa using e)
    exact ⟨v, by simpa using h1, h2⟩
theorem DpAll.app {K : PySem.W.Frag} {H : Hp} : ∀ {vs ws : List V} {ds es : List PyData}, DpAll K H vs ds → DpAll K H ws es → DpAll K H (vs ++ ws) (ds ++ es)
  | _, _, _, _, .nil, h => h
  | _, _, _, _, .cons a b, h => .cons a (DpAll.app b h)
theorem DpAll.take {K : PySem.W.Frag} {H : Hp} : ∀ {vs : List V} {ds : List PyData} (n : Nat), DpAll K H vs ds → DpAll K H (vs.take n) (ds.take n)
  | _, _, 0, _ => .nil
  | _, _, _ + 1, .nil => .nil
  | _, _, n + 1, .cons a b => .cons a (DpAll.take n b)
theorem DpAll.drop {K : PySem.W.Frag} {H : Hp} : ∀ {vs : List V} {ds : List PyData} (n : Nat), DpAll K H vs ds → DpAll K H (vs.drop n) (ds.drop n)
  | _, _, 0, h => h
  | _, _, _ + 1, .nil => .nil
  | _, _, n + 1, .cons a b => DpAll.drop n b
theorem DpAll.rep {K : PySem.W.Frag} {H : Hp} {vs : List V} {ds : List PyData} (h : DpAll K H vs ds) : ∀ n : Nat, DpAll K H (List.replicate n vs).flatten (List.replicate n ds).flatten
  | 0 => .nil
  | n + 1 => by
    rw [List.replicate_succ, List.replicate_succ, List.flatten_cons, List.flatten_cons]
    exact DpAll.app h (DpAll.rep h n)
theorem DpAll.two {K : PySem.W.Frag} {H : Hp} : ∀ {vs : List V} {ds : List PyData}, DpAll K H vs ds → vs.length = 2 → ∃ x y a b, vs = [x, y] ∧ ds = [a, b] ∧ Dp K H x a ∧ Dp K H y b
  | _, _, .nil, e => by simp at e
  | _, _, .cons _ .nil, e => by simp at e
  | _, _, .cons h1 (.cons h2 .nil), _ => ⟨_, _, _, _, rfl, rfl, h1, h2⟩
  | _, _, .cons _ (.cons _ (.cons _ _)), e => by simp at e
/-! ### what isinstance answers -/
def tyName : PyData → String
  | .none => "NoneType"
  | .bool _ => "bool"
  | .int _ => "int"
  | .str _ => "str"
  | .list _ => "list"
  | .tuple _ => "tuple"
  | .dict _ => "dict"
@[reducible] def isStr : PyData → Bool
  | .str _ => true
  | _ => false
@[reducible] def isTup : PyData → Bool
  | .tuple _ => true
  | _ => false
@[reducible] def isInt : PyData → Bool
  | .int _ => true
  | .bool _ => true
  | _ => false
@[reducible] def isBl : PyData → Bool
  | .bool _ => true
  | _ => false
theorem kit_str (d : PyData) : kitB (tyName d) "str" = some (isStr d) := by cases d <;> (simp only [tyName, isStr]; decide +kernel)
theorem kit_tup (d : PyData) : kitB (tyName d) "tuple" = some (isTup d) := by cases d <;> (simp only [tyName, isTup]; decide +kernel)
theorem kit_int (d : PyData) : kitB (tyName d) "int" = some (isInt d) := by cases d <;> (simp only [tyName, isInt]; decide +kernel)
theorem kit_bl (d : PyData) : kitB (tyName d) "bool" = some (isBl d) := by cases d <;> (simp only [tyName, isBl]; decide +kernel)
/-! ### texts within are short -/
mutual
def txt : PyData → Bool
  | .str s => decide (s.length ≤ 1000) && PyData.strOk s
  | .list ds => txtAll ds
  | .tuple ds => txtAll ds
  | _ => true
def txtAll : List PyData → Bool
  | [] => true
  | d :: ds => txt d && txtAll ds
end
theorem txtAll_get : ∀ {ds : List PyData} {i : Nat} {d : PyData}, txtAll ds = true → ds[i]? = some d → txt d = true
  | [], _, _, _, e => by simp at e
  | a :: r, 0, d, h, e => by
    rw [txtAll, Bool.and_eq_true] at h
    simp at e
    subst e
    exact h.1
  | a :: r, i + 1, d, h, e => by
    rw [txtAll, Bool.and_eq_true] at h
    exact txtAll_get h.2 (by simpa using e)
theorem txt_str {s : Str} (h : txt (.str s) = true) : s.length ≤ 1000 ∧ PyData.strOk s = true := by
  rw [txt, Bool.and_eq_true] at h
  exact ⟨of_decide_eq_true h.1, h.2⟩
/-- a list of plain values can be compared -/
def flatD : PyData → Bool
  | .none => true
  | .bool _ => true
  | .int _ => true
  | .str s => PyData.strOk s
  | _ => false
theorem flat_all : ∀ ds : List PyData, ds.all flatD = true → PyData.canLayAll0 ds = true ∧ PyData.depthAll ds = 0
  | [], _ => ⟨rfl, rfl⟩
  | d :: r, h => by
    rw [List.all_cons, Bool.and_eq_true] at h
    obtain ⟨h1, h2⟩ := flat_all r h.2
    have h0 := h.1
    rw [PyData.canLayAll0, PyData.depthAll, h1, h2]
    cases d with
    | none => exact ⟨rfl, rfl⟩
    | bool b => exact ⟨rfl, rfl⟩
    | int b => exact ⟨rfl, rfl⟩
    | str b =>
      rw [flatD] at h0
      rw [PyData.canLay0, PyData.depth, h0]
      exact ⟨rfl, rfl⟩
    | list b => exact Bool.noConfusion h0
    | tuple b => exact Bool.noConfusion h0
    | dict b => exact Bool.noConfusion h0
theorem flat_shaped {ds : List PyData} (h : ds.all flatD = true) : SeqAt.shaped (.list ds) = true := by
  obtain ⟨h1, h2⟩ := flat_all ds h
  unfold SeqAt.shaped
  rw [PyData.canLay0, PyData.depth, h1, h2]
  rfl
theorem sz1000 {n : Nat} (h : n ≤ 1000) : n ≤ sizeLine := Nat.le_of_lt (small1000 h)
/-- the built-in names that are still the built-in's -/
structure Bl (mg : Str → Option Value) : Prop where
  isi : mg "isinstance" = none
  int : mg "int" = none
  bool : mg "bool" = none
  str : mg "str" = none
  tuple : mg "tuple" = none
  list : mg "list" = none
  len : mg "len" = none
  all : mg "all" = none
  repr : mg "repr" = none
  max : mg "max" = none
  range : mg "range" = none
  enum : mg "enumerate" = none
section
variable {X : Cx}
theorem b_int (T : Bl X.mg) {p : Pos} (hg : Gl X "int" := by rfl) : PE X (.Name "int" p) (tC (.ty "int")) := pe_bltn hg T.int PyProof.Rows.boot_int rfl
theorem b_bool (T : Bl X.mg) {p : Pos} (hg : Gl X "bool" := by rfl) : PE X (.Name "bool" p) (tC (.ty "bool")) := pe_bltn hg T.bool PyProof.Rows.boot_bool rfl
theorem b_str (T : Bl X.mg) {p : Pos} (hg : Gl X "str" := by rfl) : PE X (.Name "str" p) (tC (.ty "str")) := pe_bltn hg T.str PyProof.Rows.boot_str rfl
theorem b_tuple (T : Bl X.mg) {p : Pos} (hg : Gl X "tuple" := by rfl) : PE X (.Name "tuple" p) (tC (.ty "tuple")) := pe_bltn hg T.tuple PyProof.Rows.boot_tuple rfl
end
theorem iteD {p A B : Prop} [Decidable p] (h1 : p → A) (h2 : ¬ p → B) : if decide p = true then A else B := by
  by_cases h : p
  · rw [if_pos (decide_eq_true h)]
    exact h1 h
  · rw [if_neg (by rw [decide_eq_false h]; exact Bool.false_ne_true)]
    exact h2 h
/-! ### comprehensions whose parts leave all as it was -/
/-- a def of the program that is called: where it stands, and what it promises -/
structure Use (P : Program) (w : World) (K : PySem.W.Frag) (mg : Str → Option Value) (base : Heap) (x : Str) (ps : List Str) (k : Nat) (sp : Sp) where
  f : Addr
  fd : FuncData
  ok : FnOk P w K mg base CX0 k f fd ps sp
  m : mg x = some (.ref f)
  kp : PySem.W.keepIn K (.ref f) = true
  b : Binds K fd ps []
end Tl
set_option Elab.async false
set_option linter.all false
set_option maxRecDepth 100000
set_option maxHeartbeats 4000000
/-! Rules of our own: tuple * int of any small count, text * int, enumerate of a tuple, repr of data. -/
namespace Tl
open PySem PySem.Spec PyProof.Rows L2
open AutoSeq1 (wpAny_loadPart')
/-! ### enumerate(t), t a tuple -/
/-! ### repr of data -/
def rReprD (K : PySem.W.Frag) : List V → Hp → VK → Prop := fun vs H Q => ∃ (v : V) (d : PyData), vs = [v] ∧ Dt K H v d ∧ d.showable = true ∧ d.depth ≤ 100 ∧ d.shown.length ≤ sizeLine ∧ Q (.str d.shown) H
mutual
theorem noD {K : PySem.W.Frag} {H : Hp} : ∀ (d : PyData) {v : V}, Dp K H v d → d.hasDict = false
  | .none, _, _ => rfl
  | .bool _, _, _ => rfl
  | .int _, _, _ => rfl
  | .str _, _, _ => rfl
  | .list ds, _, h => by
    cases h with
    | lst _ ha => rw [PyData.hasDict]; exact noDAll ds ha
  | .tuple ds, _, h => by
    cases h with
    | tup _ ha => rw [PyData.hasDict]; exact noDAll ds ha
  | .dict _, _, h => by cases h
theorem noDAll {K : PySem.W.Frag} {H : Hp} : ∀ (ds : List PyData) {vs : List V}, DpAll K H vs ds → PyData.hasDictAll ds = false
  | [], _, _ => rfl
  | d :: ds, _, h => by
    cases h with
    | cons h1 h2 => rw [PyData.hasDictAll, noD d h1, noDAll ds h2]; rfl
end
theorem call_reprD {X : Cx} (hg : X.A.guards = some []) (hu : X.A.units + 200 < cLine) : CallR X (.builtin "repr") (rReprD X.K) := by
  intro pins s σ H vs us Q I r h
  obtain ⟨v, d, rfl, hd, hs, hdp, hz, q⟩ := h
  cases r with
  | cons r1 rr =>
    cases rr
    rename_i u
    cases hd with
    | d hd =>
      obtain ⟨as, hR⟩ := Dp.reads I d v u hd r1
      have fin : ∀ (t' : Tok) (k : Nat), EP X pins σ Q (.str d.shown t') { s with toks := k } := fun t' k => ⟨.str _, H, I.tok k, ⟨t', rfl⟩, q⟩
      cases hd with
      | non =>
        cases (show u = Value.none from r1)
        exact PySem.P.repr_of_none (fin _ _)
      | bl b =>
        cases (show u = Value.bool b from r1)
        refine PySem.P.repr_of_bool ?_
        have := fin s.toks (s.toks + 1)
        cases b <;> exact this
      | int i =>
        obtain ⟨t', rfl⟩ := r1
        exact PySem.P.repr_of_int (of_decide_eq_true hs) (fin _ _)
      | str x =>
        obtain ⟨t', rfl⟩ := r1
        exact PySem.P.repr_of_str (fin _ _) hz
      | @lst a xs ds hs2 ha =>
        cases (show u = Value.ref a from r1)
        have hnd : (PyData.list ds).hasDict = true → sysModules ∉ as := PyData.noDict_hsm (noD _ (.lst hs2 ha))
        exact repr_of_reads' hR hs hnd hg (by omega) (fun b o e => e) (fun h' t' tk hk => ⟨.str _, H, I.kept (t' := tk) hk, ⟨t', rfl⟩, q⟩) hz
      | @tup a xs ds hs2 ha =>
        cases (show u = Value.ref a from r1)
        have hnd : (PyData.tuple ds).hasDict = true → sysModules ∉ as := PyData.noDict_hsm (noD _ (.tup hs2 ha))
        exact repr_of_reads' hR hs hnd hg (by omega) (fun b o e => e) (fun h' t' tk hk => ⟨.str _, H, I.kept (t' := tk) hk, ⟨t', rfl⟩, q⟩) hz
    | @e a hd =>
      cases (show u = Value.ref a from r1)
      obtain ⟨hz2, hsm, vs, hkv, o, es, ep, h1, h2, h3⟩ := (show ObjOk X.prog X.w H s.heap a (.dK []) from I.hok a _ hd)
      cases hkv
      have hes : es.toList = [] := by
        have hp := h3.2.2.1
        generalize es.toList = l at hp
        cases hp
        rfl
      have hR : Reads s.heap (.ref a) (.dict []) (a :: [] ++ []) := Reads.dict h1 h2.1 h3.1 (by rw [hes]; exact .nil) (by rw [hes]; exact .nil)
      have hne : ¬ a = sysModules := fun z => by rw [z] at hsm; simp at hsm
      exact repr_of_reads' hR hs (fun _ z => hne (by simpa using Eq.symm (by simpa using z))) hg (by omega) (fun b o e => e) (fun h' t' tk hk => ⟨.str _, H, I.kept (t' := tk) hk, ⟨t', rfl⟩, q⟩) hz
end Tl
set_option Elab.async false
set_option linter.all false
set_option maxRecDepth 100000
set_option maxHeartbeats 4000000
/-! Data that is good to be shown: short texts, small numbers; how long its text can be. -/
namespace Tl
open PySem L2
mutual
def wt : PyData → Nat
  | .none => 4
  | .bool _ => 5
  | .int _ => 1930
  | .str s => 10 * s.length + 4
  | .list ds => 3 + wtAll ds
  | .tuple ds => 3 + wtAll ds
  | .dict _ => 2
def wtAll : List PyData → Nat
  | [] => 0
  | d :: ds => wt d + 2 + wtAll ds
end
mutual
def gd : PyData → Bool
  | .none => true
  | .bool _ => true
  | .int i => decide (i.natAbs < 10 ^ 41)
  | .str s => decide (s.length ≤ 1000) && PyData.strOk s
  | .list ds => gdAll ds
  | .tuple ds => gdAll ds
  | .dict _ => false
def gdAll : List PyData → Bool
  | [] => true
  | d :: ds => gd d && gdAll ds
end
mutual
theorem gd_txt : ∀ d : PyData, gd d = true → txt d = true
  | .none, _ => rfl
  | .bool _, _ => rfl
  | .int _, _ => rfl
  | .str s, h => by rw [gd] at h; rw [txt]; exact h
  | .list ds, h => by rw [gd] at h; rw [txt]; exact gdAll_txt ds h
  | .tuple ds, h => by rw [gd] at h; rw [txt]; exact gdAll_txt ds h
  | .dict _, h => Bool.noConfusion h
theorem gdAll_txt : ∀ ds : List PyData, gdAll ds = true → txtAll ds = true
  | [], _ => rfl
  | d :: ds, h => by
    rw [gdAll, Bool.and_eq_true] at h
    rw [txtAll, gd_txt d h.1, gdAll_txt ds h.2]
    rfl
end
theorem big41 : (10 : Nat) ^ 41 ≤ 2 ^ 1920 := Nat.le_trans (show (10 : Nat) ^ 41 ≤ 2 ^ 200 by decide) (Nat.pow_le_pow_right (by decide) (by decide))
mutual
theorem gd_show : ∀ d : PyData, gd d = true → d.showable = true
  | .none, _ => rfl
  | .bool _, _ => rfl
  | .int i, h => by
    rw [gd] at h
    have h2 : i.natAbs < 10 ^ 41 := of_decide_eq_true h
    rw [PyData.showable]
    apply decide_eq_true
    by_cases h0 : i.natAbs = 0
    · rw [h0]; decide
    · exact (Nat.log2_lt h0).mpr (Nat.lt_of_lt_of_le h2 big41)
  | .str s, h => rfl
  | .list ds, h => by rw [gd] at h; rw [PyData.showable]; exact gdAll_show ds h
  | .tuple ds, h => by rw [gd] at h; rw [PyData.showable]; exact gdAll_show ds h
  | .dict _, h => Bool.noConfusion h
theorem gdAll_show : ∀ ds : List PyData, gdAll ds = true → PyData.showableAll ds = true
  | [], _ => rfl
  | d :: ds, h => by
    rw [gdAll, Bool.and_eq_true] at h
    rw [PyData.showableAll, gd_show d h.1, gdAll_show ds h.2]
    rfl
end
theorem textFrom_le : ∀ (ts : List Str) (k : Nat) (acc : Str), (textFrom k acc ts).length ≤ acc.length + piled ts
  | [], k, acc => by rw [piled_nil]; exact Nat.le_refl _
  | t :: r, k, acc => by
    have ih := textFrom_le r (k + 1) (acc ++ (if k > 0 then ", " else "" : String) ++ t)
    have e : (acc ++ (if k > 0 then ", " else "" : String) ++ t).length ≤ acc.length + 2 + t.length := by
      rw [strLen_append, strLen_append]
      have : ((if k > 0 then ", " else "" : String) : Str).length ≤ 2 := by split <;> decide +kernel
      omega
    show (textFrom (k + 1) _ r).length ≤ _
    rw [piled_cons]
    omega
theorem listText_le (ts : List Str) : (listText ts).length ≤ piled ts + 2 := by
  unfold listText
  rw [strLen_append]
  have h := textFrom_le ts 0 "["
  have e1 : ((("[" : String) : Str)).length = 1 := rfl
  have e2 : ((("]" : String) : Str)).length = 1 := rfl
  rw [e1] at h
  rw [e2]
  omega
mutual
theorem shown_le : ∀ d : PyData, gd d = true → d.shown.length ≤ wt d
  | .none, _ => by decide +kernel
  | .bool true, _ => by decide +kernel
  | .bool false, _ => by decide +kernel
  | .int i, h => by
    rw [gd] at h
    have h2 : i.natAbs < 10 ^ 41 := of_decide_eq_true h
    have h4 : i.natAbs.log2 < 1920 := by
      by_cases h0 : i.natAbs = 0
      · rw [h0]; decide
      · exact (Nat.log2_lt h0).mpr (Nat.lt_of_lt_of_le h2 big41)
    have h3 := PyProof.Rows.int_text_len_1921 h4
    show (Str.ofString (toString i)).length ≤ 1930
    omega
  | .str s, h => by
    rw [gd, Bool.and_eq_true] at h
    have h2 := h.2
    rw [PyData.strOk, ← Array.all_toList, List.all_eq_true] at h2
    have h3 := StrLaws.reprText_len s fun c hc => Nat.lt_of_lt_of_le (of_decide_eq_true (h2 c hc)) (by decide)
    show (reprText s).length ≤ 10 * s.length + 4
    omega
  | .list ds, h => by
    rw [gd] at h
    have h2 := shownAll_le ds h
    have h3 := listText_le (PyData.shownAll ds)
    show (listText (PyData.shownAll ds)).length ≤ 3 + wtAll ds
    omega
  | .tuple ds, h => by
    rw [gd] at h
    have h2 := shownAll_le ds h
    have h3 := fmt_text (PyData.shownAll ds)
    show (tupleText (PyData.shownAll ds)).length ≤ 3 + wtAll ds
    omega
  | .dict _, h => Bool.noConfusion h
theorem shownAll_le : ∀ ds : List PyData, gdAll ds = true → piled (PyData.shownAll ds) ≤ wtAll ds
  | [], _ => Nat.le_refl _
  | d :: ds, h => by
    rw [gdAll, Bool.and_eq_true] at h
    have h1 := shown_le d h.1
    have h2 := shownAll_le ds h.2
    rw [PyData.shownAll, piled_cons, wtAll]
    omega
end
theorem gdAll_app : ∀ {ds es : List PyData}, gdAll (ds ++ es) = (gdAll ds && gdAll es)
  | [], es => by rw [List.nil_append, gdAll, Bool.true_and]
  | a :: r, es => by rw [List.cons_append, gdAll, gdAll, gdAll_app, Bool.and_assoc]
theorem wtAll_app : ∀ {ds es : List PyData}, wtAll (ds ++ es) = wtAll ds + wtAll es
  | [], es => by rw [List.nil_append, wtAll, Nat.zero_add]
  | a :: r, es => by rw [List.cons_append, wtAll, wtAll, wtAll_app]; omega
theorem depthAll_app : ∀ {ds es : List PyData}, PyData.depthAll (ds ++ es) = max (PyData.depthAll ds) (PyData.depthAll es)
  | [], es => by rw [List.nil_append, PyData.depthAll]; omega
  | a :: r, es => by rw [List.cons_append, PyData.depthAll, PyData.depthAll, depthAll_app]; omega
/-! ### trees -/
def tags6 : List Str := ["a", "b", "ab", "zz", "abcdefgh", "z"]
def tagOk (s : Str) : Prop := 1 ≤ s.length ∧ s.length ≤ 8 ∧ (PyData.strOk s = true ∧ s ∈ tags6)
def TrD : Nat → PyData → Prop
  | 0, _ => False
  | h + 1, d => ∃ (s : Str) (ks : List PyData), d = .tuple [.str s, .tuple ks] ∧ tagOk s ∧ ∀ k ∈ ks, TrD h k
theorem TrD.mono : ∀ {h h' : Nat} {d : PyData}, h ≤ h' → TrD h d → TrD h' d
  | 0, _, _, _, t => t.elim
  | h + 1, 0, _, e, _ => by omega
  | h + 1, h' + 1, d, e, t => by
    obtain ⟨s, ks, rfl, a, b⟩ := t
    exact ⟨s, ks, rfl, a, fun k hk => TrD.mono (by omega) (b k hk)⟩
theorem wt_node (s : Str) (ks : List PyData) : wt (.tuple [.str s, .tuple ks]) = 10 * s.length + 14 + wtAll ks := by
  simp only [wt, wtAll]
  omega
/-! ### the heap: data in F within H, the source of numbers at st -/
structure Gw (F H F' H' : Hp) : Prop where
  ff : Same F F'
  fh : Same F' H'
  hh : Same H H'
  nw : ∀ b, H b ≠ none → F b = none → F' b = none
theorem Gw.refl {F H : Hp} (e : Same F H) : Gw F H F H := ⟨Same.refl _, e, Same.refl _, fun _ _ h => h⟩
theorem Gw.trans {F H F1 H1 F2 H2 : Hp} (a : Gw F H F1 H1) (b : Gw F1 H1 F2 H2) : Gw F H F2 H2 :=
  ⟨a.ff.trans b.ff, b.fh, a.hh.trans b.hh, fun x h1 h2 => b.nw x (fun z => h1 (a.hh.free z)) (a.nw x h1 h2)⟩
theorem Gw.new {F H : Hp} {p : Addr} {o : HO} (e : Same F H) (h : H p = none) : Gw F H (upd F p o) (upd H p o) := by
  refine ⟨same_new (e.free h), fun b u q => ?_, same_new h, fun b h1 h2 => ?_⟩
  · by_cases z : b = p
    · subst z
      rw [upd_same] at q ⊢
      exact q
    · rw [upd_ne z] at q ⊢
      exact e b u q
  · rw [upd_ne (fun z => h1 (by rw [z]; exact h))]
    exact h2
end Tl
set_option Elab.async false
set_option linter.all false
set_option maxRecDepth 100000
set_option maxHeartbeats 4000000
namespace Tl
open PySem PySem.Spec PyProof.Rows L2
/-! An exception that a suite has put into another name, and that is looked at behind the try. -/
/-- the caught thing at a, of the class cls, its dict d -/
def CgO (cls : Value) (d : Option Addr) (a : Addr) : HO := .ext fun h => ∃ (oe : Obj) (vs : Array Value), h.get? a = some oe ∧ Zc cls d oe ∧ oe.data = .fields vs
section
variable {X : Cx}
/-- X(), an own error without a word -/
theorem pmk_own0 {C : Addr} {bmB : List Value} {B newId initId : String} {x : Str} {p pos : Pos} (F : ExcBaseFacts B newId initId bmB) (q : PySem.W.excIn X.K C bmB newId = true) (gC : X.mg x = some (.ref C)) (kC : PySem.W.keepIn X.K (.ref C) = true) (r : Raises X (.ref C)) (hg : Gl X x)
    (hdb : (x == ("__debug__" : Str)) = false := by decide) : PMk X (.Call (.Name x p) [] [] pos) (fun _ H Q => Q (.ref C) none H) := by
  intro pins s σ H Q I h
  refine wpAny_Call_Name_kw (ld_glob I hg gC ?_ hdb)
  refine PySem.W.callWith_K0 I.kIn kC ?_
  obtain ⟨bm, N, nm, qn, bs, hdct, sn, sub, ab, col, dd, k0, k1, k2, k3, k5, mN, hC, hN, hni, T⟩ := exc_obj I.kIn q
  exact wpAny_call_exc_subT F T hC hN hni (fun h' e hm => mk_of I hm r h (I.hok.gone hm.new)) (Nat.zero_le _)
end
end Tl
set_option Elab.async false
set_option linter.all false
set_option maxRecDepth 100000
set_option maxHeartbeats 4000000
set_option Elab.async false
set_option linter.all false
set_option maxRecDepth 100000
set_option maxHeartbeats 4000000
/-! Dicts whose keys are tuples of numbers, nested: kept as one object; the keys' own objects are told of by others. -/
namespace Tl
open PySem PySem.Spec PyProof.Rows L2
/-! ### keys -/
mutual
/-- numbers, and tuples of such -/
def noTxt : NestedKey → Bool
  | .num _ => true
  | .tup ks => noTxts ks
  | _ => false
def noTxts : List NestedKey → Bool
  | [] => true
  | k :: ks => noTxt k && noTxts ks
end
mutual
theorem hash_any : ∀ (k : NestedKey) (w w' : World), noTxt k = true → k.hash w = k.hash w'
  | .num i, _, _, _ => rfl
  | .tup ks, w, w', h => by rw [NestedKey.hash, NestedKey.hash, hashes_any ks w w' (by simpa [noTxt] using h)]
  | .none, _, _, h => by simp [noTxt] at h
  | .text _, _, _, h => by simp [noTxt] at h
theorem hashes_any : ∀ (ks : List NestedKey) (w w' : World), noTxts ks = true → NestedKey.hashes w ks = NestedKey.hashes w' ks
  | [], _, _, _ => rfl
  | k :: ks, w, w', h => by
    rw [noTxts, Bool.and_eq_true] at h
    rw [NestedKey.hashes, NestedKey.hashes, hash_any k w w' h.1, hashes_any ks w w' h.2]
end
mutual
/-- the value v is the key k -/
inductive KeyV (K : PySem.W.Frag) (H : Hp) : V → NestedKey → Prop
  | int (i : Int) : KeyV K H (.int i) (.num i)
  | tup {a : Addr} {xs : List V} {ks : List NestedKey} (h : SqT K H a xs) (r : KeyVs K H xs ks) : KeyV K H (.ref a) (.tup ks)
inductive KeyVs (K : PySem.W.Frag) (H : Hp) : List V → List NestedKey → Prop
  | nil : KeyVs K H [] []
  | cons {x : V} {k : NestedKey} {xs : List V} {ks : List NestedKey} (h : KeyV K H x k) (r : KeyVs K H xs ks) : KeyVs K H (x :: xs) (k :: ks)
end
section
variable {X : Cx} {pins : List (Addr × Obj)} {σ : L2.St} {H : Hp} {s : Shared}
mutual
theorem KeyV.is (I : Inv X pins σ H s) : ∀ {k : NestedKey} {v : V} {u : Value}, KeyV X.K H v k → RelV v u → NestedIs s.heap k u
  | .num i, v, u, h, r => by
    cases h
    obtain ⟨t, rfl⟩ := r
    exact .int i t
  | .tup ks, v, u, h, r => by
    cases h with
    | tup hs hr =>
      cases r
      obtain ⟨its, rv, ⟨o, h1, h2, n, h3⟩, _⟩ := I.tuple hs
      exact .tup h1 h2 h3 (by simpa using KeyVs.is I hr rv)
  | .none, _, _, h, _ => by cases h
  | .text _, _, _, h, _ => by cases h
theorem KeyVs.is (I : Inv X pins σ H s) : ∀ {ks : List NestedKey} {vs : List V} {us : List Value}, KeyVs X.K H vs ks → Vals vs us → NestedAll s.heap ks us
  | [], _, _, h, r => by cases h; cases r; exact .nil
  | k :: ks, _, _, h, r => by
    cases h with
    | cons a b =>
      cases r with
      | cons ra rb => exact .cons (KeyV.is I a ra) (KeyVs.is I b rb)
end
end
/-! ### the object -/
abbrev DU1 := NestedKey × Addr × V
abbrev DU2 := NestedKey × Addr × Value
def RelU (x : DU1) (y : DU2) : Prop := x.1 = y.1 ∧ x.2.1 = y.2.1 ∧ RelV x.2.2 y.2.2
def entU (w : World) (y : DU2) : DictEntry := ⟨y.1.hash w, .ref y.2.1, y.2.2⟩
def phiU (a : Addr) (xs : List DU1) (h : Heap) : Prop := ∃ (ys : List DU2) (o : Obj) (es : Array DictEntry) (ep : Nat), Paired RelU xs ys ∧ h.get? a = some o ∧ o.ExactDict ∧ o.data = .dict es ep ∧ ∀ w : World, es.toList = ys.map (entU w)
def DU (a : Addr) (xs : List DU1) : HO := .ext (phiU a xs)
theorem phiU_ok {P : Program} {w : World} {H : Hp} {h : Heap} {a : Addr} {xs : List DU1} (p : phiU a xs h) : ObjOk P w H h a (DU a xs) := by
  obtain ⟨ys, o, es, ep, h1, h2, h3, h4, h5⟩ := p
  exact ⟨⟨ys, o, es, ep, h1, h2, h3, h4, h5⟩, ⟨o, h2⟩, fun h1' h2' ⟨ys', o', es', ep', g1, g2, g3, g4, g5⟩ k => ⟨ys', o', es', ep', g1, k _ g2, g3, g4, g5⟩⟩
theorem DU_get {P : Program} {w : World} {H : Hp} {h : Heap} {a : Addr} {xs : List DU1} (x : HOk P w H h) (e : H a = some (DU a xs)) : phiU a xs h := (show ObjOk P w H h a (DU a xs) from x a _ e).1
/-- what else is known of such a dict -/
structure KeysU (K : PySem.W.Frag) (H : Hp) (a : Addr) (xs : List DU1) : Prop where
  sm : (a == sysModules) = false
  sz : xs.length ≤ sizeLine
  nd : (xs.map (·.1)).Nodup
  ks : ∀ x ∈ xs, KeyV K H (.ref x.2.1) x.1 ∧ x.1.depth ≤ 8 ∧ noTxt x.1 = true
theorem Paired.fst {xs : List DU1} {ys : List DU2} (h : Paired RelU xs ys) : xs.map (·.1) = ys.map (·.1) := by
  induction h with
  | nil => rfl
  | cons r t ih => rw [List.map_cons, List.map_cons, ih, r.1]
theorem Paired.memU {xs : List DU1} {ys : List DU2} (h : Paired RelU xs ys) : ∀ y ∈ ys, ∃ x ∈ xs, RelU x y := by
  induction h with
  | nil => intro y hy; cases hy
  | cons r t ih =>
    intro y hy
    rcases List.mem_cons.mp hy with rfl | hy
    · exact ⟨_, .head _, r⟩
    · obtain ⟨x, hx, e⟩ := ih y hy
      exact ⟨x, .tail _ hx, e⟩
def findU {α : Type} (xs : List (NestedKey × Addr × α)) (k : NestedKey) : Option α := (xs.find? fun x => decide (x.1 = k)).map (·.2.2)
def putU {α : Type} (xs : List (NestedKey × Addr × α)) (k : NestedKey) (b : Addr) (v : α) : List (NestedKey × Addr × α) :=
  if (findU xs k).isSome then xs.map (fun x => if x.1 = k then (x.1, x.2.1, v) else x) else xs ++ [(k, b, v)]
theorem Paired.findU {xs : List DU1} {ys : List DU2} (h : Paired RelU xs ys) (k : NestedKey) : RelO (Tl.findU xs k) ((atKey ys k).map (·.2)) := by
  induction h with
  | nil => exact True.intro
  | @cons x y xs ys r t ih =>
    obtain ⟨kx, ax, vx⟩ := x
    obtain ⟨ky, ay, vy⟩ := y
    obtain ⟨r1, r2, r3⟩ := r
    simp only at r1 r2 r3
    subst r1 r2
    unfold Tl.findU atKey at ih ⊢
    by_cases e : kx = k
    · rw [List.find?_cons_of_pos (by simpa using e), List.find?_cons_of_pos (by simpa using e)]
      exact r3
    · rw [List.find?_cons_of_neg (by simpa using e), List.find?_cons_of_neg (by simpa using e)]
      exact ih
theorem Paired.putU {xs : List DU1} {ys : List DU2} (h : Paired RelU xs ys) (k : NestedKey) (b : Addr) {v : V} {u : Value} (r : RelV v u) : Paired RelU (Tl.putU xs k b v) (storedH ys k b u) := by
  have f := Paired.findU h k
  have e : (Tl.findU xs k).isSome = (atKey ys k).isSome := by
    have := f.isSome_eq
    rw [Option.isSome_map] at this
    exact this
  unfold Tl.putU storedH
  rw [e]
  split
  · rename_i hc
    clear f e hc
    induction h with
    | nil => exact .nil
    | @cons x y xs ys r1 t ih =>
      obtain ⟨kx, ax, vx⟩ := x
      obtain ⟨ky, ay, vy⟩ := y
      obtain ⟨r1, r2, r3⟩ := r1
      simp only at r1 r2 r3
      subst r1 r2
      rw [List.map_cons, List.map_cons]
      refine .cons ?_ ih
      unfold putAt
      by_cases e : kx = k
      · rw [if_pos e, if_pos e]
        exact ⟨rfl, rfl, r⟩
      · rw [if_neg e, if_neg e]
        exact ⟨rfl, rfl, r3⟩
  · rename_i hc
    clear f e hc
    induction h with
    | nil => exact .cons ⟨rfl, rfl, r⟩ .nil
    | cons r1 t ih => exact .cons r1 ih
section
variable {X : Cx} {pins : List (Addr × Obj)} {σ : L2.St} {H : Hp} {s : Shared} {a b : Addr} {xs : List DU1} {k : NestedKey} {A : Around} {E : Value → Shared → Prop}
theorem DU_of (I : Inv X pins σ H s) (e : H a = some (DU a xs)) (ku : KeysU X.K H a xs) : ∃ ys, Paired RelU xs ys ∧ s.heap.DictOfH (nestedKind X.prog X.w) a ys ∧ ∀ y ∈ ys, noTxt y.1 = true := by
  obtain ⟨ys, o, es, ep, h1, h2, h3, h4, h5⟩ := DU_get I.hok e
  refine ⟨ys, h1, ⟨o, es, ep, h2, h3, h4, h5 X.w, fun y hy => ?_, by rw [← Paired.fst h1]; exact ku.nd⟩, fun y hy => ?_⟩
  · obtain ⟨x, hx, r1, r2, _⟩ := Paired.memU h1 y hy
    obtain ⟨q1, q2, _⟩ := ku.ks x hx
    rw [← r1, ← r2]
    exact ⟨q1.is I rfl, q2⟩
  · obtain ⟨x, hx, r1, r2, _⟩ := Paired.memU h1 y hy
    rw [← r1]
    exact (ku.ks x hx).2.2
/-- d[k], there -/
theorem u_getItem {v : V} {Q : Value → Shared → Prop} (hu : A.units + 20 < cLine) (I : Inv X pins σ H s) (e : H a = some (DU a xs)) (ku : KeysU X.K H a xs) (hk : KeyV X.K H (.ref b) k) (hd : k.depth ≤ 8) (hf : findU xs k = some v) (h : ∀ w' s', Inv X pins σ H s' → RelV v w' → Q w' s') :
    wpAny (model X.prog X.w) A (getItem (.ref a) (.ref b)) Q E s := by
  obtain ⟨ys, h1, dd, _⟩ := DU_of I e ku
  obtain ⟨w', hw, rw'⟩ := RelO.some_of (v := v) (o := (atKey ys k).map (·.2)) (by rw [← hf]; exact Paired.findU h1 k)
  obtain ⟨p, hp, hp2⟩ := Option.map_eq_some_iff.mp hw
  refine wpAny_getItem_heap (knd := nestedKind X.prog X.w) (k := k) (show A.units + 1 + 8 < cLine by omega) ⟨hk.is I rfl, hd⟩ dd hp ?_
  rw [hp2]
  exact h w' _ (I.tok _) rw'
end
/-! ### keys as data -/
mutual
def keyN : PyData → NestedKey
  | .int i => .num i
  | .tuple ds => .tup (keyNs ds)
  | _ => .none
def keyNs : List PyData → List NestedKey
  | [] => []
  | d :: ds => keyN d :: keyNs ds
end
mutual
/-- numbers, and tuples of such -/
def keyOk : PyData → Bool
  | .int _ => true
  | .tuple ds => keyOks ds
  | _ => false
def keyOks : List PyData → Bool
  | [] => true
  | d :: ds => keyOk d && keyOks ds
end
mutual
theorem keyN_inj : ∀ (a b : PyData), keyOk a = true → keyOk b = true → keyN a = keyN b → a = b
  | .int i, b, _, hb, e => by
    cases b with
    | int j => simp only [keyN, NestedKey.num.injEq] at e; rw [e]
    | tuple ds => simp [keyN] at e
    | _ => simp [keyOk] at hb
  | .tuple ds, b, ha, hb, e => by
    cases b with
    | int j => simp [keyN] at e
    | tuple es =>
      simp only [keyN, NestedKey.tup.injEq] at e
      rw [keyOk] at ha hb
      rw [keyNs_inj ds es ha hb e]
    | _ => simp [keyOk] at hb
  | .none, _, ha, _, _ => by simp [keyOk] at ha
  | .bool _, _, ha, _, _ => by simp [keyOk] at ha
  | .str _, _, ha, _, _ => by simp [keyOk] at ha
  | .list _, _, ha, _, _ => by simp [keyOk] at ha
  | .dict _, _, ha, _, _ => by simp [keyOk] at ha
theorem keyNs_inj : ∀ (a b : List PyData), keyOks a = true → keyOks b = true → keyNs a = keyNs b → a = b
  | [], [], _, _, _ => rfl
  | [], _ :: _, _, _, e => by simp [keyNs] at e
  | _ :: _, [], _, _, e => by simp [keyNs] at e
  | a :: as, b :: bs, ha, hb, e => by
    rw [keyOks, Bool.and_eq_true] at ha hb
    simp only [keyNs, List.cons.injEq] at e
    rw [keyN_inj a b ha.1 hb.1 e.1, keyNs_inj as bs ha.2 hb.2 e.2]
end
mutual
theorem keyN_noTxt : ∀ (d : PyData), keyOk d = true → noTxt (keyN d) = true
  | .int i, _ => by rw [keyN, noTxt]
  | .tuple ds, h => by rw [keyN, noTxt]; rw [keyOk] at h; exact keyNs_noTxt ds h
  | .none, h => by simp [keyOk] at h
  | .bool _, h => by simp [keyOk] at h
  | .str _, h => by simp [keyOk] at h
  | .list _, h => by simp [keyOk] at h
  | .dict _, h => by simp [keyOk] at h
theorem keyNs_noTxt : ∀ (ds : List PyData), keyOks ds = true → noTxts (keyNs ds) = true
  | [], _ => by rw [keyNs, noTxts]
  | d :: ds, h => by
    rw [keyOks, Bool.and_eq_true] at h
    rw [keyNs, noTxts, keyN_noTxt d h.1, keyNs_noTxt ds h.2]
    rfl
end
mutual
theorem keyN_depth : ∀ (d : PyData), (keyN d).depth ≤ d.depth
  | .int i => by rw [keyN, NestedKey.depth]; exact Nat.zero_le _
  | .tuple ds => by
    rw [keyN, NestedKey.depth, PyData.depth]
    have := keyNs_depth ds
    omega
  | .none => by rw [keyN, NestedKey.depth]; exact Nat.zero_le _; all_goals simp
  | .bool _ => by rw [keyN, NestedKey.depth]; exact Nat.zero_le _; all_goals simp
  | .str _ => by rw [keyN, NestedKey.depth]; exact Nat.zero_le _; all_goals simp
  | .list _ => by rw [keyN, NestedKey.depth]; exact Nat.zero_le _; all_goals simp
  | .dict _ => by rw [keyN, NestedKey.depth]; exact Nat.zero_le _; all_goals simp
theorem keyNs_depth : ∀ (ds : List PyData), NestedKey.depthAll (keyNs ds) ≤ PyData.depthAll ds
  | [] => by rw [keyNs, NestedKey.depthAll]; exact Nat.zero_le _
  | d :: ds => by
    have h1 := keyN_depth d
    have h2 := keyNs_depth ds
    rw [keyNs, NestedKey.depthAll, PyData.depthAll]
    omega
end
end Tl
set_option Elab.async false
set_option linter.all false
set_option maxRecDepth 100000
set_option maxHeartbeats 4000000
/-! A second layer over the hand layer: values are data or named objects; a memory M tells the objects that may change, all else is data for good. -/
namespace Tl
open PySem L2
mutual
/-- data at v, as F knows it; the empty dict may stand anywhere -/
inductive Dx (K : PySem.W.Frag) (F : Hp) : V → PyData → Prop
  | non : Dx K F .non .none
  | bl (b : Bool) : Dx K F (.bl b) (.bool b)
  | int (i : Int) : Dx K F (.int i) (.int i)
  | str (x : Str) : Dx K F (.str x) (.str x)
  | lst {a : Addr} {xs : List V} {ds : List PyData} : F a = some (.lst xs) → DxL K F xs ds → Dx K F (.ref a) (.list ds)
  | tup {a : Addr} {xs : List V} {ds : List PyData} : SqT K F a xs → DxL K F xs ds → Dx K F (.ref a) (.tuple ds)
  | dic {a : Addr} : F a = some (.dK []) → Dx K F (.ref a) (.dict [])
inductive DxL (K : PySem.W.Frag) (F : Hp) : List V → List PyData → Prop
  | nil : DxL K F [] []
  | cons {v : V} {vs : List V} {d : PyData} {ds : List PyData} : Dx K F v d → DxL K F vs ds → DxL K F (v :: vs) (d :: ds)
end
/-- one of two, by a truth -/
inductive IfB (c : Bool) (A B : Prop) : Prop where
  | t (h : c = true) (q : A) : IfB c A B
  | f (h : c = false) (q : B) : IfB c A B
theorem IfB.ite {c : Bool} {A B : Prop} (h : IfB c A B) : if c = true then A else B := by
  cases h with
  | t h q => rw [if_pos h]; exact q
  | f h q => rw [h, if_neg Bool.false_ne_true]; exact q
theorem IfB.of {c : Bool} {A B : Prop} (h1 : c = true → A) (h2 : c = false → B) : IfB c A B := by
  cases c with
  | true => exact .t rfl (h1 rfl)
  | false => exact .f rfl (h2 rfl)
theorem IfB.d {p A B : Prop} [Decidable p] (h1 : p → A) (h2 : ¬ p → B) : IfB (decide p) A B := IfB.of (fun h => h1 (of_decide_eq_true h)) fun h => h2 (of_decide_eq_false h)
theorem IfB.n {p A B : Prop} [Decidable p] (h1 : ¬ p → B) (h2 : p → A) : IfB (decide p) A B := IfB.d h2 h1
theorem IfB.not {c : Bool} {A B : Prop} (h : IfB c B A) : IfB (!c) A B := by
  cases h with
  | t h q => exact .f (by rw [h]; rfl) q
  | f h q => exact .t (by rw [h]; rfl) q
def ng : Bool → Bool → Bool
  | true, b => !b
  | false, b => b
theorem IfB.ngt {c : Bool} {A B : Prop} (h : IfB c B A) : IfB (ng true c) A B := h.not
theorem IfB.ngf {c : Bool} {A B : Prop} (h : IfB c A B) : IfB (ng false c) A B := h
theorem IfB.yes {p A B : Prop} [Decidable p] (h : p) (q : A) : IfB (decide p) A B := .t (decide_eq_true h) q
theorem IfB.no {p A B : Prop} [Decidable p] (h : ¬ p) (q : B) : IfB (decide p) A B := .f (decide_eq_false h) q
/-- a value -/
inductive W where
  | d (x : PyData)
  | r (a : Addr)
  | o (v : V)
  /-- a caught error: where it stands, its class, its dict, its fields -/
  | x (a C : Addr) (dd : Option Addr) (fs : List (Str × PyData))
/-- an object that may change -/
inductive MO where
  | lst (ws : List W)
  | src (b : Bool)
  | dK (kvs : List (Key × W))
  /-- a dict keyed by numbers in tuples -/
  | dT (kvs : List (PyData × W))
  | ins (C dx : Addr) (fs : List (Str × W))
  | exc (C : Addr) (dd : Option Addr)
  /-- a dict while it is walked -/
  | lkK (ob : Obj) (kv : List (Key × V)) (kvs : List (Key × W))
abbrev Mem := Addr → Option MO
abbrev EnvD := List (Option W)
def mset (M : Mem) (a : Addr) (o : MO) : Mem := fun b => if b = a then some o else M b
def mdel (M : Mem) (a : Addr) : Mem := fun b => if b = a then none else M b
theorem mset_same {M : Mem} {a : Addr} {o : MO} : mset M a o a = some o := if_pos rfl
theorem mset_ne {M : Mem} {a b : Addr} {o : MO} (h : b ≠ a) : mset M a o b = M b := if_neg h
theorem mdel_same {M : Mem} {a : Addr} : mdel M a a = none := if_pos rfl
theorem mdel_ne {M : Mem} {a b : Addr} (h : b ≠ a) : mdel M a b = M b := if_neg h
theorem mset_mset {M : Mem} {a : Addr} {o u : MO} : mset (mset M a o) a u = mset M a u := by
  funext b
  by_cases h : b = a
  · rw [h, mset_same, mset_same]
  · rw [mset_ne h, mset_ne h, mset_ne h]
theorem mdel_mset {M : Mem} {a : Addr} {o : MO} : mdel (mset M a o) a = mdel M a := by
  funext b
  by_cases h : b = a
  · rw [h, mdel_same, mdel_same]
  · rw [mdel_ne h, mdel_ne h, mset_ne h]
theorem mdel_none {M : Mem} {a : Addr} (h : M a = none) : mdel M a = M := by
  funext b; unfold mdel; split
  · rename_i e; rw [e, h]
  · rfl
theorem mset_id {M : Mem} {a : Addr} {o : MO} (h : M a = some o) : mset M a o = M := by
  funext b; unfold mset; split
  · rename_i e; rw [e, h]
  · rfl
mutual
theorem Dx.mono {K : PySem.W.Frag} {H H' : Hp} (e : Same H H') : ∀ (d : PyData) (v : V), Dx K H v d → Dx K H' v d
  | .none, _, h => by cases h; exact .non
  | .bool b, _, h => by cases h; exact .bl b
  | .int i, _, h => by cases h; exact .int i
  | .str x, _, h => by cases h; exact .str x
  | .list ds, _, h => by
    cases h with
    | lst hs ha => exact .lst (e _ _ hs) (DxL.mono e ds _ ha)
  | .tuple ds, _, h => by
    cases h with
    | tup hs ha => exact .tup (same_t e hs) (DxL.mono e ds _ ha)
  | .dict _, _, h => by cases h with | dic h => exact .dic (e _ _ h)
theorem DxL.mono {K : PySem.W.Frag} {H H' : Hp} (e : Same H H') : ∀ (ds : List PyData) (vs : List V), DxL K H vs ds → DxL K H' vs ds
  | [], _, h => by cases h; exact .nil
  | d :: ds, _, h => by
    cases h with
    | cons h1 h2 => exact .cons (Dx.mono e d _ h1) (DxL.mono e ds _ h2)
end
mutual
/-- no list within -/
def noL : PyData → Bool
  | .list _ => false
  | .tuple ds => noLs ds
  | _ => true
def noLs : List PyData → Bool
  | [] => true
  | d :: ds => noL d && noLs ds
end
mutual
theorem Dx.of {K : PySem.W.Frag} {H : Hp} : ∀ (d : PyData) (v : V), Dp K H v d → noL d = true → Dx K H v d
  | .none, _, h, _ => by cases h; exact .non
  | .bool b, _, h, _ => by cases h; exact .bl b
  | .int i, _, h, _ => by cases h; exact .int i
  | .str x, _, h, _ => by cases h; exact .str x
  | .list ds, _, h, n => by rw [noL] at n; cases n
  | .tuple ds, _, h, n => by
    cases h with
    | tup hs ha => exact .tup hs (DxL.of ds _ ha (by rw [noL] at n; exact n))
  | .dict _, _, h, _ => by cases h
theorem DxL.of {K : PySem.W.Frag} {H : Hp} : ∀ (ds : List PyData) (vs : List V), DpAll K H vs ds → noLs ds = true → DxL K H vs ds
  | [], _, h, _ => by cases h; exact .nil
  | d :: ds, _, h, n => by
    rw [noLs, Bool.and_eq_true] at n
    cases h with
    | cons h1 h2 => exact .cons (Dx.of d _ h1 n.1) (DxL.of ds _ h2 n.2)
end
mutual
theorem Dx.dp {K : PySem.W.Frag} {H : Hp} : ∀ (d : PyData) (v : V), Dx K H v d → d.hasDict = false → Dp K H v d
  | .none, _, h, _ => by cases h; exact .non
  | .bool b, _, h, _ => by cases h; exact .bl b
  | .int i, _, h, _ => by cases h; exact .int i
  | .str x, _, h, _ => by cases h; exact .str x
  | .list ds, _, h, n => by
    cases h with
    | lst hs ha => exact .lst (SqL.of hs) (DxL.dp ds _ ha (by rw [PyData.hasDict] at n; exact n))
  | .tuple ds, _, h, n => by
    cases h with
    | tup hs ha => exact .tup hs (DxL.dp ds _ ha (by rw [PyData.hasDict] at n; exact n))
  | .dict _, _, h, n => by rw [PyData.hasDict] at n; cases n
theorem DxL.dp {K : PySem.W.Frag} {H : Hp} : ∀ (ds : List PyData) (vs : List V), DxL K H vs ds → PyData.hasDictAll ds = false → DpAll K H vs ds
  | [], _, h, _ => by cases h; exact .nil
  | d :: ds, _, h, n => by
    rw [PyData.hasDictAll, Bool.or_eq_false_iff] at n
    cases h with
    | cons h1 h2 => exact .cons (Dx.dp d _ h1 n.1) (DxL.dp ds _ h2 n.2)
end
theorem DxL.len {K : PySem.W.Frag} {H : Hp} : ∀ {vs : List V} {ds : List PyData}, DxL K H vs ds → vs.length = ds.length
  | _, _, .nil => rfl
  | _, _, .cons _ h => by rw [List.length_cons, List.length_cons, DxL.len h]
theorem DxL.got {K : PySem.W.Frag} {H : Hp} : ∀ {vs : List V} {ds : List PyData} {i : Nat} {d : PyData}, DxL K H vs ds → ds[i]? = some d → ∃ v, vs[i]? = some v ∧ Dx K H v d
  | _, _, _, _, .nil, e => by simp at e
  | _, _, 0, _, .cons h _, e => by simp at e; subst e; exact ⟨_, rfl, h⟩
  | _, _, i + 1, d, .cons _ h, e => by
    obtain ⟨v, h1, h2⟩ := DxL.got (i := i) (d := d) h (by simpa using e)
    exact ⟨v, by simpa using h1, h2⟩
theorem DxL.app {K : PySem.W.Frag} {H : Hp} : ∀ {vs ws : List V} {ds es : List PyData}, DxL K H vs ds → DxL K H ws es → DxL K H (vs ++ ws) (ds ++ es)
  | _, _, _, _, .nil, h => h
  | _, _, _, _, .cons a b, h => .cons a (DxL.app b h)
theorem DxL.take {K : PySem.W.Frag} {H : Hp} : ∀ {vs : List V} {ds : List PyData} (n : Nat), DxL K H vs ds → DxL K H (vs.take n) (ds.take n)
  | _, _, 0, _ => .nil
  | _, _, _ + 1, .nil => .nil
  | _, _, n + 1, .cons a b => .cons a (DxL.take n b)
theorem DxL.drop {K : PySem.W.Frag} {H : Hp} : ∀ {vs : List V} {ds : List PyData} (n : Nat), DxL K H vs ds → DxL K H (vs.drop n) (ds.drop n)
  | _, _, 0, h => h
  | _, _, _ + 1, .nil => .nil
  | _, _, n + 1, .cons a b => DxL.drop n b
theorem DxL.rep {K : PySem.W.Frag} {H : Hp} {vs : List V} {ds : List PyData} (h : DxL K H vs ds) : ∀ n : Nat, DxL K H (List.replicate n vs).flatten (List.replicate n ds).flatten
  | 0 => .nil
  | n + 1 => by
    rw [List.replicate_succ, List.replicate_succ, List.flatten_cons, List.flatten_cons]
    exact DxL.app h (DxL.rep h n)
/-- an error's fields stand in its dict -/
def FX (K : PySem.W.Frag) (F : Hp) (d : Option Addr) (fs : List (Str × PyData)) : Prop := match d with
  | none => fs = []
  | some dd => ∃ fv, F dd = some (.xd fv) ∧ fv.map (·.1) = fs.map (·.1) ∧ DxL K F (fv.map (·.2)) (fs.map (·.2))
theorem FX.mono {K : PySem.W.Frag} {F F' : Hp} (e : Same F F') {d : Option Addr} {fs : List (Str × PyData)} (h : FX K F d fs) : FX K F' d fs := by
  cases d with
  | none => exact h
  | some dd =>
    obtain ⟨fv, h1, h2, h3⟩ := h
    exact ⟨fv, e _ _ h1, h2, DxL.mono e _ _ h3⟩
/-- v is the value x -/
inductive RW (K : PySem.W.Frag) (F : Hp) : V → W → Prop
  | d {v : V} {x : PyData} : Dx K F v x → RW K F v (.d x)
  | r (a : Addr) : RW K F (.ref a) (.r a)
  | o (v : V) : RW K F v (.o v)
  | x {a C : Addr} {dd : Option Addr} {fs : List (Str × PyData)} : FX K F dd fs → RW K F (.ref a) (.x a C dd fs)
inductive RWs (K : PySem.W.Frag) (F : Hp) : List V → List W → Prop
  | nil : RWs K F [] []
  | cons {v : V} {vs : List V} {x : W} {xs : List W} : RW K F v x → RWs K F vs xs → RWs K F (v :: vs) (x :: xs)
section
variable {K : PySem.W.Frag} {F F' H H' : Hp}
theorem RW.mono (e : Same F F') {v : V} {x : W} (h : RW K F v x) : RW K F' v x := by
  cases h with
  | d h => exact .d (Dx.mono e _ _ h)
  | r a => exact .r a
  | o v => exact .o v
  | x h => exact .x (h.mono e)
theorem RWs.mono (e : Same F F') : ∀ {vs : List V} {xs : List W}, RWs K F vs xs → RWs K F' vs xs
  | _, _, .nil => .nil
  | _, _, .cons h t => .cons (h.mono e) (t.mono e)
theorem RWs.len : ∀ {vs : List V} {xs : List W}, RWs K F vs xs → vs.length = xs.length
  | _, _, .nil => rfl
  | _, _, .cons _ t => by rw [List.length_cons, List.length_cons, t.len]
theorem RWs.got : ∀ {vs : List V} {xs : List W} {i : Nat} {x : W}, RWs K F vs xs → xs[i]? = some x → ∃ v, vs[i]? = some v ∧ RW K F v x
  | _, _, _, _, .nil, e => by simp at e
  | _, _, 0, _, .cons h _, e => by simp at e; subst e; exact ⟨_, rfl, h⟩
  | _, _, i + 1, x, .cons _ h, e => by
    obtain ⟨v, h1, h2⟩ := RWs.got (i := i) (x := x) h (by simpa using e)
    exact ⟨v, by simpa using h1, h2⟩
theorem RWs.app : ∀ {vs ws : List V} {xs ys : List W}, RWs K F vs xs → RWs K F ws ys → RWs K F (vs ++ ws) (xs ++ ys)
  | _, _, _, _, .nil, h => h
  | _, _, _, _, .cons a b, h => .cons a (RWs.app b h)
theorem RWs.take : ∀ {vs : List V} {xs : List W} (n : Nat), RWs K F vs xs → RWs K F (vs.take n) (xs.take n)
  | _, _, 0, _ => .nil
  | _, _, _ + 1, .nil => .nil
  | _, _, n + 1, .cons a b => .cons a (RWs.take n b)
theorem RWs.drop : ∀ {vs : List V} {xs : List W} (n : Nat), RWs K F vs xs → RWs K F (vs.drop n) (xs.drop n)
  | _, _, 0, h => h
  | _, _, _ + 1, .nil => .nil
  | _, _, n + 1, .cons a b => RWs.drop n b
theorem RWs.set {v : V} {x : W} (h : RW K F v x) : ∀ {vs : List V} {xs : List W} (n : Nat), RWs K F vs xs → RWs K F (vs.set n v) (xs.set n x)
  | _, _, _, .nil => .nil
  | _, _, 0, .cons _ t => .cons h t
  | _, _, n + 1, .cons a t => .cons a (RWs.set h n t)
theorem RWs.dat : ∀ {vs : List V} {ds : List PyData}, DxL K F vs ds → RWs K F vs (ds.map W.d)
  | _, _, .nil => .nil
  | _, _, .cons a b => .cons (.d a) (RWs.dat b)
theorem RWs.undat : ∀ {ds : List PyData} {vs : List V}, RWs K F vs (ds.map W.d) → DxL K F vs ds
  | [], _, h => by cases h; exact .nil
  | d :: ds, _, h => by
    cases h with
    | cons a b =>
      cases a with
      | d a => exact .cons a (RWs.undat b)
end
/-- the law's own source of numbers: its cells, three numbers -/
def SrcV (K : PySem.W.Frag) (F : Hp) (b : Bool) (vs : List V) : Prop := ∃ (c : Addr) (cs : List Int) (i p z : Int), vs = [.ref c, .int i, .int p, .int z] ∧ SqL K F c (cs.map V.int) ∧ cs.length ≤ 63 ∧ (b = true → 0 < cs.length) ∧ 0 ≤ i ∧ 0 ≤ p ∧ 0 ≤ z ∧ z < (if b = true then 2147483647 else 2305843009213693951)
theorem SrcV.mono {K : PySem.W.Frag} {F F' : Hp} (e : Same F F') {b : Bool} {vs : List V} (h : SrcV K F b vs) : SrcV K F' b vs := by
  obtain ⟨c, cs, i, p, z, h1, h2, h3⟩ := h
  exact ⟨c, cs, i, p, z, h1, same_l e h2, h3⟩
def PrR {κ : Type} (K : PySem.W.Frag) (F : Hp) (kv : List (κ × V)) (kw : List (κ × W)) : Prop := kv.map (·.1) = kw.map (·.1) ∧ RWs K F (kv.map (·.2)) (kw.map (·.2))
theorem PrR.mono {κ : Type} {K : PySem.W.Frag} {F F' : Hp} (e : Same F F') {kv : List (κ × V)} {kw : List (κ × W)} (h : PrR K F kv kw) : PrR K F' kv kw := ⟨h.1, h.2.mono e⟩
mutual
theorem KeyV.mono {K : PySem.W.Frag} {F F' : Hp} (e : Same F F') : ∀ (k : NestedKey) (v : V), KeyV K F v k → KeyV K F' v k
  | .num i, _, h => by cases h; exact .int i
  | .tup ks, _, h => by
    cases h with
    | tup hs hr => exact .tup (same_t e hs) (KeyVs.mono e ks _ hr)
  | .none, _, h => by cases h
  | .text _, _, h => by cases h
theorem KeyVs.mono {K : PySem.W.Frag} {F F' : Hp} (e : Same F F') : ∀ (ks : List NestedKey) (vs : List V), KeyVs K F vs ks → KeyVs K F' vs ks
  | [], _, h => by cases h; exact .nil
  | k :: ks, _, h => by
    cases h with
    | cons a b => exact .cons (KeyV.mono e k _ a) (KeyVs.mono e ks _ b)
end
theorem KeysU.mono {K : PySem.W.Frag} {F F' : Hp} (e : Same F F') {a : Addr} {xs : List DU1} (h : KeysU K F a xs) : KeysU K F' a xs :=
  ⟨h.sm, h.sz, h.nd, fun x hx => ⟨KeyV.mono e _ _ (h.ks x hx).1, (h.ks x hx).2⟩⟩
mutual
theorem keyV_of {K : PySem.W.Frag} {F : Hp} : ∀ (d : PyData) (v : V), Dx K F v d → keyOk d = true → KeyV K F v (keyN d)
  | .int i, _, h, _ => by cases h; rw [keyN]; exact .int i
  | .tuple ds, _, h, k => by
    cases h with
    | tup hs hr => rw [keyN]; exact .tup hs (keyVs_of ds _ hr (by rw [keyOk] at k; exact k))
  | .none, _, _, h => by simp [keyOk] at h
  | .bool _, _, _, h => by simp [keyOk] at h
  | .str _, _, _, h => by simp [keyOk] at h
  | .list _, _, _, h => by simp [keyOk] at h
  | .dict _, _, _, h => by simp [keyOk] at h
theorem keyVs_of {K : PySem.W.Frag} {F : Hp} : ∀ (ds : List PyData) (vs : List V), DxL K F vs ds → keyOks ds = true → KeyVs K F vs (keyNs ds)
  | [], _, h, _ => by cases h; rw [keyNs]; exact .nil
  | d :: ds, _, h, k => by
    cases h with
    | cons a b =>
      rw [keyOks, Bool.and_eq_true] at k
      rw [keyNs]
      exact .cons (keyV_of d _ a k.1) (keyVs_of ds _ b k.2)
end
/-- what stands there is the object o -/
def OR (K : PySem.W.Frag) (F : Hp) (a : Addr) (u : HO) : MO → Prop
  | .lst ws => ∃ vs, u = .lst vs ∧ RWs K F vs ws
  | .src b => ∃ vs, u = .lst vs ∧ SrcV K F b vs
  | .dK kw => ∃ kv, u = .dK kv ∧ PrR K F kv kw
  | .dT kw => ∃ xs : List DU1, u = DU a xs ∧ KeysU K F a xs ∧ xs.map (·.1) = kw.map (fun x => keyN x.1) ∧ (∀ x ∈ kw, keyOk x.1 = true) ∧ RWs K F (xs.map (·.2.2)) (kw.map (·.2))
  | .ins C dx fw => ∃ fv, u = .ins C dx fv ∧ PrR K F fv fw
  | .exc C dd => u = CgO (.ref C) dd a
  | .lkK ob kv kw => u = .frz ob (.dK kv) ∧ PrR K F kv kw
theorem OR.mono {K : PySem.W.Frag} {F F' : Hp} (e : Same F F') {a : Addr} {u : HO} {o : MO} (h : OR K F a u o) : OR K F' a u o := by
  cases o with
  | lst ws =>
    obtain ⟨vs, h1, h2⟩ := h
    exact ⟨vs, h1, h2.mono e⟩
  | src b =>
    obtain ⟨vs, h1, h2⟩ := h
    exact ⟨vs, h1, h2.mono e⟩
  | dK kw =>
    obtain ⟨vs, h1, h2⟩ := h
    exact ⟨vs, h1, h2.mono e⟩
  | dT kw =>
    obtain ⟨vs, h1, h2, h3, h4, h5⟩ := h
    exact ⟨vs, h1, h2.mono e, h3, h4, h5.mono e⟩
  | ins C dx fw =>
    obtain ⟨vs, h1, h2⟩ := h
    exact ⟨vs, h1, h2.mono e⟩
  | exc C dd => exact h
  | lkK ob kv kw => exact ⟨h.1, h.2.mono e⟩
/-- F: what is data for good; M: what may change; H: what stands there -/
structure Rl (K : PySem.W.Frag) (F H : Hp) (M : Mem) : Prop where
  fh : Same F H
  mf : ∀ a o, M a = some o → F a = none
  at_ : ∀ a o, M a = some o → ∃ u, H a = some u ∧ OR K F a u o
/-- from one state to a later one: what is neither data nor told by M stays as it is -/
structure Gr (F H : Hp) (M : Mem) (F' H' : Hp) (M' : Mem) : Prop where
  ff : Same F F'
  un : ∀ b u, H b = some u → M b = none → H' b = some u ∧ M' b = none
  nf : ∀ b u, H b = some u → M b = none → F b = none → F' b = none
theorem Gr.refl {F H : Hp} {M : Mem} : Gr F H M F H M := ⟨Same.refl _, fun _ _ h n => ⟨h, n⟩, fun _ _ _ _ h => h⟩
theorem Gr.trans {F H F1 H1 F2 H2 : Hp} {M M1 M2 : Mem} (a : Gr F H M F1 H1 M1) (b : Gr F1 H1 M1 F2 H2 M2) : Gr F H M F2 H2 M2 :=
  ⟨a.ff.trans b.ff, fun c u h n => b.un c u (a.un c u h n).1 (a.un c u h n).2, fun c u h n f => b.nf c u (a.un c u h n).1 (a.un c u h n).2 (a.nf c u h n f)⟩
section
variable {K : PySem.W.Frag} {F H : Hp} {M : Mem}
theorem Rl.there (h : Rl K F H M) {a : Addr} {o : MO} (e : M a = some o) : ∃ u, H a = some u := by
  obtain ⟨u, h1, _⟩ := h.at_ a o e
  exact ⟨u, h1⟩
theorem Rl.new (h : Rl K F H M) {p : Addr} (e : H p = none) : M p = none := by
  cases c : M p with
  | none => rfl
  | some o =>
    obtain ⟨u, h1, _⟩ := h.at_ p o c
    rw [e] at h1
    cases h1
theorem Rl.step (h : Rl K F H M) {F' H' : Hp} (ff : Same F F') (fh : Same F' H') (hm : ∀ a o, M a = some o → H' a = H a ∧ F' a = none) : Rl K F' H' M :=
  ⟨fh, fun a o e => (hm a o e).2, fun a o e => by
    obtain ⟨u, h1, h2⟩ := h.at_ a o e
    exact ⟨u, by rw [(hm a o e).1]; exact h1, h2.mono ff⟩⟩
/-- the heap grows by what nobody tells of -/
theorem Rl.same (h : Rl K F H M) {H' : Hp} (e : Same H H') : Rl K F H' M ∧ Gr F H M F H' M := by
  refine ⟨h.step (Same.refl _) (h.fh.trans e) fun a o c => ?_, Same.refl _, fun b u c n => ⟨e b u c, n⟩, fun _ _ _ _ f => f⟩
  obtain ⟨u, hu⟩ := h.there c
  exact ⟨by rw [hu]; exact e a u hu, h.mf a o c⟩
/-- a new thing that stays as it is -/
theorem Rl.fresh (h : Rl K F H M) {p : Addr} {u : HO} (e : H p = none) : Rl K (upd F p u) (upd H p u) M ∧ Gr F H M (upd F p u) (upd H p u) M := by
  have g := Gw.new (o := u) h.fh e
  refine ⟨h.step g.ff g.fh fun a o c => ?_, g.ff, fun b v c n => ⟨g.hh b v c, n⟩, fun b v c n f => ?_⟩
  · obtain ⟨v, hv⟩ := h.there c
    have n : a ≠ p := ne_of_none hv e
    exact ⟨upd_ne n, by rw [upd_ne n]; exact h.mf a o c⟩
  · rw [upd_ne (ne_of_none c e)]
    exact f
/-- a new object that may change -/
theorem Rl.born (h : Rl K F H M) {p : Addr} {u : HO} {o : MO} (e : H p = none) (r : OR K F p u o) : Rl K F (upd H p u) (mset M p o) ∧ Gr F H M F (upd H p u) (mset M p o) := by
  have fp := h.fh.free e
  refine ⟨⟨same_mut h.fh fp, fun a o' c => ?_, fun a o' c => ?_⟩, Same.refl _, fun b v c n => ?_, fun _ _ _ _ f => f⟩
  · by_cases z : a = p
    · rw [z]; exact fp
    · rw [mset_ne z] at c; exact h.mf a o' c
  · by_cases z : a = p
    · subst z
      rw [mset_same] at c
      cases c
      exact ⟨u, upd_same, r⟩
    · rw [mset_ne z] at c
      rw [upd_ne z]
      exact h.at_ a o' c
  · have z : b ≠ p := ne_of_none c e
    rw [upd_ne z, mset_ne z]
    exact ⟨c, n⟩
/-- an object changes -/
theorem Rl.put (h : Rl K F H M) {p : Addr} {u : HO} {o o' : MO} (e : M p = some o') (r : OR K F p u o) : Rl K F (upd H p u) (mset M p o) ∧ Gr F H M F (upd H p u) (mset M p o) := by
  have fp := h.mf p o' e
  refine ⟨⟨same_mut h.fh fp, fun a o' c => ?_, fun a o' c => ?_⟩, Same.refl _, fun b v c n => ?_, fun _ _ _ _ f => f⟩
  · by_cases z : a = p
    · rw [z]; exact fp
    · rw [mset_ne z] at c; exact h.mf a o' c
  · by_cases z : a = p
    · subst z
      rw [mset_same] at c
      cases c
      exact ⟨u, upd_same, r⟩
    · rw [mset_ne z] at c
      rw [upd_ne z]
      exact h.at_ a o' c
  · have z : b ≠ p := fun z => by rw [z, e] at n; cases n
    rw [upd_ne z, mset_ne z]
    exact ⟨c, n⟩
/-- a list of data is data from now on -/
theorem Rl.freeze (h : Rl K F H M) {p : Addr} {ds : List PyData} (e : M p = some (.lst (ds.map W.d))) : ∃ F', Rl K F' H (mdel M p) ∧ Gr F H M F' H (mdel M p) ∧ Dx K F' (.ref p) (.list ds) := by
  obtain ⟨_, h1, vs, rfl, h2⟩ := h.at_ p _ e
  have fp := h.mf p _ e
  have ff : Same F (upd F p (.lst vs)) := same_new fp
  have r : DxL K F vs ds := RWs.undat h2
  refine ⟨upd F p (.lst vs), ⟨fun b u q => ?_, fun a o c => ?_, fun a o c => ?_⟩, ⟨ff, fun b v c n => ⟨c, ?_⟩, fun b v c n f => ?_⟩, .lst upd_same (DxL.mono ff _ _ r)⟩
  · by_cases z : b = p
    · subst z
      rw [upd_same] at q
      rw [h1]
      exact q
    · rw [upd_ne z] at q
      exact h.fh b u q
  · have z : a ≠ p := fun z => by rw [z, mdel_same] at c; cases c
    rw [mdel_ne z] at c
    rw [upd_ne z]
    exact h.mf a o c
  · have z : a ≠ p := fun z => by rw [z, mdel_same] at c; cases c
    rw [mdel_ne z] at c
    obtain ⟨u, g1, g2⟩ := h.at_ a o c
    exact ⟨u, g1, g2.mono ff⟩
  · by_cases z : b = p
    · rw [z]; exact mdel_same
    · rw [mdel_ne z]; exact n
  · have z : b ≠ p := fun z => by rw [z, e] at n; cases n
    rw [upd_ne z]
    exact f
/-- an object that is not looked at any more -/
theorem Rl.drop (h : Rl K F H M) (p : Addr) : Rl K F H (mdel M p) ∧ Gr F H M F H (mdel M p) := by
  refine ⟨⟨h.fh, fun a o c => ?_, fun a o c => ?_⟩, Same.refl _, fun b v c n => ⟨c, ?_⟩, fun b v c n f => f⟩
  · have z : a ≠ p := fun z => by rw [z, mdel_same] at c; cases c
    rw [mdel_ne z] at c
    exact h.mf a o c
  · have z : a ≠ p := fun z => by rw [z, mdel_same] at c; cases c
    rw [mdel_ne z] at c
    exact h.at_ a o c
  · by_cases z : b = p
    · rw [z]; exact mdel_same
    · rw [mdel_ne z]; exact n
/-- the heap of a thing nobody tells of changes (an object made in between, not told by M, not data) -/
theorem Rl.hid (h : Rl K F H M) {p : Addr} {u : HO} (hf : F p = none) (hm : M p = none) : Rl K F (upd H p u) M :=
  h.step (Same.refl _) (same_mut h.fh hf) fun a o c => ⟨upd_ne (fun z => by rw [z, hm] at c; cases c), h.mf a o c⟩
end
/-! ### slots -/
@[reducible] def slot : EnvD → Nat → Option W
  | [], _ => none
  | x :: _, 0 => x
  | _ :: r, n + 1 => slot r n
@[reducible] def put : EnvD → Nat → Option W → EnvD
  | [], _, _ => []
  | _ :: r, 0, w => w :: r
  | x :: r, n + 1, w => x :: put r n w
theorem put_len : ∀ (ρ : EnvD) (i : Nat) (w : Option W), (put ρ i w).length = ρ.length
  | [], _, _ => rfl
  | _ :: r, 0, _ => rfl
  | _ :: r, n + 1, w => congrArg (· + 1) (put_len r n w)
theorem slot_put : ∀ {ρ : EnvD} {i : Nat} {w : Option W} {x : W}, slot (put ρ i w) i = some x → w = some x ∧ i < ρ.length
  | [], _, _, _, h => by cases h
  | _ :: r, 0, _, _, h => ⟨h, Nat.succ_pos _⟩
  | _ :: r, n + 1, w, x, h => by
    obtain ⟨h1, h2⟩ := slot_put (ρ := r) (i := n) h
    exact ⟨h1, Nat.succ_lt_succ h2⟩
theorem slot_put_ne : ∀ {ρ : EnvD} {i j : Nat} {w : Option W}, j ≠ i → slot (put ρ i w) j = slot ρ j
  | [], _, _, _, _ => rfl
  | _ :: r, 0, 0, _, h => absurd rfl h
  | _ :: r, 0, j + 1, _, _ => rfl
  | _ :: r, n + 1, 0, w, h => rfl
  | _ :: r, n + 1, j + 1, w, h => slot_put_ne (ρ := r) fun z => h (by rw [z])
structure RelS (K : PySem.W.Frag) (F : Hp) (σ : L2.St) (ρ : EnvD) : Prop where
  len : σ.length = ρ.length
  at_ : ∀ i x, slot ρ i = some x → ∃ v, σ[i]? = some (some v) ∧ RW K F v x
section
variable {K : PySem.W.Frag} {F F' : Hp} {σ : L2.St} {ρ : EnvD}
theorem RelS.mono (e : Same F F') (h : RelS K F σ ρ) : RelS K F' σ ρ := ⟨h.len, fun i x c => by
  obtain ⟨v, h1, h2⟩ := h.at_ i x c
  exact ⟨v, h1, h2.mono e⟩⟩
theorem RelS.set (h : RelS K F σ ρ) {v : V} {x : W} (r : RW K F v x) (i : Nat) : RelS K F (σ.set i (some v)) (put ρ i (some x)) := by
  refine ⟨by rw [List.length_set, put_len]; exact h.len, fun j y c => ?_⟩
  by_cases z : j = i
  · subst z
    obtain ⟨h1, h2⟩ := slot_put c
    cases h1
    exact ⟨v, by rw [List.getElem?_set_self (by rw [h.len]; exact h2)], r⟩
  · rw [slot_put_ne z] at c
    rw [List.getElem?_set_ne (fun q => z q.symm)]
    exact h.at_ j y c
theorem RelS.del (h : RelS K F σ ρ) (i : Nat) (w : Option V) : RelS K F (σ.set i w) (put ρ i none) := by
  refine ⟨by rw [List.length_set, put_len]; exact h.len, fun j y c => ?_⟩
  by_cases z : j = i
  · subst z
    obtain ⟨h1, h2⟩ := slot_put c
    cases h1
  · rw [slot_put_ne z] at c
    rw [List.getElem?_set_ne (fun q => z q.symm)]
    exact h.at_ j y c
end
end Tl
set_option Elab.async false
set_option linter.all false
set_option maxRecDepth 100000
set_option maxHeartbeats 4000000
/-! Readings at the second layer, and that they hold. -/
namespace Tl
open PySem L2
abbrev TDE := EnvD → Mem → (W → Mem → Prop) → Prop
abbrev TDA := EnvD → Mem → (List W → Mem → Prop) → Prop
abbrev TDT := EnvD → Mem → (Bool → Mem → Prop) → Prop
/-- a thing that is raised: its class, its fields -/
structure Ex where
  cls : Value
  fs : List (Str × PyData)
abbrev REx := Ex → EnvD → Mem → Prop
def XRel (K : PySem.W.Frag) (F : Hp) (cls : Value) (d : Option Addr) (x : Ex) : Prop := cls = x.cls ∧ FX K F d x.fs
def XOk (K : PySem.W.Frag) (F H : Hp) (M : Mem) (Wx : WX) (RE : REx) : Prop :=
  ∀ F' H' M' σ ρ cls d x, Gr F H M F' H' M' → Rl K F' H' M' → RelS K F' σ ρ → XRel K F' cls d x → RE x ρ M' → Wx cls d σ H'
theorem XOk.mono {K : PySem.W.Frag} {F H F' H' : Hp} {M M' : Mem} {Wx : WX} {RE : REx} (x : XOk K F H M Wx RE) (g : Gr F H M F' H' M') : XOk K F' H' M' Wx RE :=
  fun F2 H2 M2 σ ρ cls d e g2 => x F2 H2 M2 σ ρ cls d e (g.trans g2)
/-- what is wanted of a value, there as here -/
abbrev Kt (K : PySem.W.Frag) (F H : Hp) (M : Mem) (R : W → Mem → Prop) (Q : VK) : Prop := ∀ v H' F' M' x, Rl K F' H' M' → Gr F H M F' H' M' → RW K F' v x → R x M' → Q v H'
def SE (K : PySem.W.Frag) (Wx : WX) (RE : REx) (t : TE) (T : TDE) : Prop :=
  ∀ F H M σ ρ R Q, Rl K F H M → XOk K F H M Wx RE → RelS K F σ ρ → T ρ M R → Kt K F H M R Q → t σ H Q
def ST (K : PySem.W.Frag) (Wx : WX) (RE : REx) (t : TT) (T : TDT) : Prop :=
  ∀ F H M σ ρ (R : Bool → Mem → Prop) (Q : Bool → Hp → Prop), Rl K F H M → XOk K F H M Wx RE → RelS K F σ ρ → T ρ M R → (∀ b H' F' M', Rl K F' H' M' → Gr F H M F' H' M' → R b M' → Q b H') → t σ H Q
abbrev F2 := W → W → Mem → (W → Mem → Prop) → Prop
abbrev FL := List W → Mem → (W → Mem → Prop) → Prop
def SO (K : PySem.W.Frag) (r : R2) (f : F2) : Prop := ∀ F H M v u x y R Q, Rl K F H M → RW K F v x → RW K F u y → f x y M R → Kt K F H M R Q → r v u H Q
def SU (K : PySem.W.Frag) (r : V → Hp → VK → Prop) (f : W → Mem → (W → Mem → Prop) → Prop) : Prop := ∀ F H M v x R Q, Rl K F H M → RW K F v x → f x M R → Kt K F H M R Q → r v H Q
def SC (K : PySem.W.Frag) (r : List V → Hp → VK → Prop) (f : FL) : Prop := ∀ F H M vs xs R Q, Rl K F H M → RWs K F vs xs → f xs M R → Kt K F H M R Q → r vs H Q
inductive gO {α : Type} (o : Option α) (k : α → Prop) : Prop where
  | mk (a : α) (h : o = some a) (q : k a) : gO o k
theorem gO_of {α : Type} {o : Option α} {k : α → Prop} (h : gO o k) : ∃ a, o = some a ∧ k a := by
  cases h with
  | mk a h q => exact ⟨a, h, q⟩
theorem gO_i {α : Type} {o : Option α} {a : α} {k : α → Prop} (h : o = some a) (q : k a) : gO o k := .mk a h q
/-! ### what a value is -/
@[reducible] def gI (x : W) (k : Int → Prop) : Prop := match x with | .d (.int a) => k a | _ => False
@[reducible] def gS (x : W) (k : Str → Prop) : Prop := match x with | .d (.str a) => k a | _ => False
@[reducible] def gB (x : W) (k : Bool → Prop) : Prop := match x with | .d (.bool a) => k a | _ => False
@[reducible] def gT (x : W) (k : List PyData → Prop) : Prop := match x with | .d (.tuple a) => k a | _ => False
@[reducible] def gL (x : W) (k : List PyData → Prop) : Prop := match x with | .d (.list a) => k a | _ => False
@[reducible] def gD (x : W) (k : PyData → Prop) : Prop := match x with | .d a => k a | _ => False
@[reducible] def gR (x : W) (k : Addr → Prop) : Prop := match x with | .r a => k a | _ => False
theorem gI_of {x : W} {k : Int → Prop} (h : gI x k) : ∃ a, x = .d (.int a) ∧ k a := by
  unfold gI at h
  split at h
  · exact ⟨_, rfl, h⟩
  · exact h.elim
theorem gS_of {x : W} {k : Str → Prop} (h : gS x k) : ∃ a, x = .d (.str a) ∧ k a := by
  unfold gS at h
  split at h
  · exact ⟨_, rfl, h⟩
  · exact h.elim
theorem gB_of {x : W} {k : Bool → Prop} (h : gB x k) : ∃ a, x = .d (.bool a) ∧ k a := by
  unfold gB at h
  split at h
  · exact ⟨_, rfl, h⟩
  · exact h.elim
theorem gT_of {x : W} {k : List PyData → Prop} (h : gT x k) : ∃ a, x = .d (.tuple a) ∧ k a := by
  unfold gT at h
  split at h
  · exact ⟨_, rfl, h⟩
  · exact h.elim
theorem gL_of {x : W} {k : List PyData → Prop} (h : gL x k) : ∃ a, x = .d (.list a) ∧ k a := by
  unfold gL at h
  split at h
  · exact ⟨_, rfl, h⟩
  · exact h.elim
theorem gD_of {x : W} {k : PyData → Prop} (h : gD x k) : ∃ a, x = .d a ∧ k a := by
  unfold gD at h
  split at h
  · exact ⟨_, rfl, h⟩
  · exact h.elim
theorem gR_of {x : W} {k : Addr → Prop} (h : gR x k) : ∃ a, x = .r a ∧ k a := by
  unfold gR at h
  split at h
  · exact ⟨_, rfl, h⟩
  · exact h.elim
section
variable {K : PySem.W.Frag} {F H : Hp} {M : Mem} {v : V}
theorem RW.int {a : Int} (h : RW K F v (.d (.int a))) : v = .int a := by cases h with | d h => cases h; rfl
theorem RW.str {a : Str} (h : RW K F v (.d (.str a))) : v = .str a := by cases h with | d h => cases h; rfl
theorem RW.bl {a : Bool} (h : RW K F v (.d (.bool a))) : v = .bl a := by cases h with | d h => cases h; rfl
theorem RW.non (h : RW K F v (.d .none)) : v = .non := by cases h with | d h => cases h; rfl
theorem RW.dx {x : PyData} (h : RW K F v (.d x)) : Dx K F v x := by cases h with | d h => exact h
theorem RW.ref {a : Addr} (h : RW K F v (.r a)) : v = .ref a := by cases h; rfl
theorem RW.tup {ds : List PyData} (h : RW K F v (.d (.tuple ds))) : ∃ a xs, v = .ref a ∧ SqT K F a xs ∧ DxL K F xs ds := by
  cases h with
  | d h => cases h with | tup h1 h2 => exact ⟨_, _, rfl, h1, h2⟩
theorem RW.lst {ds : List PyData} (h : RW K F v (.d (.list ds))) : ∃ a xs, v = .ref a ∧ F a = some (.lst xs) ∧ DxL K F xs ds := by
  cases h with
  | d h => cases h with | lst h1 h2 => exact ⟨_, _, rfl, h1, h2⟩
theorem Rl.lst (h : Rl K F H M) {a : Addr} {ws : List W} (e : M a = some (.lst ws)) : ∃ vs, H a = some (.lst vs) ∧ RWs K F vs ws := by
  obtain ⟨_, h1, vs, rfl, h2⟩ := h.at_ a _ e
  exact ⟨vs, h1, h2⟩
/-- a new tuple of data -/
theorem Rl.tup (h : Rl K F H M) {p : Addr} {xs : List V} {ds : List PyData} (e : H p = none) (r : DxL K F xs ds) : Rl K (upd F p (.tup xs)) (upd H p (.tup xs)) M ∧ Gr F H M (upd F p (.tup xs)) (upd H p (.tup xs)) M ∧ RW K (upd F p (.tup xs)) (.ref p) (.d (.tuple ds)) := by
  obtain ⟨h1, h2⟩ := h.fresh (u := .tup xs) e
  exact ⟨h1, h2, .d (.tup (.inl (.inl upd_same)) (DxL.mono h2.ff _ _ r))⟩
theorem Rl.list (h : Rl K F H M) {p : Addr} {xs : List V} {ds : List PyData} (e : H p = none) (r : DxL K F xs ds) : Rl K (upd F p (.lst xs)) (upd H p (.lst xs)) M ∧ Gr F H M (upd F p (.lst xs)) (upd H p (.lst xs)) M ∧ RW K (upd F p (.lst xs)) (.ref p) (.d (.list ds)) := by
  obtain ⟨h1, h2⟩ := h.fresh (u := .lst xs) e
  exact ⟨h1, h2, .d (.lst upd_same (DxL.mono h2.ff _ _ r))⟩
end
section
variable {K : PySem.W.Frag} {Wx : WX} {RE : REx}
/-! ### names, constants -/
@[reducible] def nmT (i : Nat) : TDE := fun ρ M R => match slot ρ i with | some x => R x M | none => False
@[reducible] def cT (x : W) : TDE := fun _ M R => R x M
theorem se_nm {i : Nat} : SE K Wx RE (tVar i) (nmT i) := fun F H M σ ρ R Q hr hx hs ht k => by
  unfold nmT at ht
  cases c : slot ρ i with
  | none => rw [c] at ht; exact ht.elim
  | some x =>
    rw [c] at ht
    obtain ⟨v, h1, h2⟩ := hs.at_ i x c
    exact ⟨v, h1, k v H F M x hr .refl h2 ht⟩
theorem se_int {i : Int} : SE K Wx RE (tC (.int i)) (cT (.d (.int i))) := fun F H M σ ρ R Q hr hx hs ht k => k _ H F M _ hr .refl (.d (.int i)) ht
theorem se_str {i : Str} : SE K Wx RE (tC (.str i)) (cT (.d (.str i))) := fun F H M σ ρ R Q hr hx hs ht k => k _ H F M _ hr .refl (.d (.str i)) ht
theorem se_bl {i : Bool} : SE K Wx RE (tC (.bl i)) (cT (.d (.bool i))) := fun F H M σ ρ R Q hr hx hs ht k => k _ H F M _ hr .refl (.d (.bl i)) ht
theorem se_non : SE K Wx RE (tC .non) (cT (.d .none)) := fun F H M σ ρ R Q hr hx hs ht k => k _ H F M _ hr .refl (.d .non) ht
theorem se_o {v : V} : SE K Wx RE (tC v) (cT (.o v)) := fun F H M σ ρ R Q hr hx hs ht k => k _ H F M _ hr .refl (.o v) ht
/-! ### operators -/
@[reducible] def opT (f : F2) (Ta Tb : TDE) : TDE := fun ρ M R => Ta ρ M fun x M1 => Tb ρ M1 fun y M2 => f x y M2 R
@[reducible] def unT (f : W → Mem → (W → Mem → Prop) → Prop) (Ta : TDE) : TDE := fun ρ M R => Ta ρ M fun x M1 => f x M1 R
theorem se_op {r : R2} {f : F2} {ta tb : TE} {Ta Tb : TDE} (ho : SO K r f) (ha : SE K Wx RE ta Ta) (hb : SE K Wx RE tb Tb) : SE K Wx RE (tOp r ta tb) (opT f Ta Tb) := fun F H M σ ρ R Q hr hx hs ht k =>
  ha F H M σ ρ _ _ hr hx hs ht fun v H1 F1 M1 x r1 g1 rx ht1 => hb F1 H1 M1 σ ρ _ _ r1 (hx.mono g1) (hs.mono g1.ff) ht1 fun u H2 F2 M2 y r2 g2 ry ht2 =>
    ho F2 H2 M2 v u x y R Q r2 (rx.mono g2.ff) ry ht2 fun w H3 F3 M3 z r3 g3 rz hz => k w H3 F3 M3 z r3 ((g1.trans g2).trans g3) rz hz
theorem se_un {r : V → Hp → VK → Prop} {f : W → Mem → (W → Mem → Prop) → Prop} {ta : TE} {Ta : TDE} (ho : SU K r f) (ha : SE K Wx RE ta Ta) : SE K Wx RE (tUn r ta) (unT f Ta) := fun F H M σ ρ R Q hr hx hs ht k =>
  ha F H M σ ρ _ _ hr hx hs ht fun v H1 F1 M1 x r1 g1 rx ht1 => ho F1 H1 M1 v x R Q r1 rx ht1 fun w H3 F3 M3 z r3 g3 rz hz => k w H3 F3 M3 z r3 (g1.trans g3) rz hz
@[reducible] def fI (g : Int → Int → PyData) : F2 := fun x y M R => gI x fun a => gI y fun b => R (.d (g a b)) M
theorem so_I {gv : Int → Int → V} {g : Int → Int → PyData} (h : ∀ F i j, Dx K F (gv i j) (g i j)) : SO K (rI0 gv) (fI g) := fun F H M v u x y R Q hr rx ry hf k => by
  obtain ⟨a, rfl, hf1⟩ := gI_of hf
  obtain ⟨b, rfl, hf2⟩ := gI_of hf1
  exact ⟨a, b, rx.int, ry.int, k _ H F M _ hr .refl (.d (h F a b)) hf2⟩
@[reducible] def fAdd : F2 := fI fun a b => .int (a + b)
@[reducible] def fSub : F2 := fI fun a b => .int (a - b)
@[reducible] def fLt : F2 := fI fun a b => .bool (decide (a < b))
@[reducible] def fLe : F2 := fI fun a b => .bool (decide (a ≤ b))
@[reducible] def fGe : F2 := fI fun a b => .bool (decide (b ≤ a))
theorem so_add : SO K (rI0 fun i j => .int (i + j)) fAdd := so_I fun _ _ _ => .int _
theorem so_sub : SO K (rI0 fun i j => .int (i - j)) fSub := so_I fun _ _ _ => .int _
theorem so_lt : SO K (rI0 fun i j => .bl (decide (i < j))) fLt := so_I fun _ _ _ => .bl _
theorem so_le : SO K (rI0 fun i j => .bl (decide (i ≤ j))) fLe := so_I fun _ _ _ => .bl _
theorem so_ge : SO K (rI0 fun i j => .bl (decide (j ≤ i))) fGe := so_I fun _ _ _ => .bl _
@[reducible] def fNeg : W → Mem → (W → Mem → Prop) → Prop := fun x M R => gI x fun a => R (.d (.int (-a))) M
theorem su_neg : SU K (rU fun i => .int (-i)) fNeg := fun F H M v x R Q hr rx hf k => by
  obtain ⟨a, rfl, hf⟩ := gI_of hf
  exact ⟨a, rx.int, k _ H F M _ hr .refl (.d (.int _)) hf⟩
/-- texts -/
@[reducible] def fS (g : Str → Str → PyData) : F2 := fun x y M R => gS x fun a => gS y fun b => R (.d (g a b)) M
@[reducible] def fAddS : F2 := fun x y M R => gS x fun a => gS y fun b => a.length + b.length ≤ sizeLine ∧ R (.d (.str (a ++ b))) M
theorem so_addS : SO K (fun x y H Q => ∃ i j, x = V.str i ∧ y = V.str j ∧ i.length + j.length ≤ sizeLine ∧ Q (.str (i ++ j)) H) fAddS := fun F H M v u x y R Q hr rx ry hf k => by
  obtain ⟨a, rfl, hf1⟩ := gS_of hf
  obtain ⟨b, rfl, hc, hf2⟩ := gS_of hf1
  exact ⟨a, b, rx.str, ry.str, hc, k _ H F M _ hr .refl (.d (.str _)) hf2⟩
@[reducible] def fLeS : F2 := fS fun i j => .bool (!decide (j.cps.toList < i.cps.toList))
theorem so_leS : SO K (fun x y H Q => ∃ i j, x = V.str i ∧ y = V.str j ∧ Q (.bl (!decide (j.cps.toList < i.cps.toList))) H) fLeS := fun F H M v u x y R Q hr rx ry hf k => by
  obtain ⟨a, rfl, hf1⟩ := gS_of hf
  obtain ⟨b, rfl, hf2⟩ := gS_of hf1
  exact ⟨a, b, rx.str, ry.str, k _ H F M _ hr .refl (.d (.bl _)) hf2⟩
/-- one sign in a text -/
@[reducible] def gC (x : W) (k : Nat → Prop) : Prop := gS x fun a => ∃ c, a = ⟨#[c]⟩ ∧ k c
@[reducible] def fInS (neg : Bool) : F2 := fun x y M R => gS x fun a => gS y fun z => ∃ c, a = ⟨#[c]⟩ ∧ R (.d (.bool (ng neg (decide (c ∈ z.cps.toList))))) M
theorem so_ninS : SO K (fun x y H Q => ∃ (c : Nat) (z : Str), x = .str ⟨#[c]⟩ ∧ y = .str z ∧ Q (.bl (!decide (c ∈ z.cps.toList))) H) (fInS true) := fun F H M v u x y R Q hr rx ry hf k => by
  obtain ⟨a, rfl, hf1⟩ := gS_of hf
  obtain ⟨b, rfl, c, rfl, hf2⟩ := gS_of hf1
  exact ⟨c, b, rx.str, ry.str, k _ H F M _ hr .refl (.d (.bl _)) hf2⟩
/-! ### is None -/
@[reducible] def isN : W → Option Bool
  | .d .none => some true
  | .d _ => some false
  | .r _ => some false
  | .o _ => none
  | .x _ _ _ _ => some false
@[reducible] def fIsN (neg : Bool) : F2 := fun x y M R => y = .d .none ∧ gO (isN x) fun b => R (.d (.bool (ng neg b))) M
theorem isN_of {F : Hp} {v : V} {x : W} {b : Bool} (r : RW K F v x) (h : isN x = some b) : decide (v = .non) = b := by
  cases r with
  | d r => cases r <;> (cases h; simp)
  | r a => cases h; simp
  | o v => cases h
  | x _ => cases h; simp
theorem so_isN : SO K (fun x y H Q => y = V.non ∧ Q (.bl (decide (x = .non))) H) (fIsN false) := fun F H M v u x y R Q hr rx ry hf k => by
  obtain ⟨rfl, hf⟩ := hf
  obtain ⟨b, c, hf⟩ := gO_of hf
  refine ⟨ry.non, ?_⟩
  rw [isN_of rx c]
  exact k _ H F M _ hr .refl (.d (.bl _)) hf
theorem so_notN : SO K (fun x y H Q => y = V.non ∧ Q (.bl (!decide (x = .non))) H) (fIsN true) := fun F H M v u x y R Q hr rx ry hf k => by
  obtain ⟨rfl, hf⟩ := hf
  obtain ⟨b, c, hf⟩ := gO_of hf
  refine ⟨ry.non, ?_⟩
  rw [isN_of rx c]
  exact k _ H F M _ hr .refl (.d (.bl _)) hf
/-! ### == -/
/-- a list of data that may change, or data, as data -/
@[reducible] def asD (M : Mem) (x : W) (k : PyData → Prop) : Prop := match x with
  | .d a => k a
  | .r a => ∃ ds, M a = some (.lst (ds.map W.d)) ∧ k (.list ds)
  | _ => False
theorem asD_of {F H : Hp} {M : Mem} {v : V} {x : W} {k : PyData → Prop} (hr : Rl K F H M) (r : RW K F v x) (h : asD M x k) : ∃ a F', Same F F' ∧ Same F' H ∧ Dx K F' v a ∧ k a := by
  cases x with
  | d a => exact ⟨a, F, Same.refl _, hr.fh, r.dx, h⟩
  | r a =>
    obtain ⟨ds, h1, h2⟩ := h
    obtain ⟨F', r', g', d'⟩ := hr.freeze h1
    rw [r.ref]
    exact ⟨_, F', g'.ff, r'.fh, d', h2⟩
  | o v => exact h.elim
  | x a C dd fs => exact h.elim
def eqOk (d : PyData) : Bool := !d.hasDict && SeqAt.shaped d
theorem eqOk_of {d : PyData} (h : eqOk d = true) : d.hasDict = false ∧ SeqAt.shaped d = true := by
  unfold eqOk at h
  rw [Bool.and_eq_true] at h
  exact ⟨by simpa using h.1, h.2⟩
@[reducible] def fEqD (neg : Bool) : F2 := fun x y M R => asD M x fun a => asD M y fun b => (eqOk a = true ∧ eqOk b = true) ∧ R (.d (.bool (ng neg (PyData.eqv a b)))) M
theorem so_eqD : SO K (rEqD K) (fEqD false) := fun F H M v u x y R Q hr rx ry hf k => by
  obtain ⟨a, F1, e1, f1, da, hf⟩ := asD_of hr rx hf
  obtain ⟨b, F2, e2, f2, db, ⟨ha, hb⟩, hf⟩ := asD_of hr ry hf
  exact ⟨a, b, Dx.dp _ _ (Dx.mono f1 _ _ da) (eqOk_of ha).1, Dx.dp _ _ (Dx.mono f2 _ _ db) (eqOk_of hb).1, (eqOk_of ha).2, (eqOk_of hb).2, k _ H F M _ hr .refl (.d (.bl _)) hf⟩
/-- plain values: numbers, texts, truths, None -/
@[reducible] def eqS : PyData → PyData → Option Bool
  | .int a, .int b => some (decide (a = b))
  | .str a, .str b => some (decide (a = b))
  | .bool a, .bool b => some (decide (a = b))
  | .none, .none => some true
  | .none, .int _ => some false
  | .none, .str _ => some false
  | .none, .bool _ => some false
  | .int _, .none => some false
  | .str _, .none => some false
  | .bool _, .none => some false
  | .int _, .str _ => some false
  | .str _, .int _ => some false
  | .bool _, .str _ => some false
  | .str _, .bool _ => some false
  | _, _ => none
@[reducible] def fEqS (neg : Bool) : F2 := fun x y M R => gD x fun a => gD y fun b => gO (eqS a b) fun c => R (.d (.bool (ng neg c))) M
theorem eqS_of {F : Hp} {v u : V} {a b : PyData} {c : Bool} (ra : Dx K F v a) (rb : Dx K F u b) (h : eqS a b = some c) : scal v u = true ∧ decide (v = u) = c := by
  cases ra <;> cases rb <;> first | (cases h; done) | (simp only [eqS, Option.some.injEq] at h; subst h; refine ⟨rfl, ?_⟩; simp)
theorem so_eqS : SO K rEq (fEqS false) := fun F H M v u x y R Q hr rx ry hf k => by
  obtain ⟨a, rfl, hf1⟩ := gD_of hf
  obtain ⟨b, rfl, hf2⟩ := gD_of hf1
  obtain ⟨e, c, hf2⟩ := gO_of hf2
  obtain ⟨h1, h2⟩ := eqS_of rx.dx ry.dx c
  refine ⟨h1, ?_⟩
  rw [h2]
  exact k _ H F M _ hr .refl (.d (.bl _)) hf2
theorem so_neS : SO K rNe (fEqS true) := fun F H M v u x y R Q hr rx ry hf k => by
  obtain ⟨a, rfl, hf1⟩ := gD_of hf
  obtain ⟨b, rfl, hf2⟩ := gD_of hf1
  obtain ⟨e, c, hf2⟩ := gO_of hf2
  obtain ⟨h1, h2⟩ := eqS_of rx.dx ry.dx c
  refine ⟨h1, ?_⟩
  rw [h2]
  exact k _ H F M _ hr .refl (.d (.bl _)) hf2
end
end Tl
set_option Elab.async false
set_option linter.all false
set_option maxRecDepth 100000
set_option maxHeartbeats 4000000
namespace Tl
open PySem L2
section
variable {K : PySem.W.Frag} {Wx : WX} {RE : REx}
/-! ### tests -/
@[reducible] def tbT (T : TDE) : TDT := fun ρ M R => T ρ M fun x M1 => gB x fun c => R c M1
@[reducible] def andT (T U : TDT) : TDT := fun ρ M R => T ρ M fun c M1 => IfB c (U ρ M1 R) (R false M1)
@[reducible] def orT (T U : TDT) : TDT := fun ρ M R => T ρ M fun c M1 => IfB c (R true M1) (U ρ M1 R)
@[reducible] def notT (T : TDT) : TDT := fun ρ M R => T ρ M fun c M1 => R (!c) M1
@[reducible] def andV (T U : TDE) : TDE := fun ρ M R => T ρ M fun x M1 => gB x fun c => IfB c (U ρ M1 R) (R (.d (.bool false)) M1)
@[reducible] def notV (T : TDE) : TDE := fun ρ M R => T ρ M fun x M1 => gB x fun c => R (.d (.bool (!c))) M1
@[reducible] def ifT (T : TDT) (A B : TDE) : TDE := fun ρ M R => T ρ M fun c M1 => IfB c (A ρ M1 R) (B ρ M1 R)
theorem st_val {t : TE} {T : TDE} (h : SE K Wx RE t T) : ST K Wx RE (tB t) (tbT T) := fun F H M σ ρ R Q hr hx hs ht k =>
  h F H M σ ρ _ _ hr hx hs ht fun v H1 F1 M1 x r1 g1 rx h1 => by
    obtain ⟨c, rfl, h2⟩ := gB_of h1
    exact ⟨c, rx.bl, k c H1 F1 M1 r1 g1 h2⟩
theorem st_test {t : TE} {T : TDE} (h : SE K Wx RE t T) : ST K Wx RE (tTest t) (tbT T) := fun F H M σ ρ R Q hr hx hs ht k =>
  h F H M σ ρ _ _ hr hx hs ht fun v H1 F1 M1 x r1 g1 rx h1 => by
    obtain ⟨c, rfl, h2⟩ := gB_of h1
    exact ⟨c, rx.bl, k c H1 F1 M1 r1 g1 h2⟩
theorem st_and {t u : TT} {T U : TDT} (ha : ST K Wx RE t T) (hb : ST K Wx RE u U) : ST K Wx RE (tAnd t u) (andT T U) := fun F H M σ ρ R Q hr hx hs ht k =>
  ha F H M σ ρ _ _ hr hx hs ht fun c H1 F1 M1 r1 g1 h1 => by
    have h1 := h1.ite
    by_cases hc : c = true
    · rw [if_pos hc] at h1 ⊢
      exact hb F1 H1 M1 σ ρ R Q r1 (hx.mono g1) (hs.mono g1.ff) h1 fun b H2 F2 M2 r2 g2 h2 => k b H2 F2 M2 r2 (g1.trans g2) h2
    · rw [if_neg hc] at h1 ⊢
      exact k _ H1 F1 M1 r1 g1 h1
theorem st_or {t u : TT} {T U : TDT} (ha : ST K Wx RE t T) (hb : ST K Wx RE u U) : ST K Wx RE (tOr t u) (orT T U) := fun F H M σ ρ R Q hr hx hs ht k =>
  ha F H M σ ρ _ _ hr hx hs ht fun c H1 F1 M1 r1 g1 h1 => by
    have h1 := h1.ite
    by_cases hc : c = true
    · rw [if_pos hc] at h1 ⊢
      exact k _ H1 F1 M1 r1 g1 h1
    · rw [if_neg hc] at h1 ⊢
      exact hb F1 H1 M1 σ ρ R Q r1 (hx.mono g1) (hs.mono g1.ff) h1 fun b H2 F2 M2 r2 g2 h2 => k b H2 F2 M2 r2 (g1.trans g2) h2
theorem st_not {t : TT} {T : TDT} (ha : ST K Wx RE t T) : ST K Wx RE (tNot t) (notT T) := fun F H M σ ρ R Q hr hx hs ht k =>
  ha F H M σ ρ _ _ hr hx hs ht fun c H1 F1 M1 r1 g1 h1 => k _ H1 F1 M1 r1 g1 h1
theorem se_and {t u : TE} {T U : TDE} (ha : SE K Wx RE t T) (hb : SE K Wx RE u U) : SE K Wx RE (tAndV t u) (andV T U) := fun F H M σ ρ R Q hr hx hs ht k =>
  ha F H M σ ρ _ _ hr hx hs ht fun v H1 F1 M1 x r1 g1 rx h1 => by
    obtain ⟨c, rfl, h2⟩ := gB_of h1
    refine ⟨c, rx.bl, ?_⟩
    have h2 := h2.ite
    by_cases hc : c = true
    · rw [if_pos hc] at h2 ⊢
      exact hb F1 H1 M1 σ ρ R Q r1 (hx.mono g1) (hs.mono g1.ff) h2 fun b H2 F2 M2 x r2 g2 h3 h4 => k b H2 F2 M2 x r2 (g1.trans g2) h3 h4
    · rw [if_neg hc] at h2 ⊢
      exact k _ H1 F1 M1 _ r1 g1 (.d (.bl _)) h2
theorem se_not {t : TE} {T : TDE} (ha : SE K Wx RE t T) : SE K Wx RE (tNotV t) (notV T) := fun F H M σ ρ R Q hr hx hs ht k =>
  ha F H M σ ρ _ _ hr hx hs ht fun v H1 F1 M1 x r1 g1 rx h1 => by
    obtain ⟨c, rfl, h2⟩ := gB_of h1
    exact ⟨c, rx.bl, k _ H1 F1 M1 _ r1 g1 (.d (.bl _)) h2⟩
theorem se_if {t : TT} {T : TDT} {ta tb : TE} {A B : TDE} (hc : ST K Wx RE t T) (ha : SE K Wx RE ta A) (hb : SE K Wx RE tb B) : SE K Wx RE (tIf t ta tb) (ifT T A B) := fun F H M σ ρ R Q hr hx hs ht k =>
  hc F H M σ ρ _ _ hr hx hs ht fun c H1 F1 M1 r1 g1 h1 => by
    have h1 := h1.ite
    by_cases hc : c = true
    · rw [if_pos hc] at h1 ⊢
      exact ha F1 H1 M1 σ ρ R Q r1 (hx.mono g1) (hs.mono g1.ff) h1 fun b H2 F2 M2 x r2 g2 h3 h4 => k b H2 F2 M2 x r2 (g1.trans g2) h3 h4
    · rw [if_neg hc] at h1 ⊢
      exact hb F1 H1 M1 σ ρ R Q r1 (hx.mono g1) (hs.mono g1.ff) h1 fun b H2 F2 M2 x r2 g2 h3 h4 => k b H2 F2 M2 x r2 (g1.trans g2) h3 h4
@[reducible] def chT (f f' : F2) (Ta Tb Tc : TDE) : TDE := fun ρ M R => Ta ρ M fun x M1 => Tb ρ M1 fun y M2 => f x y M2 fun z M3 => gB z fun c => IfB c (Tc ρ M3 fun w M4 => f' y w M4 R) (R (.d (.bool false)) M3)
theorem se_chain {r r' : R2} {f f' : F2} {ta tb tc : TE} {Ta Tb Tc : TDE} (ho : SO K r f) (ho' : SO K r' f') (ha : SE K Wx RE ta Ta) (hb : SE K Wx RE tb Tb) (hc : SE K Wx RE tc Tc) : SE K Wx RE (tChain r r' ta tb tc) (chT f f' Ta Tb Tc) := fun F H M σ ρ R Q hr hx hs ht k =>
  ha F H M σ ρ _ _ hr hx hs ht fun v H1 F1 M1 x r1 g1 rx ht1 => hb F1 H1 M1 σ ρ _ _ r1 (hx.mono g1) (hs.mono g1.ff) ht1 fun u H2 F2 M2 y r2 g2 ry ht2 =>
    ho F2 H2 M2 v u x y _ _ r2 (rx.mono g2.ff) ry ht2 fun w H3 F3 M3 z r3 g3 rz hz => by
      obtain ⟨c, rfl, h2⟩ := gB_of hz
      refine ⟨c, rz.bl, ?_⟩
      have g := (g1.trans g2).trans g3
      have h2 := h2.ite
      by_cases hc' : c = true
      · rw [if_pos hc'] at h2 ⊢
        exact hc F3 H3 M3 σ ρ _ _ r3 (hx.mono g) (hs.mono g.ff) h2 fun w4 H4 F4 M4 z4 r4 g4 rz4 h4 =>
          ho' F4 H4 M4 u w4 y z4 R Q r4 (ry.mono (g3.trans g4).ff) rz4 h4 fun w5 H5 F5 M5 z5 r5 g5 rz5 h5 => k w5 H5 F5 M5 z5 r5 ((g.trans g4).trans g5) rz5 h5
      · rw [if_neg hc'] at h2 ⊢
        exact k _ H3 F3 M3 _ r3 g (.d (.bl _)) h2
/-! ### arguments, displays -/
def SAn (K : PySem.W.Frag) (Wx : WX) (RE : REx) (n : Nat) (t : TA) (T : TDA) : Prop :=
  ∀ F H M σ ρ (R : List W → Mem → Prop) (Q : List V → Hp → Prop), Rl K F H M → XOk K F H M Wx RE → RelS K F σ ρ → T ρ M R → (∀ vs H' F' M' xs, Rl K F' H' M' → Gr F H M F' H' M' → RWs K F' vs xs → xs.length = n → R xs M' → Q vs H') → t σ H Q
@[reducible] def nilA : TDA := fun _ M R => R [] M
@[reducible] def consA (T : TDE) (U : TDA) : TDA := fun ρ M R => T ρ M fun x M1 => U ρ M1 fun xs M2 => R (x :: xs) M2
theorem sa_nil : SAn K Wx RE 0 tNil nilA := fun F H M σ ρ R Q hr hx hs ht k => k [] H F M [] hr .refl .nil rfl ht
theorem sa_cons {n : Nat} {t : TE} {u : TA} {T : TDE} {U : TDA} (ha : SE K Wx RE t T) (hb : SAn K Wx RE n u U) : SAn K Wx RE (n + 1) (tCons t u) (consA T U) := fun F H M σ ρ R Q hr hx hs ht k =>
  ha F H M σ ρ _ _ hr hx hs ht fun v H1 F1 M1 x r1 g1 rx h1 => hb F1 H1 M1 σ ρ _ _ r1 (hx.mono g1) (hs.mono g1.ff) h1 fun vs H2 F2 M2 xs r2 g2 rxs hl h2 =>
    k (v :: vs) H2 F2 M2 (x :: xs) r2 (g1.trans g2) (.cons (rx.mono g2.ff) rxs) (by rw [List.length_cons, hl]) h2
/-- all of them data -/
inductive gDs (xs : List W) (k : List PyData → Prop) : Prop where
  | mk (ds : List PyData) (h : xs = ds.map W.d) (q : k ds)
theorem gDs_of {xs : List W} {k : List PyData → Prop} (h : gDs xs k) : ∃ ds, xs = ds.map W.d ∧ k ds := by
  cases h with
  | mk ds h q => exact ⟨ds, h, q⟩
theorem map_injD {α β : Type} {f : α → β} (hf : ∀ a b, f a = f b → a = b) : ∀ {xs ys : List α}, xs.map f = ys.map f → xs = ys
  | [], [], _ => rfl
  | [], _ :: _, h => by cases h
  | _ :: _, [], h => by cases h
  | x :: xs, y :: ys, h => by
    rw [List.map_cons, List.map_cons] at h
    injection h with h1 h2
    rw [hf _ _ h1, map_injD hf h2]
theorem gDs_map {ds : List PyData} {k : List PyData → Prop} : gDs (ds.map W.d) k = k ds := propext ⟨fun h => by
  obtain ⟨es, e, q⟩ := gDs_of h
  rw [map_injD (fun a b h => by injection h) e]
  exact q, fun q => .mk ds rfl q⟩
theorem gDs_n {k : List PyData → Prop} (q : k []) : gDs [] k := .mk [] rfl q
theorem gDs_c {a : PyData} {r : List W} {k : List PyData → Prop} (h : gDs r fun ds => k (a :: ds)) : gDs (.d a :: r) k := by
  obtain ⟨ds, rfl, q⟩ := gDs_of h
  exact .mk (a :: ds) rfl q
@[reducible] def tupT (T : TDA) : TDE := fun ρ M R => T ρ M fun xs M1 => gDs xs fun ds => R (.d (.tuple ds)) M1
@[reducible] def lsfT (T : TDA) : TDE := fun ρ M R => T ρ M fun xs M1 => gDs xs fun ds => R (.d (.list ds)) M1
@[reducible] def lstT (T : TDA) : TDE := fun ρ M R => T ρ M fun xs M1 => ∀ p, M1 p = none → R (.r p) (mset M1 p (.lst xs))
theorem se_tup {n : Nat} {t : TA} {T : TDA} (h : SAn K Wx RE n t T) (hn : n ≤ 1000 := by decide) : SE K Wx RE (tTup t) (tupT T) := fun F H M σ ρ R Q hr hx hs ht k =>
  h F H M σ ρ _ _ hr hx hs ht fun vs H1 F1 M1 xs r1 g1 rxs hl h1 => by
    obtain ⟨ds, rfl, h2⟩ := gDs_of h1
    refine ⟨by rw [rxs.len, hl]; exact sz1000 hn, fun p hp => ?_⟩
    obtain ⟨r2, g2, rz⟩ := r1.tup hp rxs.undat
    exact k _ _ _ _ _ r2 (g1.trans g2) rz h2
theorem se_lsf {n : Nat} {t : TA} {T : TDA} (h : SAn K Wx RE n t T) (hn : n ≤ 1000 := by decide) : SE K Wx RE (tLst t) (lsfT T) := fun F H M σ ρ R Q hr hx hs ht k =>
  h F H M σ ρ _ _ hr hx hs ht fun vs H1 F1 M1 xs r1 g1 rxs hl h1 => by
    obtain ⟨ds, rfl, h2⟩ := gDs_of h1
    refine ⟨by rw [rxs.len, hl]; exact sz1000 hn, fun p hp => ?_⟩
    obtain ⟨r2, g2, rz⟩ := r1.list hp rxs.undat
    exact k _ _ _ _ _ r2 (g1.trans g2) rz h2
theorem se_lst {n : Nat} {t : TA} {T : TDA} (h : SAn K Wx RE n t T) (hn : n ≤ 1000 := by decide) : SE K Wx RE (tLst t) (lstT T) := fun F H M σ ρ R Q hr hx hs ht k =>
  h F H M σ ρ _ _ hr hx hs ht fun vs H1 F1 M1 xs r1 g1 rxs hl h1 => by
    refine ⟨by rw [rxs.len, hl]; exact sz1000 hn, fun p hp => ?_⟩
    obtain ⟨r2, g2⟩ := r1.born (u := .lst vs) (o := .lst xs) hp ⟨vs, rfl, rxs⟩
    exact k _ _ _ _ _ r2 (g1.trans g2) (.r p) (h1 p (r1.new hp))
/-! ### items -/
/-- the items of a list, data or not -/
@[reducible] def gW (M : Mem) (x : W) (k : List W → Prop) : Prop := match x with
  | .d (.list ds) => k (ds.map W.d)
  | .r a => ∃ ws, M a = some (.lst ws) ∧ k ws
  | _ => False
theorem gW_of {F H : Hp} {M : Mem} {v : V} {x : W} {k : List W → Prop} (hr : Rl K F H M) (r : RW K F v x) (h : gW M x k) : ∃ a vs ws, v = .ref a ∧ H a = some (.lst vs) ∧ RWs K F vs ws ∧ k ws := by
  unfold gW at h
  split at h
  · obtain ⟨a, xs, rfl, h1, h2⟩ := r.lst
    exact ⟨a, xs, _, rfl, hr.fh _ _ h1, .dat h2, h⟩
  · obtain ⟨ws, h1, h2⟩ := h
    obtain ⟨vs, h3, h4⟩ := hr.lst h1
    exact ⟨_, vs, ws, r.ref, h3, h4, h2⟩
  · exact h.elim
theorem atI_map {α β : Type} (f : α → β) (xs : List α) (i : Int) : atI (xs.map f) i = (atI xs i).map f := by
  unfold atI
  rw [List.length_map]
  cases ixN xs.length i with
  | none => rfl
  | some j => simp
theorem atI_rw {F : Hp} {vs : List V} {xs : List W} {i : Int} {x : W} (r : RWs K F vs xs) (h : atI xs i = some x) : ∃ v, atI vs i = some v ∧ RW K F v x := by
  unfold atI at h ⊢
  rw [r.len]
  cases c : ixN xs.length i with
  | none => rw [c] at h; cases h
  | some j => rw [c] at h; exact r.got h
theorem atI_dx {F : Hp} {vs : List V} {ds : List PyData} {i : Int} {d : PyData} (r : DxL K F vs ds) (h : atI ds i = some d) : ∃ v, atI vs i = some v ∧ Dx K F v d := by
  unfold atI at h ⊢
  rw [r.len]
  cases c : ixN ds.length i with
  | none => rw [c] at h; cases h
  | some j => rw [c] at h; exact r.got h
@[reducible] def fIxT : F2 := fun x y M R => gT x fun ds => gI y fun i => gO (atI ds i) fun d => R (.d d) M
@[reducible] def fIxL : F2 := fun x y M R => gW M x fun ws => gI y fun i => gO (atI ws i) fun w => R w M
@[reducible] def fIxS : F2 := fun x y M R => gS x fun z => gI y fun i => z.length ≤ sizeLine ∧ gO (atI z.cps.toList i) fun c => R (.d (.str ⟨#[c]⟩)) M
theorem so_ixT : SO K (rIxT K) fIxT := fun F H M v u x y R Q hr rx ry hf k => by
  obtain ⟨ds, rfl, h1⟩ := gT_of hf
  obtain ⟨i, rfl, h2⟩ := gI_of h1
  obtain ⟨d, h3, h4⟩ := gO_of h2
  obtain ⟨a, xs, rfl, h5, h6⟩ := rx.tup
  obtain ⟨w, h7, h8⟩ := atI_dx h6 h3
  exact ⟨a, xs, i, w, rfl, ry.int, same_t hr.fh h5, h7, k _ H F M _ hr .refl (.d h8) h4⟩
theorem so_ixL : SO K (rIxL K) fIxL := fun F H M v u x y R Q hr rx ry hf k => by
  obtain ⟨a, vs, ws, rfl, h1, h2, h3⟩ := gW_of hr rx hf
  obtain ⟨i, rfl, h4⟩ := gI_of h3
  obtain ⟨w, h5, h6⟩ := gO_of h4
  obtain ⟨u2, h7, h8⟩ := atI_rw h2 h5
  exact ⟨a, vs, i, u2, rfl, ry.int, SqL.of h1, h7, k _ H F M _ hr .refl h8 h6⟩
theorem so_ixS : SO K rIxS fIxS := fun F H M v u x y R Q hr rx ry hf k => by
  obtain ⟨z, rfl, h1⟩ := gS_of hf
  obtain ⟨i, rfl, hz, h2⟩ := gI_of h1
  obtain ⟨c, h3, h4⟩ := gO_of h2
  exact ⟨z, i, c, rx.str, ry.int, hz, h3, k _ H F M _ hr .refl (.d (.str _)) h4⟩
/-! ### slices -/
abbrev TDO := EnvD → Mem → (Option Int → Mem → Prop) → Prop
def SPt (K : PySem.W.Frag) (Wx : WX) (RE : REx) (t : TO) (T : TDO) : Prop :=
  ∀ F H M σ ρ (R : Option Int → Mem → Prop) (Q : Option Int → Hp → Prop), Rl K F H M → XOk K F H M Wx RE → RelS K F σ ρ → T ρ M R → (∀ o H' F' M', Rl K F' H' M' → Gr F H M F' H' M' → R o M' → Q o H') → t σ H Q
@[reducible] def noP : TDO := fun _ M R => R none M
@[reducible] def someP (T : TDE) : TDO := fun ρ M R => T ρ M fun x M1 => gI x fun i => R (some i) M1
theorem sp_no : SPt K Wx RE tNoPart noP := fun F H M σ ρ R Q hr hx hs ht k => k none H F M hr .refl ht
theorem sp_some {t : TE} {T : TDE} (h : SE K Wx RE t T) : SPt K Wx RE (tPart t) (someP T) := fun F H M σ ρ R Q hr hx hs ht k =>
  h F H M σ ρ _ _ hr hx hs ht fun v H1 F1 M1 x r1 g1 rx h1 => by
    obtain ⟨i, rfl, h2⟩ := gI_of h1
    exact ⟨i, rx.int, k _ H1 F1 M1 r1 g1 h2⟩
abbrev FSl := W → Option Int → Option Int → Mem → (W → Mem → Prop) → Prop
def SSl (K : PySem.W.Frag) (r : V → Option Int → Option Int → Hp → VK → Prop) (f : FSl) : Prop := ∀ F H M v x lo hi R Q, Rl K F H M → RW K F v x → f x lo hi M R → Kt K F H M R Q → r v lo hi H Q
@[reducible] def slT (f : FSl) (T : TDE) (Tl Th : TDO) : TDE := fun ρ M R => T ρ M fun x M1 => Tl ρ M1 fun lo M2 => Th ρ M2 fun hi M3 => f x lo hi M3 R
theorem se_sl {r : V → Option Int → Option Int → Hp → VK → Prop} {f : FSl} {te : TE} {tl th : TO} {T : TDE} {Tl Th : TDO} (ho : SSl K r f) (he : SE K Wx RE te T) (hl : SPt K Wx RE tl Tl) (hh : SPt K Wx RE th Th) : SE K Wx RE (tSl r te tl th) (slT f T Tl Th) := fun F H M σ ρ R Q hr hx hs ht k =>
  he F H M σ ρ _ _ hr hx hs ht fun v H1 F1 M1 x r1 g1 rx h1 => hl F1 H1 M1 σ ρ _ _ r1 (hx.mono g1) (hs.mono g1.ff) h1 fun lo H2 F2 M2 r2 g2 h2 =>
    hh F2 H2 M2 σ ρ _ _ r2 (hx.mono (g1.trans g2)) (hs.mono (g1.trans g2).ff) h2 fun hi H3 F3 M3 r3 g3 h3 =>
      ho F3 H3 M3 v x lo hi R Q r3 (rx.mono (g2.trans g3).ff) h3 fun w H4 F4 M4 z r4 g4 rz hz => k w H4 F4 M4 z r4 (((g1.trans g2).trans g3).trans g4) rz hz
def cut {α : Type} (xs : List α) (lo hi : Option Int) : List α := (xs.drop (HT.sIx xs.length 0 lo)).take (HT.sIx xs.length xs.length hi - HT.sIx xs.length 0 lo)
theorem cut_dx {F : Hp} {vs : List V} {ds : List PyData} {lo hi : Option Int} (r : DxL K F vs ds) : DxL K F (cutV vs lo hi) (cut ds lo hi) := by
  unfold cutV cut
  rw [r.len]
  exact (r.drop _).take _
theorem cut_whole {α : Type} {xs : List α} {lo hi : Option Int} (h : HT.sIx xs.length 0 lo = 0 ∧ HT.sIx xs.length xs.length hi = xs.length) : cut xs lo hi = xs := by
  unfold cut
  rw [h.1, h.2, List.drop_zero, Nat.sub_zero, List.take_length]
@[reducible] def fSlT : FSl := fun x lo hi M R => gT x fun ds => R (.d (.tuple (cut ds lo hi))) M
theorem sl_T : SSl K (rSlA K) fSlT := fun F H M v x lo hi R Q hr rx hf k => by
  obtain ⟨ds, rfl, h1⟩ := gT_of hf
  obtain ⟨a, xs, rfl, h2, h3⟩ := rx.tup
  refine ⟨a, xs, rfl, same_t hr.fh h2, fun hw => ?_, fun _ p hp => ?_⟩
  · rw [h3.len] at hw
    rw [cut_whole hw] at h1
    exact k _ H F M _ hr .refl rx h1
  · obtain ⟨r2, g2, rz⟩ := hr.tup hp (cut_dx (lo := lo) (hi := hi) h3)
    exact k _ _ _ _ _ r2 g2 rz h1
/-- a slice of a list: data -/
@[reducible] def fSlF : FSl := fun x lo hi M R => gW M x fun ws => gDs ws fun ds => R (.d (.list (cut ds lo hi))) M
theorem sl_F : SSl K (rSlL K) fSlF := fun F H M v x lo hi R Q hr rx hf k => by
  obtain ⟨a, vs, ws, rfl, h1, h2, h3⟩ := gW_of hr rx hf
  obtain ⟨ds, rfl, h4⟩ := gDs_of h3
  refine ⟨a, vs, rfl, SqL.of h1, fun p hp => ?_⟩
  obtain ⟨r2, g2, rz⟩ := hr.list hp (cut_dx (lo := lo) (hi := hi) h2.undat)
  exact k _ _ _ _ _ r2 g2 rz h4
@[reducible] def fSlS : FSl := fun x lo hi M R => gS x fun z => z.length ≤ sizeLine ∧ R (.d (.str (cutS z lo hi))) M
theorem sl_S : SSl K rSlS fSlS := fun F H M v x lo hi R Q hr rx hf k => by
  obtain ⟨z, rfl, hz, h1⟩ := gS_of hf
  exact ⟨z, rx.str, hz, k _ H F M _ hr .refl (.d (.str _)) h1⟩
/-! ### + and * of rows -/
@[reducible] def fCatT : F2 := fun x y M R => gT x fun a => gT y fun b => a.length + b.length ≤ sizeLine ∧ R (.d (.tuple (a ++ b))) M
theorem so_catT : SO K (rCatA K) fCatT := fun F H M v u x y R Q hr rx ry hf k => by
  obtain ⟨a, rfl, h1⟩ := gT_of hf
  obtain ⟨b, rfl, hz, h2⟩ := gT_of h1
  obtain ⟨p, xs, rfl, h3, h4⟩ := rx.tup
  obtain ⟨q, ys, rfl, h5, h6⟩ := ry.tup
  refine ⟨p, q, xs, ys, rfl, rfl, same_t hr.fh h3, same_t hr.fh h5, by rw [h4.len, h6.len]; exact hz, fun e => ?_, fun _ e => ?_, fun _ _ t ht => ?_⟩
  · have ea : a = [] := by
      apply List.eq_nil_of_length_eq_zero
      rw [← h4.len, e]
      rfl
    subst ea
    exact k _ H F M _ hr .refl ry h2
  · have eb : b = [] := by
      apply List.eq_nil_of_length_eq_zero
      rw [← h6.len, e]
      rfl
    subst eb
    rw [List.append_nil] at h2
    exact k _ H F M _ hr .refl rx h2
  · obtain ⟨r2, g2, rz⟩ := hr.tup ht (h4.app h6)
    exact k _ _ _ _ _ r2 g2 rz h2
/-- list + list: data -/
@[reducible] def fCatF : F2 := fun x y M R => gW M x fun a => gW M y fun b => gDs a fun a => gDs b fun b => a.length + b.length ≤ sizeLine ∧ R (.d (.list (a ++ b))) M
theorem so_catF : SO K rCat fCatF := fun F H M v u x y R Q hr rx ry hf k => by
  obtain ⟨p, vs, ws, rfl, h1, h2, h3⟩ := gW_of hr rx hf
  obtain ⟨q, us, zs, rfl, h4, h5, h6⟩ := gW_of hr ry h3
  obtain ⟨a, rfl, h7⟩ := gDs_of h6
  obtain ⟨b, rfl, hz, h8⟩ := gDs_of h7
  refine ⟨p, q, vs, us, rfl, rfl, h1, h4, by rw [h2.len, h5.len, List.length_map, List.length_map]; exact hz, fun t ht => ?_⟩
  obtain ⟨r2, g2, rz⟩ := hr.list ht (h2.undat.app h5.undat)
  exact k _ _ _ _ _ r2 g2 rz h8
end
end Tl
set_option Elab.async false
set_option linter.all false
set_option maxRecDepth 100000
set_option maxHeartbeats 4000000
namespace Tl
open PySem L2
section
variable {K : PySem.W.Frag} {Wx : WX} {RE : REx}
/-! ### built-in calls -/
@[reducible] def cbT (f : FL) (T : TDA) : TDE := fun ρ M R => T ρ M fun xs M1 => f xs M1 R
theorem se_cb {n : Nat} {r : List V → Hp → VK → Prop} {f : FL} {t : TA} {T : TDA} (ho : SC K r f) (h : SAn K Wx RE n t T) : SE K Wx RE (tCB r t) (cbT f T) := fun F H M σ ρ R Q hr hx hs ht k =>
  h F H M σ ρ _ _ hr hx hs ht fun vs H1 F1 M1 xs r1 g1 rxs hl h1 => ho F1 H1 M1 vs xs R Q r1 rxs h1 fun w H2 F2 M2 z r2 g2 rz hz => k w H2 F2 M2 z r2 (g1.trans g2) rz hz
@[reducible] def g1 (xs : List W) (k : W → Prop) : Prop := match xs with | [x] => k x | _ => False
@[reducible] def g2 (xs : List W) (k : W → W → Prop) : Prop := match xs with | [x, y] => k x y | _ => False
theorem g1_of {xs : List W} {k : W → Prop} (h : g1 xs k) : ∃ x, xs = [x] ∧ k x := by
  unfold g1 at h
  split at h
  · exact ⟨_, rfl, h⟩
  · exact h.elim
theorem g2_of {xs : List W} {k : W → W → Prop} (h : g2 xs k) : ∃ x y, xs = [x, y] ∧ k x y := by
  unfold g2 at h
  split at h
  · exact ⟨_, _, rfl, h⟩
  · exact h.elim
theorem RWs.one {F : Hp} {vs : List V} {x : W} (r : RWs K F vs [x]) : ∃ v, vs = [v] ∧ RW K F v x := by
  cases r with
  | cons a b => cases b; exact ⟨_, rfl, a⟩
theorem RWs.two {F : Hp} {vs : List V} {x y : W} (r : RWs K F vs [x, y]) : ∃ v u, vs = [v, u] ∧ RW K F v x ∧ RW K F u y := by
  cases r with
  | cons a b => cases b with | cons b c => cases c; exact ⟨_, _, rfl, a, b⟩
/-- the length of a row -/
@[reducible] def fLen : FL := fun xs M R => g1 xs fun x => match x with
  | .d (.tuple ds) => R (.d (.int ds.length)) M
  | x => gW M x fun ws => R (.d (.int ws.length)) M
theorem sc_len : SC K (fun xs H Q => ∃ p ys, xs = [V.ref p] ∧ (SqL K H p ys ∨ SqT K H p ys) ∧ Q (.int ys.length) H) fLen := fun F H M vs xs R Q hr rx hf k => by
  obtain ⟨x, rfl, h1⟩ := g1_of hf
  obtain ⟨v, rfl, r⟩ := rx.one
  have hw : (∀ ds, x ≠ .d (.tuple ds)) → gW M x (fun ws => R (.d (.int ws.length)) M) := fun hn => by
    cases x with
    | d a =>
      cases a with
      | tuple ds => exact absurd rfl (hn ds)
      | _ => exact h1
    | r a => exact h1
    | o a => exact h1
    | x a C dd fs => exact h1
  by_cases c : ∃ ds, x = .d (.tuple ds)
  · obtain ⟨ds, rfl⟩ := c
    obtain ⟨a, xs, rfl, h2, h3⟩ := r.tup
    refine ⟨a, xs, rfl, .inr (same_t hr.fh h2), ?_⟩
    rw [h3.len]
    exact k _ H F M _ hr .refl (.d (.int _)) h1
  · obtain ⟨a, us, ws, rfl, h2, h3, h4⟩ := gW_of hr r (hw fun ds e => c ⟨ds, e⟩)
    refine ⟨a, us, rfl, .inl (SqL.of h2), ?_⟩
    rw [h3.len]
    exact k _ H F M _ hr .refl (.d (.int _)) h4
@[reducible] def fLenS : FL := fun xs M R => g1 xs fun x => gS x fun z => z.length ≤ sizeLine ∧ R (.d (.int z.length)) M
theorem sc_lenS : SC K (fun xs H Q => ∃ z, xs = [V.str z] ∧ z.length ≤ sizeLine ∧ Q (.int z.length) H) fLenS := fun F H M vs xs R Q hr rx hf k => by
  obtain ⟨x, rfl, h1⟩ := g1_of hf
  obtain ⟨v, rfl, r⟩ := rx.one
  obtain ⟨z, rfl, hz, h2⟩ := gS_of h1
  exact ⟨z, by rw [r.str], hz, k _ H F M _ hr .refl (.d (.int _)) h2⟩
/-- all truths -/
inductive gBs (xs : List W) (k : List Bool → Prop) : Prop where
  | mk (bs : List Bool) (h : xs = bs.map fun b => W.d (.bool b)) (q : k bs)
theorem gBs_of {xs : List W} {k : List Bool → Prop} (h : gBs xs k) : ∃ bs : List Bool, xs = bs.map (fun b => W.d (.bool b)) ∧ k bs := by
  cases h with
  | mk bs h q => exact ⟨bs, h, q⟩
theorem gBs_map {α : Type} (g : α → Bool) {xs : List α} {k : List Bool → Prop} : gBs (xs.map fun a => W.d (.bool (g a))) k = k (xs.map g) := propext ⟨fun h => by
  obtain ⟨es, e, q⟩ := gBs_of h
  rw [show (xs.map fun a => W.d (.bool (g a))) = (xs.map g).map fun b => W.d (.bool b) by rw [List.map_map]; rfl] at e
  rw [map_injD (fun a b h => by injection h with h; injection h) e]
  exact q, fun q => .mk (xs.map g) (by rw [List.map_map]; rfl) q⟩
theorem gBs_n {k : List Bool → Prop} (q : k []) : gBs [] k := .mk [] rfl q
theorem gBs_c {x : W} {r : List W} {k : List Bool → Prop} (h : gB x fun b => gBs r fun bs => k (b :: bs)) : gBs (x :: r) k := by
  obtain ⟨a, rfl, h⟩ := gB_of h
  obtain ⟨bs, rfl, q⟩ := gBs_of h
  exact .mk (a :: bs) rfl q
inductive gIs (xs : List W) (k : List Int → Prop) : Prop where
  | mk (bs : List Int) (h : xs = bs.map fun b => W.d (.int b)) (q : k bs)
theorem gIs_of {xs : List W} {k : List Int → Prop} (h : gIs xs k) : ∃ bs : List Int, xs = bs.map (fun b => W.d (.int b)) ∧ k bs := by
  cases h with
  | mk bs h q => exact ⟨bs, h, q⟩
theorem gIs_map {α : Type} (g : α → Int) {xs : List α} {k : List Int → Prop} : gIs (xs.map fun a => W.d (.int (g a))) k = k (xs.map g) := propext ⟨fun h => by
  obtain ⟨es, e, q⟩ := gIs_of h
  rw [show (xs.map fun a => W.d (.int (g a))) = (xs.map g).map fun b => W.d (.int b) by rw [List.map_map]; rfl] at e
  rw [map_injD (fun a b h => by injection h with h; injection h) e]
  exact q, fun q => .mk (xs.map g) (by rw [List.map_map]; rfl) q⟩
theorem gIs_n {k : List Int → Prop} (q : k []) : gIs [] k := .mk [] rfl q
theorem gIs_c {x : W} {r : List W} {k : List Int → Prop} (h : gI x fun b => gIs r fun bs => k (b :: bs)) : gIs (x :: r) k := by
  obtain ⟨a, rfl, h⟩ := gI_of h
  obtain ⟨bs, rfl, q⟩ := gIs_of h
  exact .mk (a :: bs) rfl q
inductive gSs (xs : List W) (k : List Str → Prop) : Prop where
  | mk (bs : List Str) (h : xs = bs.map fun b => W.d (.str b)) (q : k bs)
theorem gSs_of {xs : List W} {k : List Str → Prop} (h : gSs xs k) : ∃ bs : List Str, xs = bs.map (fun b => W.d (.str b)) ∧ k bs := by
  cases h with
  | mk bs h q => exact ⟨bs, h, q⟩
theorem gSs_map {α : Type} (g : α → Str) {xs : List α} {k : List Str → Prop} : gSs (xs.map fun a => W.d (.str (g a))) k = k (xs.map g) := propext ⟨fun h => by
  obtain ⟨es, e, q⟩ := gSs_of h
  rw [show (xs.map fun a => W.d (.str (g a))) = (xs.map g).map fun b => W.d (.str b) by rw [List.map_map]; rfl] at e
  rw [map_injD (fun a b h => by injection h with h; injection h) e]
  exact q, fun q => .mk (xs.map g) (by rw [List.map_map]; rfl) q⟩
theorem gSs_n {k : List Str → Prop} (q : k []) : gSs [] k := .mk [] rfl q
theorem gSs_c {x : W} {r : List W} {k : List Str → Prop} (h : gS x fun b => gSs r fun bs => k (b :: bs)) : gSs (x :: r) k := by
  obtain ⟨a, rfl, h⟩ := gS_of h
  obtain ⟨bs, rfl, q⟩ := gSs_of h
  exact .mk (a :: bs) rfl q
theorem rws_bl {F : Hp} : ∀ {bs : List Bool} {vs : List V}, RWs K F vs (bs.map fun b => W.d (.bool b)) → vs = bs.map V.bl
  | [], _, h => by cases h; rfl
  | b :: bs, _, h => by
    cases h with
    | cons a c => rw [rws_bl c, a.bl]; rfl
theorem rws_int {F : Hp} : ∀ {bs : List Int} {vs : List V}, RWs K F vs (bs.map fun b => W.d (.int b)) → vs = bs.map V.int
  | [], _, h => by cases h; rfl
  | b :: bs, _, h => by
    cases h with
    | cons a c => rw [rws_int c, a.int]; rfl
theorem rws_str {F : Hp} : ∀ {bs : List Str} {vs : List V}, RWs K F vs (bs.map fun b => W.d (.str b)) → vs = bs.map V.str
  | [], _, h => by cases h; rfl
  | b :: bs, _, h => by
    cases h with
    | cons a c => rw [rws_str c, a.str]; rfl
@[reducible] def fAll : FL := fun xs M R => g1 xs fun x => gW M x fun ws => gBs ws fun bs => R (.d (.bool (bs.all id))) M
theorem sc_all : SC K (rAll K) fAll := fun F H M vs xs R Q hr rx hf k => by
  obtain ⟨x, rfl, h1⟩ := g1_of hf
  obtain ⟨v, rfl, r⟩ := rx.one
  obtain ⟨a, us, ws, rfl, h2, h3, h4⟩ := gW_of hr r h1
  obtain ⟨bs, rfl, h5⟩ := gBs_of h4
  refine ⟨a, bs, rfl, ?_, k _ H F M _ hr .refl (.d (.bl _)) h5⟩
  rw [← rws_bl h3]
  exact SqL.of h2
@[reducible] def fSum : FL := fun xs M R => g1 xs fun x => gW M x fun ws => gIs ws fun bs => R (.d (.int bs.sum)) M
theorem sc_sum : SC K (rSum K) fSum := fun F H M vs xs R Q hr rx hf k => by
  obtain ⟨x, rfl, h1⟩ := g1_of hf
  obtain ⟨v, rfl, r⟩ := rx.one
  obtain ⟨a, us, ws, rfl, h2, h3, h4⟩ := gW_of hr r h1
  obtain ⟨bs, rfl, h5⟩ := gIs_of h4
  refine ⟨a, bs, rfl, ?_, k _ H F M _ hr .refl (.d (.int _)) h5⟩
  rw [← rws_int h3]
  exact SqL.of h2
/-- tuple(..) -/
@[reducible] def fTuple : FL := fun xs M R => g1 xs fun x => match x with
  | .d (.tuple ds) => R (.d (.tuple ds)) M
  | x => gW M x fun ws => gDs ws fun ds => R (.d (.tuple ds)) M
theorem sc_tuple : SC K (fun xs H Q => ∃ p ys, xs = [V.ref p] ∧ ((SqL K H p ys ∧ ∀ l, H l = none → Q (.ref l) (upd H l (.tup ys))) ∨ (SqT K H p ys ∧ Q (.ref p) H))) fTuple := fun F H M vs xs R Q hr rx hf k => by
  obtain ⟨x, rfl, h1⟩ := g1_of hf
  obtain ⟨v, rfl, r⟩ := rx.one
  have hw : (∀ ds, x ≠ .d (.tuple ds)) → gW M x (fun ws => gDs ws fun ds => R (.d (.tuple ds)) M) := fun hn => by
    cases x with
    | d a =>
      cases a with
      | tuple ds => exact absurd rfl (hn ds)
      | _ => exact h1
    | r a => exact h1
    | o a => exact h1
    | x a C dd fs => exact h1
  by_cases c : ∃ ds, x = .d (.tuple ds)
  · obtain ⟨ds, rfl⟩ := c
    obtain ⟨a, xs, rfl, h2, h3⟩ := r.tup
    exact ⟨a, xs, rfl, .inr ⟨same_t hr.fh h2, k _ H F M _ hr .refl r h1⟩⟩
  · obtain ⟨a, us, ws, rfl, h2, h3, h4⟩ := gW_of hr r (hw fun ds e => c ⟨ds, e⟩)
    obtain ⟨ds, rfl, h5⟩ := gDs_of h4
    refine ⟨a, us, rfl, .inl ⟨SqL.of h2, fun l hl => ?_⟩⟩
    obtain ⟨r2, g2, rz⟩ := hr.tup hl h3.undat
    exact k _ _ _ _ _ r2 g2 rz h5
/-- the items of a row as data -/
@[reducible] def gRow (M : Mem) (x : W) (k : List W → Prop) : Prop := match x with
  | .d (.tuple ds) => k (ds.map W.d)
  | x => gW M x k
theorem gRow_of {F H : Hp} {M : Mem} {v : V} {x : W} {k : List W → Prop} (hr : Rl K F H M) (r : RW K F v x) (h : gRow M x k) : ∃ a vs ws, v = .ref a ∧ (SqL K H a vs ∨ SqT K H a vs) ∧ RWs K F vs ws ∧ k ws := by
  unfold gRow at h
  split at h
  · obtain ⟨a, xs, rfl, h1, h2⟩ := r.tup
    exact ⟨a, xs, _, rfl, .inr (same_t hr.fh h1), .dat h2, h⟩
  · obtain ⟨a, vs, ws, h1, h2, h3, h4⟩ := gW_of hr r h
    exact ⟨a, vs, ws, h1, .inl (SqL.of h2), h3, h4⟩
/-- repr: the text of data -/
def shOk (d : PyData) : Prop := d.showable = true ∧ d.depth ≤ 100 ∧ d.shown.length ≤ sizeLine
@[reducible] def isList : PyData → Bool
  | .list _ => true
  | _ => false
/-! ### isinstance -/
def tyIs (d : PyData) (n : String) : Option Bool :=
  if n = "int" then some (isInt d) else if n = "bool" then some (isBl d) else if n = "str" then some (isStr d) else if n = "tuple" then some (isTup d) else if n = "list" then some (isList d) else none
theorem kit_lst (d : PyData) : kitB (tyName d) "list" = some (isList d) := by cases d <;> (simp only [tyName, isList]; decide +kernel)
theorem tyIs_kit {d : PyData} {n : String} {b : Bool} (h : tyIs d n = some b) : kitB (tyName d) n = some b := by
  unfold tyIs at h
  split at h
  · rename_i e; subst e; rw [← h]; exact kit_int d
  · split at h
    · rename_i e; subst e; rw [← h]; exact kit_bl d
    · split at h
      · rename_i e; subst e; rw [← h]; exact kit_str d
      · split at h
        · rename_i e; subst e; rw [← h]; exact kit_tup d
        · split at h
          · rename_i e; subst e; rw [← h]; exact kit_lst d
          · cases h
theorem ty_dx {H : Hp} {v : V} {d : PyData} (h : Dx K H v d) : TyX K H v (.type (tyName d)) := by
  cases h with
  | non => exact .base .non
  | bl b => exact .base (.bl b)
  | int i => exact .base (.int i)
  | str x => exact .base (.str x)
  | lst hs _ => exact .base (.lst hs)
  | tup hs _ =>
    rcases hs with (h | ⟨o, h⟩) | ⟨o, its, n, h1, h2, _⟩
    · exact .base (.tup h)
    · exact .fTuple h
    · exact .kTuple h1 h2
  | dic h => exact .base (.dK h)
@[reducible] def fIsi : FL := fun xs M R => g2 xs fun x y => match y with
  | .o (.ty n) => (match x with
    | .d a => gO (tyIs a n) fun b => R (.d (.bool b)) M
    | .r a => ∃ ws, M a = some (.lst ws) ∧ gO (tyIs (.list []) n) fun b => R (.d (.bool b)) M
    | _ => False)
  | _ => False
theorem sc_isi : SC K (rIsi K) fIsi := fun F H M vs xs R Q hr rx hf k => by
  obtain ⟨x, y, rfl, h1⟩ := g2_of hf
  obtain ⟨v, u, rfl, r, r'⟩ := rx.two
  cases y with
  | d a => exact h1.elim
  | r a => exact h1.elim
  | x a C dd fs => exact h1.elim
  | o z =>
    cases r'
    cases u with
    | ty n =>
      cases x with
      | o a => exact h1.elim
      | x a C dd fs => exact h1.elim
      | d a =>
        obtain ⟨b, h2, h3⟩ := gO_of h1
        exact ⟨v, .ty n, _, _, b, rfl, .ty n, ty_dx (Dx.mono hr.fh _ _ r.dx), kit_ty (tyIs_kit h2), k _ H F M _ hr .refl (.d (.bl _)) h3⟩
      | r a =>
        obtain ⟨ws, h0, h2⟩ := h1
        obtain ⟨b, h3, h4⟩ := gO_of h2
        obtain ⟨us, h5, h6⟩ := hr.lst h0
        rw [r.ref]
        have hk : kitB "list" n = some b := tyIs_kit (d := .list []) h3
        exact ⟨.ref a, .ty n, .type "list", _, b, rfl, .ty n, .base (.lst h5), kit_ty hk, k _ H F M _ hr .refl (.d (.bl _)) h4⟩
    | _ => exact h1.elim
/-! ### methods of a list that may change -/
/-- a method of a list -/
def SM (K : PySem.W.Frag) (r : V → List V → Hp → VK → Prop) (f : W → List W → Mem → (W → Mem → Prop) → Prop) : Prop := ∀ F H M v vs x xs R Q, Rl K F H M → RW K F v x → RWs K F vs xs → f x xs M R → Kt K F H M R Q → r v vs H Q
@[reducible] def bmL (f : W → List W → Mem → (W → Mem → Prop) → Prop) (T : TDE) (U : TDA) : TDE := fun ρ M R => T ρ M fun x M1 => gR x fun a => (∃ ws, M1 a = some (.lst ws)) ∧ U ρ M1 fun xs M2 => f (.r a) xs M2 R
theorem se_bmL {n : Nat} {r : V → List V → Hp → VK → Prop} {f : W → List W → Mem → (W → Mem → Prop) → Prop} {to : TE} {t : TA} {T : TDE} {U : TDA} (ho : SM K r f) (h1 : SE K Wx RE to T) (h2 : SAn K Wx RE n t U) :
    SE K Wx RE (tBM K "list" r to t) (bmL f T U) := fun F H M σ ρ R Q hr hx hs ht k =>
  h1 F H M σ ρ _ _ hr hx hs ht fun v H1 F1 M1 x r1 g1 rx q1 => by
    obtain ⟨a, rfl, ⟨ws, hw⟩, q2⟩ := gR_of q1
    rw [rx.ref]
    obtain ⟨vs, h3, h4⟩ := r1.lst hw
    refine ⟨.inl ⟨rfl, _, SqL.of h3⟩, h2 F1 H1 M1 σ ρ _ _ r1 (hx.mono g1) (hs.mono g1.ff) q2 fun us H2 F2 M2 xs r2 g2 rxs hl q3 => ?_⟩
    exact ho F2 H2 M2 _ us _ xs R Q r2 (.r a) rxs q3 fun w H3 F3 M3 z r3 g3 rz hz => k w H3 F3 M3 z r3 ((g1.trans g2).trans g3) rz hz
@[reducible] def fAppend : W → List W → Mem → (W → Mem → Prop) → Prop := fun x xs M R => gR x fun a => g1 xs fun y => ∃ ws, M a = some (.lst ws) ∧ ws.length < sizeLine ∧ R (.d .none) (mset M a (.lst (ws ++ [y])))
theorem sm_append : SM K rAppend fAppend := fun F H M v vs x xs R Q hr rx rxs hf k => by
  obtain ⟨a, rfl, h1⟩ := gR_of hf
  obtain ⟨y, rfl, ws, h2, hz, h3⟩ := g1_of h1
  obtain ⟨u, rfl, ry⟩ := rxs.one
  obtain ⟨us, h4, h5⟩ := hr.lst h2
  rw [rx.ref]
  refine ⟨a, us, u, rfl, rfl, h4, by rw [h5.len]; exact hz, ?_⟩
  obtain ⟨r2, g2⟩ := hr.put (u := .lst (us ++ [u])) (o := .lst (ws ++ [y])) h2 ⟨_, rfl, h5.app (.cons ry .nil)⟩
  exact k _ _ _ _ _ r2 g2 (.d .non) h3
@[reducible] def fExtend : W → List W → Mem → (W → Mem → Prop) → Prop := fun x xs M R => gR x fun a => g1 xs fun y => ∃ ws, M a = some (.lst ws) ∧ gW M y fun zs => ws.length + zs.length ≤ sizeLine ∧ R (.d .none) (mset M a (.lst (ws ++ zs)))
theorem sm_extend : SM K rExtend fExtend := fun F H M v vs x xs R Q hr rx rxs hf k => by
  obtain ⟨a, rfl, h1⟩ := gR_of hf
  obtain ⟨y, rfl, ws, h2, h3⟩ := g1_of h1
  obtain ⟨u, rfl, ry⟩ := rxs.one
  obtain ⟨us, h4, h5⟩ := hr.lst h2
  obtain ⟨b, zv, zs, rfl, h6, h7, hz, h8⟩ := gW_of hr ry h3
  rw [rx.ref]
  refine ⟨a, b, us, zv, rfl, rfl, h4, h6, by rw [h5.len, h7.len]; exact hz, ?_⟩
  obtain ⟨r2, g2⟩ := hr.put (u := .lst (us ++ zv)) (o := .lst (ws ++ zs)) h2 ⟨_, rfl, h5.app h7⟩
  exact k _ _ _ _ _ r2 g2 (.d .non) h8
/-! ### calls of defs -/
abbrev TF := List W → Mem → (W → Mem → Prop) → (Ex → Mem → Prop) → Prop
/-- the promise of a def by the second layer -/
def spD (K : PySem.W.Frag) (n : Nat) (f : TF) : Sp := fun vs H Q E => ∃ F M ws R RX, Rl K F H M ∧ RWs K F vs ws ∧ ws.length = n ∧ f ws M R RX ∧ Kt K F H M R Q ∧
  ∀ cls d H' F' M' x, Rl K F' H' M' → Gr F H M F' H' M' → XRel K F' cls d x → RX x M' → E cls d H'
@[reducible] def callT (f : TF) (T : TDA) : TDE := fun ρ M R => T ρ M fun xs M1 => f xs M1 R fun _ _ => False
@[reducible] def callX (RE : REx) (f : TF) (T : TDA) : TDE := fun ρ M R => T ρ M fun xs M1 => f xs M1 R fun x M' => RE x ρ M'
theorem se_call {n : Nat} {f : TF} {E : XK} {t : TA} {T : TDA} (h : SAn K Wx RE n t T) : SE K Wx RE (tCall (spD K n f) [] E t) (callT f T) := fun F H M σ ρ R Q hr hx hs ht k =>
  h F H M σ ρ _ _ hr hx hs ht fun vs H1 F1 M1 xs r1 g1 rxs hl h1 => by
    show spD K n f (vs ++ []) H1 Q E
    rw [List.append_nil]
    exact ⟨F1, M1, xs, R, _, r1, rxs, hl, h1, fun w H2 F2 M2 z r2 g2 rz hz => k w H2 F2 M2 z r2 (g1.trans g2) rz hz, fun cls d H' F' M' x _ _ _ z => z.elim⟩
theorem se_callX {n : Nat} {f : TF} {t : TA} {T : TDA} (h : SAn K Wx RE n t T) : SE K Wx RE (tCallS (spD K n f) (WE Wx) t) (callX RE f T) := fun F H M σ ρ R Q hr hx hs ht k =>
  h F H M σ ρ _ _ hr hx hs ht fun vs H1 F1 M1 xs r1 g1 rxs hl h1 =>
    ⟨F1, M1, xs, R, _, r1, rxs, hl, h1, fun w H2 F2 M2 z r2 g2 rz hz => k w H2 F2 M2 z r2 (g1.trans g2) rz hz, fun cls d H' F' M' x r2 g2 xr z => hx F' H' M' σ ρ cls d x (g1.trans g2) r2 (hs.mono (g1.trans g2).ff) xr z⟩
end
end Tl
set_option Elab.async false
set_option linter.all false
set_option maxRecDepth 100000
set_option maxHeartbeats 4000000
namespace Tl
open PySem L2
/-! ### what is walked -/
/-- one turn's item: one thing as it stands, or a pair that is made for it -/
def Yd (K : PySem.W.Frag) (F H : Hp) (x : V) (H' : Hp) (row : List W) (pair : Bool) : Prop :=
  if pair = true then ∃ T v1 v2 w1 w2, row = [w1, w2] ∧ x = .ref T ∧ H T = none ∧ H' = upd H T (.tup [v1, v2]) ∧ RW K F v1 w1 ∧ RW K F v2 w2
  else ∃ w, row = [w] ∧ H' = H ∧ RW K F x w
def ItOk (K : PySem.W.Frag) (F H : Hp) (M : Mem) (J : It) (rows : List (List W)) (keep : Mem → Prop) (pair : Bool) : Prop :=
  ∃ (G : Hp → Prop) (Y : Nat → Hp → V → Hp → Prop), Walk J rows.length G Y ∧ (∀ F2 H2 M2, Rl K F2 H2 M2 → Gr F H M F2 H2 M2 → keep M2 → G H2) ∧
    ∀ i x H2 H3 F2 M2 row, rows[i]? = some row → Rl K F2 H2 M2 → Gr F H M F2 H2 M2 → keep M2 → Y i H2 x H3 → Yd K F2 H2 x H3 row pair
theorem ItOk.of {K : PySem.W.Frag} {F H : Hp} {M : Mem} {J : It} {rows : List (List W)} {keep : Mem → Prop} {pair : Bool} {n : Nat} {G : Hp → Prop} {Y : Nat → Hp → V → Hp → Prop} (wk : Walk J n G Y) (hn : rows.length = n)
    (hG : ∀ F2 H2 M2, Rl K F2 H2 M2 → Gr F H M F2 H2 M2 → keep M2 → G H2) (hY : ∀ i x H2 H3 F2 M2 row, rows[i]? = some row → Rl K F2 H2 M2 → Gr F H M F2 H2 M2 → keep M2 → Y i H2 x H3 → Yd K F2 H2 x H3 row pair) : ItOk K F H M J rows keep pair :=
  ⟨G, Y, by rw [hn]; exact wk, hG, hY⟩
abbrev TDI := EnvD → Mem → (List (List W) → (Mem → Prop) → Mem → Prop) → Prop
def SI (K : PySem.W.Frag) (Wx : WX) (RE : REx) (wi : TI) (pair : Bool) (T : TDI) : Prop :=
  ∀ F H M σ ρ (R : List (List W) → (Mem → Prop) → Mem → Prop) (Q : It → Hp → Prop), Rl K F H M → XOk K F H M Wx RE → RelS K F σ ρ → T ρ M R →
    (∀ J H' F' M' rows keep, Rl K F' H' M' → Gr F H M F' H' M' → ItOk K F' H' M' J rows keep pair → R rows keep M' → Q J H') → wi σ H Q
abbrev TDG := List W → EnvD → Mem → (EnvD → Mem → Prop) → Prop
/-- binding a turn's item: the slots vs alone are changed -/
def SG (K : PySem.W.Frag) (g : TG) (pair : Bool) (vs : List Nat) (b : TDG) : Prop :=
  ∀ F H M x H' row σ ρ (R : EnvD → Mem → Prop) (Q : L2.St → Hp → Prop), Rl K F H M → Yd K F H x H' row pair → RelS K F σ ρ → b row ρ M R →
    (∀ σ' H2 F2 M2 ρ', Rl K F2 H2 M2 → Gr F H M F2 H2 M2 → RelS K F2 σ' ρ' → (wipe σ' vs = wipe σ vs) → R ρ' M2 → Q σ' H2) → g x σ H' Q
section
variable {K : PySem.W.Frag} {Wx : WX} {RE : REx}
@[reducible] def any1 : Mem → Prop := fun _ => True
@[reducible] def rows1 (ws : List W) : List (List W) := ws.map fun w => [w]
/-- over a tuple -/
@[reducible] def itTup (T : TDE) : TDI := fun ρ M R => T ρ M fun x M1 => gT x fun ds => R (rows1 (ds.map W.d)) any1 M1
/-- over a list of data -/
@[reducible] def itLst (T : TDE) : TDI := fun ρ M R => T ρ M fun x M1 => match x with
  | .d (.list ds) => R (rows1 (ds.map W.d)) any1 M1
  | .r a => ∃ ws, M1 a = some (.lst ws) ∧ R (rows1 ws) (fun M => M a = some (.lst ws)) M1
  | _ => False
theorem rows1_get {ws : List W} {i : Nat} {row : List W} (h : (rows1 ws)[i]? = some row) : ∃ w, ws[i]? = some w ∧ row = [w] := by
  unfold rows1 at h
  rw [List.getElem?_map] at h
  obtain ⟨w, h1, h2⟩ := Option.map_eq_some_iff.mp h
  exact ⟨w, h1, h2.symm⟩
theorem si_tup {t : TE} {T : TDE} (h : SE K Wx RE t T) : SI K Wx RE (iTup K t) false (itTup T) := fun F H M σ ρ R Q hr hx hs ht k =>
  h F H M σ ρ _ _ hr hx hs ht fun v H1 F1 M1 x r1 g1 rx h1 => by
    obtain ⟨ds, rfl, h2⟩ := gT_of h1
    obtain ⟨a, xs, rfl, h3, h4⟩ := rx.tup
    refine ⟨a, rfl, ⟨xs, same_t r1.fh h3⟩, k _ H1 F1 M1 _ _ r1 g1 ?_ h2⟩
    refine ItOk.of (walk_tup (K := K) (a := a) (xs := xs)) (by unfold rows1; rw [List.length_map, List.length_map, h4.len]) (fun F2 H2 M2 r2 g2 _ => same_t (g2.ff.trans r2.fh) h3) (fun i x H2 H3 F2 M2 row hrow r2 g2 _ y => ?_)
    · obtain ⟨w, hw, rfl⟩ := rows1_get hrow
      rw [List.getElem?_map] at hw
      obtain ⟨d, hd, rfl⟩ := Option.map_eq_some_iff.mp hw
      obtain ⟨v, hv, dv⟩ := h4.got hd
      obtain ⟨rfl, hy⟩ := y
      rw [hv] at hy
      cases hy
      exact ⟨_, rfl, rfl, .d (Dx.mono g2.ff _ _ dv)⟩
theorem si_lst {t : TE} {T : TDE} (h : SE K Wx RE t T) : SI K Wx RE (iList K t) false (itLst T) := fun F H M σ ρ R Q hr hx hs ht k =>
  h F H M σ ρ _ _ hr hx hs ht fun v H1 F1 M1 x r1 g1 rx h1 => by
    cases x with
    | o a => exact h1.elim
    | x a C dd fs => exact h1.elim
    | d a =>
      cases a with
      | list ds =>
        obtain ⟨a, xs, rfl, h3, h4⟩ := rx.lst
        refine ⟨a, rfl, ⟨xs, SqL.of (r1.fh _ _ h3)⟩, k _ H1 F1 M1 _ _ r1 g1 ?_ h1⟩
        refine ItOk.of (walk_list (K := K) (a := a) (xs := xs)) (by unfold rows1; rw [List.length_map, List.length_map, h4.len]) (fun F2 H2 M2 r2 g2 _ => SqL.of ((g2.ff.trans r2.fh) _ _ h3)) (fun i x H2 H3 F2 M2 row hrow r2 g2 _ y => ?_)
        · obtain ⟨w, hw, rfl⟩ := rows1_get hrow
          rw [List.getElem?_map] at hw
          obtain ⟨d, hd, rfl⟩ := Option.map_eq_some_iff.mp hw
          obtain ⟨v, hv, dv⟩ := h4.got hd
          obtain ⟨rfl, hy⟩ := y
          rw [hv] at hy
          cases hy
          exact ⟨_, rfl, rfl, .d (Dx.mono g2.ff _ _ dv)⟩
      | _ => exact h1.elim
    | r a =>
      obtain ⟨ws, hw, h2⟩ := h1
      rw [rx.ref]
      obtain ⟨xs, h3, h4⟩ := r1.lst hw
      refine ⟨a, rfl, ⟨xs, SqL.of h3⟩, k _ H1 F1 M1 _ _ r1 g1 ?_ h2⟩
      refine ⟨fun H => ∃ vs, H a = some (.lst vs) ∧ vs.length = ws.length, fun i H x H' => H' = H ∧ ∀ vs, H a = some (.lst vs) → vs[i]? = some x, ?_, fun F2 H2 M2 r2 g2 hk => ?_, fun i x H2 H3 F2 M2 row hrow r2 g2 hk y => ?_⟩
      · have el : (rows1 ws).length = ws.length := by unfold rows1; rw [List.length_map]
        rw [el]
        refine ⟨fun i H hi ⟨vs, q1, q2⟩ => ⟨vs, vs[i]'(by omega), SqL.of q1, List.getElem?_eq_getElem _⟩, fun H ⟨vs, q1, q2⟩ => ⟨vs, SqL.of q1, by omega⟩, fun i H x H' hi ⟨vs, q1, q2⟩ y => ⟨y.1, fun us hu => y.2 us (SqL.of hu)⟩⟩
      · obtain ⟨vs, q1, q2⟩ := r2.lst hk
        exact ⟨vs, q1, q2.len⟩
      · obtain ⟨w, hw, rfl⟩ := rows1_get hrow
        obtain ⟨vs, q1, q2⟩ := r2.lst hk
        obtain ⟨v, hv, rv⟩ := q2.got hw
        obtain ⟨rfl, hy⟩ := y
        have := hy vs q1
        rw [hv] at this
        cases this
        exact ⟨_, rfl, rfl, rv⟩
/-- over a text -/
def signs (z : Str) : List W := z.cps.toList.map fun c => W.d (.str ⟨#[c]⟩)
@[reducible] def itStr (T : TDE) : TDI := fun ρ M R => T ρ M fun x M1 => gS x fun z => R (rows1 (signs z)) any1 M1
theorem si_str {t : TE} {T : TDE} (h : SE K Wx RE t T) : SI K Wx RE (iStr t) false (itStr T) := fun F H M σ ρ R Q hr hx hs ht k =>
  h F H M σ ρ _ _ hr hx hs ht fun v H1 F1 M1 x r1 g1 rx h1 => by
    obtain ⟨z, rfl, h2⟩ := gS_of h1
    refine ⟨z, rx.str, k _ H1 F1 M1 _ _ r1 g1 ?_ h2⟩
    refine ItOk.of (walk_str (z := z)) (by unfold rows1 signs; rw [List.length_map, List.length_map]; rfl) (fun F2 H2 M2 r2 g2 _ => True.intro) (fun i x H2 H3 F2 M2 row hrow r2 g2 _ y => ?_)
    · obtain ⟨w, hw, rfl⟩ := rows1_get hrow
      unfold signs at hw
      rw [List.getElem?_map] at hw
      obtain ⟨c, hc, rfl⟩ := Option.map_eq_some_iff.mp hw
      obtain ⟨rfl, c', hc', rfl⟩ := y
      rw [Array.getElem?_toList, hc'] at hc
      cases hc
      exact ⟨_, rfl, rfl, .d (.str _)⟩
/-- over a range -/
def rng (lo : Int) (n : Nat) : List W := (List.range n).map fun i => W.d (.int (lo + (i : Nat)))
def rngC (lo c : Int) (n : Nat) : List W := (List.range n).map fun i => W.d (.int (lo + (i : Nat) * c))
/-- small enough for a range -/
def Sm (i : Int) : Prop := -(2 ^ 62) ≤ i ∧ i < 2 ^ 62
theorem sm_of {i : Int} (h1 : -1000000000 ≤ i) (h2 : i ≤ 1000000000) : Sm i := ⟨by omega, by omega⟩
@[reducible] def itR1 (T : TDA) : TDI := fun ρ M R => T ρ M fun xs M1 => g1 xs fun x => gI x fun j => Sm j ∧ R (rows1 (rng 0 j.toNat)) any1 M1
@[reducible] def itR2 (T : TDA) : TDI := fun ρ M R => T ρ M fun xs M1 => g2 xs fun x y => gI x fun i => gI y fun j => (Sm i ∧ Sm j) ∧ R (rows1 (rng i (j - i).toNat)) any1 M1
theorem rng_ok {F H : Hp} {M : Mem} {lo : Int} {n : Nat} : ItOk K F H M (Itr lo n) (rows1 (rng lo n)) any1 false := by
  refine ItOk.of (walk_range (lo := lo) (n := n)) (by unfold rows1 rng; rw [List.length_map, List.length_map, List.length_range]) (fun F2 H2 M2 r2 g2 _ => True.intro) (fun i x H2 H3 F2 M2 row hrow r2 g2 _ y => ?_)
  · obtain ⟨w, hw, rfl⟩ := rows1_get hrow
    unfold rng at hw
    rw [List.getElem?_map] at hw
    obtain ⟨c, hc, rfl⟩ := Option.map_eq_some_iff.mp hw
    have e : c = i := by
      obtain ⟨h1, h2⟩ := List.getElem?_eq_some_iff.mp hc
      rw [← h2]
      simp
    subst e
    obtain ⟨rfl, rfl⟩ := y
    exact ⟨_, rfl, rfl, .d (.int _)⟩
theorem si_r1 {t : TA} {T : TDA} {n : Nat} (h : SAn K Wx RE n t T) : SI K Wx RE (iRng1 t) false (itR1 T) := fun F H M σ ρ R Q hr hx hs ht k =>
  h F H M σ ρ _ _ hr hx hs ht fun vs H1 F1 M1 xs r1 g1 rxs hl h1 => by
    obtain ⟨x, rfl, h2⟩ := g1_of h1
    obtain ⟨j, rfl, ⟨c1, c2⟩, h3⟩ := gI_of h2
    obtain ⟨v, rfl, rv⟩ := rxs.one
    exact ⟨j, by rw [rv.int], c1, c2, k _ H1 F1 M1 _ _ r1 g1 rng_ok h3⟩
theorem si_r2 {t : TA} {T : TDA} {n : Nat} (h : SAn K Wx RE n t T) : SI K Wx RE (iRng2 t) false (itR2 T) := fun F H M σ ρ R Q hr hx hs ht k =>
  h F H M σ ρ _ _ hr hx hs ht fun vs H1 F1 M1 xs r1 g1 rxs hl h1 => by
    obtain ⟨x, y, rfl, h2⟩ := g2_of h1
    obtain ⟨i, rfl, h3⟩ := gI_of h2
    obtain ⟨j, rfl, c, h4⟩ := gI_of h3
    obtain ⟨v, u, rfl, rv, ru⟩ := rxs.two
    exact ⟨i, j, by rw [rv.int, ru.int], ⟨c.1.1, c.1.2, c.2.1, c.2.2⟩, k _ H1 F1 M1 _ _ r1 g1 rng_ok h4⟩
/-! ### binding -/
@[reducible] def bName (i : Nat) : TDG := fun row ρ M R => match row with | [w] => R (put ρ i (some w)) M | _ => False
theorem sg_name {i : Nat} : SG K (gName i) false [i] (bName i) := fun F H M x H' row σ ρ R Q hr hy hs hb k => by
  obtain ⟨w, rfl, rfl, rx⟩ := hy
  refine k _ _ F M _ hr .refl (hs.set rx i) ?_ hb
  show (σ.set i (some x)).set i none = σ.set i none
  rw [List.set_set]
theorem wipe2 {σ : L2.St} {i j : Nat} {a b : Option V} : wipe ((σ.set i a).set j b) [i, j] = wipe σ [i, j] := by
  show (((σ.set i a).set j b).set j none).set i none = (σ.set j none).set i none
  rw [List.set_set]
  by_cases h : i = j
  · subst h
    rw [List.set_set, List.set_set, List.set_set]
  · rw [List.set_comm _ _ h, List.set_set]
/-- a tuple that stands there: two names -/
@[reducible] def bTup2 (i j : Nat) : TDG := fun row ρ M R => match row with | [w] => gT w fun ds => (match ds with | [a, b] => R (put (put ρ i (some (.d a))) j (some (.d b))) M | _ => False) | _ => False
theorem sg_tup2 {i j : Nat} : SG K (gTup K 2 (gCons (gName i) (gCons (gName j) gNil))) false [i, j] (bTup2 i j) := fun F H M x H' row σ ρ R Q hr hy hs hb k => by
  obtain ⟨w, rfl, rfl, rx⟩ := hy
  obtain ⟨ds, rfl, h1⟩ := gT_of hb
  obtain ⟨a, xs, rfl, h2, h3⟩ := rx.tup
  split at h1
  · rename_i c d
    cases h3 with
    | cons q1 h3 =>
    cases h3 with
    | cons q2 h3 =>
    cases h3
    refine ⟨a, _, rfl, same_t hr.fh h2, rfl, _, _, rfl, _, [], rfl, rfl, ?_⟩
    exact k _ _ F M _ hr .refl ((hs.set (.d q1) i).set (.d q2) j) wipe2 h1
  · exact h1.elim
/-! ### list comprehensions -/
/-- one after another; behind all the new list -/
def lcGo (b : TDG) (keep : Mem → Prop) (tt : TDT) (te : TDE) (ρ : EnvD) (fin : List W → Mem → Prop) : List (List W) → List W → Mem → Prop
  | [], acc, M => keep M ∧ fin acc M
  | row :: rest, acc, M => keep M ∧ b row ρ M fun ρ1 M1 => tt ρ1 M1 fun c M2 => IfB c (te ρ1 M2 fun y M3 => acc.length < sizeLine ∧ lcGo b keep tt te ρ fin rest (acc ++ [y]) M3) (lcGo b keep tt te ρ fin rest acc M2)
theorem wipe_wipe : ∀ (vs : List Nat) (σ : L2.St), vs.length ≤ 2 → wipe (wipe σ vs) vs = wipe σ vs
  | [], σ, _ => rfl
  | [a], σ, _ => by
    show (σ.set a none).set a none = σ.set a none
    rw [List.set_set]
  | [a, b], σ, _ => by
    show (((σ.set b none).set a none).set b none).set a none = (σ.set b none).set a none
    by_cases h : a = b
    · subst h
      rw [List.set_set, List.set_set, List.set_set]
    · rw [List.set_comm _ _ h, List.set_set, List.set_set]
  | _ :: _ :: _ :: _, _, h => by simp at h
theorem RelS.wipe {F : Hp} {σ : L2.St} {ρ : EnvD} (h : RelS K F σ ρ) : ∀ (vs : List Nat), (∀ i ∈ vs, slot ρ i = none) → RelS K F (L2.wipe σ vs) ρ
  | [], _ => h
  | v :: vs, hn => by
    have ih := h.wipe vs fun i hi => hn i (.tail _ hi)
    refine ⟨by rw [wipe_length]; exact h.len, fun i x c => ?_⟩
    obtain ⟨u, h1, h2⟩ := ih.at_ i x c
    refine ⟨u, ?_, h2⟩
    show ((L2.wipe σ vs).set v none)[i]? = _
    rw [List.getElem?_set_ne fun z => by rw [z] at hn; have := hn i (.head _); rw [c] at this; cases this]
    exact h1
/-- the slots of a comprehension's own names forgotten -/
@[reducible] def hide (ρ : EnvD) : List Nat → EnvD
  | [] => ρ
  | v :: vs => put (hide ρ vs) v none
theorem hide_rel {F : Hp} {σ : L2.St} {ρ : EnvD} (h : RelS K F σ ρ) : ∀ vs, RelS K F (L2.wipe σ vs) (hide ρ vs)
  | [] => h
  | v :: vs => (hide_rel h vs).del v none
theorem lc_core {wi : TI} {g : TG} {tt : TT} {te : TE} {vs : List Nat} {pair : Bool} {it : TDI} {b : TDG} {Tt : TDT} {Te : TDE} (hi : SI K Wx RE wi pair it) (hg : SG K g pair vs b) (ht : ST K (fun _ _ _ _ => False) (fun _ _ _ => False) tt Tt) (he : SE K (fun _ _ _ _ => False) (fun _ _ _ => False) te Te) (hv : vs.length ≤ 2)
    (fin : (W → Mem → Prop) → List W → Mem → Prop)
    (hf : ∀ F H M R Q D acc vl, Rl K F H M → H D = some (.lst vl) → F D = none → M D = none → RWs K F vl acc → fin R acc M → (∀ F0 H0 M0, Gr F0 H0 M0 F H M → H0 D = none → Kt K F0 H0 M0 R Q → Q (.ref D) H)) :
    SE K Wx RE (tLc wi g tt te vs) (fun ρ M R => it ρ M fun rows keep M1 => lcGo b keep Tt Te (hide ρ vs) (fin R) rows [] M1) := fun F H M σ ρ R Q hr hx hs hT k =>
  hi F H M σ ρ _ _ hr hx hs hT fun J H1 F1 M1 rows keep r1 g1 iok h1 D hD => by
    obtain ⟨G, Y, wk, hG, hY⟩ := iok
    have x0 : ∀ (F H : Hp) (M : Mem), XOk K F H M (fun _ _ _ _ => False) (fun _ _ _ => False) := fun F H M F' H' M' σ ρ cls d x _ _ _ _ z => z
    refine lc_it wk (fun i H2 => ∃ F2 M2 acc vl, Rl K F2 H2 M2 ∧ Gr F1 H1 M1 F2 H2 M2 ∧ H2 D = some (.lst vl) ∧ F2 D = none ∧ M2 D = none ∧ RWs K F2 vl acc ∧ lcGo b keep Tt Te (hide ρ vs) (fin R) (rows.drop i) acc M2)
      ⟨F1, M1, [], [], (r1.hid (r1.fh.free hD) (r1.new hD)), ⟨Same.refl _, fun c u q n => ⟨by rw [upd_ne (ne_of_none q hD)]; exact q, n⟩, fun _ _ _ _ f => f⟩, upd_same, r1.fh.free hD, r1.new hD, .nil, h1⟩
      (fun i H2 hi2 ⟨F2, M2, acc, vl, r2, g2, d1, d2, d3, d4, q⟩ => ?_) (fun i x H2 H3 hi2 ⟨F2, M2, acc, vl, r2, g2, d1, d2, d3, d4, q⟩ y => ?_) (fun H2 ⟨F2, M2, acc, vl, r2, g2, d1, d2, d3, d4, q⟩ => ?_)
    · have hk : keep M2 := by
        cases hd : rows.drop i with
        | nil => rw [hd] at q; exact q.1
        | cons a b => rw [hd] at q; exact q.1
      exact hG F2 H2 M2 r2 g2 hk
    · rw [List.drop_eq_getElem_cons hi2] at q
      obtain ⟨hk, q⟩ := q
      have hrow : rows[i]? = some rows[i] := List.getElem?_eq_getElem hi2
      have yd := hY i x H2 H3 F2 M2 _ hrow r2 g2 hk y
      have rel := (hs.mono (g1.trans g2).ff)
      refine hg F2 H2 M2 x H3 _ (wipe σ vs) (hide ρ vs) _ _ r2 yd (hide_rel rel vs) q fun σ4 H4 F4 M4 ρ4 r4 g4 s4 w4 q4 => ⟨by rw [w4]; exact wipe_wipe vs σ hv, ?_⟩
      have D4 : H4 D = some (.lst vl) ∧ M4 D = none := g4.un D _ d1 d3
      have F4D : F4 D = none := g4.nf D _ d1 d3 d2
      refine ht F4 H4 M4 σ4 ρ4 _ _ r4 (x0 _ _ _) s4 q4 fun c H5 F5 M5 r5 g5 q5 => ?_
      have D5 := g5.un D _ D4.1 D4.2
      have F5D := g5.nf D _ D4.1 D4.2 F4D
      have q5 := q5.ite
      by_cases hc : c = true
      · rw [if_pos hc] at q5 ⊢
        refine he F5 H5 M5 σ4 ρ4 _ _ r5 (x0 _ _ _) (s4.mono g5.ff) q5 fun v6 H6 F6 M6 z6 r6 g6 rz6 q6 => ?_
        have D6 := g6.un D _ D5.1 D5.2
        have F6D := g6.nf D _ D5.1 D5.2 F5D
        have gg := ((g4.trans g5).trans g6)
        refine ⟨vl, D6.1, by rw [d4.len]; exact q6.1, F6, M6, acc ++ [z6], vl ++ [v6], r6.hid F6D D6.2, ?_, upd_same, F6D, D6.2, (d4.mono gg.ff).app (.cons rz6 .nil), q6.2⟩
        have g7 := g2.trans gg
        refine ⟨g7.ff, fun c u q n => ?_, g7.nf⟩
        have z : c ≠ D := ne_of_none q hD
        rw [upd_ne z]
        exact g7.un c u q n
      · rw [if_neg hc] at q5 ⊢
        exact ⟨F5, M5, acc, vl, r5, (g2.trans (g4.trans g5)), D5.1, F5D, D5.2, d4.mono (g4.trans g5).ff, q5⟩
    · rw [List.drop_length] at q
      exact hf F2 H2 M2 R Q D acc vl r2 d1 d2 d3 d4 q.2 F1 H1 M1 g2 hD fun v H' F' M' x a b c d => k v H' F' M' x a (g1.trans b) c d
/-- a list that is data -/
@[reducible] def lcF (it : TDI) (b : TDG) (tt : TDT) (te : TDE) (vs : List Nat) : TDE := fun ρ M R => it ρ M fun rows keep M1 => lcGo b keep tt te (hide ρ vs) (fun acc M2 => gDs acc fun ds => R (.d (.list ds)) M2) rows [] M1
/-- a list that may change -/
@[reducible] def lcL (it : TDI) (b : TDG) (tt : TDT) (te : TDE) (vs : List Nat) : TDE := fun ρ M R => it ρ M fun rows keep M1 => lcGo b keep tt te (hide ρ vs) (fun acc M2 => ∀ p, M2 p = none → R (.r p) (mset M2 p (.lst acc))) rows [] M1
theorem se_lcF {wi : TI} {g : TG} {tt : TT} {te : TE} {vs : List Nat} {pair : Bool} {it : TDI} {b : TDG} {Tt : TDT} {Te : TDE} (hi : SI K Wx RE wi pair it) (hg : SG K g pair vs b) (ht : ST K (fun _ _ _ _ => False) (fun _ _ _ => False) tt Tt) (he : SE K (fun _ _ _ _ => False) (fun _ _ _ => False) te Te) (hv : vs.length ≤ 2 := by decide) :
    SE K Wx RE (tLc wi g tt te vs) (lcF it b Tt Te vs) :=
  lc_core hi hg ht he hv (fun R acc M2 => gDs acc fun ds => R (.d (.list ds)) M2) fun F H M R Q D acc vl hr h1 h2 h3 h4 hq F0 H0 M0 g hD k => by
    obtain ⟨ds, rfl, h5⟩ := gDs_of hq
    have e : Same F (upd F D (.lst vl)) := same_new h2
    have r' : Rl K (upd F D (.lst vl)) H M := by
      refine ⟨fun b u q => ?_, fun a o c => ?_, fun a o c => ?_⟩
      · by_cases z : b = D
        · subst z
          rw [upd_same] at q
          rw [h1]
          exact q
        · rw [upd_ne z] at q
          exact hr.fh b u q
      · rw [upd_ne (fun z => by rw [z, h3] at c; cases c)]
        exact hr.mf a o c
      · obtain ⟨u, q1, q2⟩ := hr.at_ a o c
        exact ⟨u, q1, q2.mono e⟩
    refine k _ H _ M _ r' ⟨g.ff.trans e, g.un, fun b u q n f => ?_⟩ (.d (.lst upd_same (DxL.mono e _ _ h4.undat))) h5
    rw [upd_ne (ne_of_none q hD)]
    exact g.nf b u q n f
theorem se_lcL {wi : TI} {g : TG} {tt : TT} {te : TE} {vs : List Nat} {pair : Bool} {it : TDI} {b : TDG} {Tt : TDT} {Te : TDE} (hi : SI K Wx RE wi pair it) (hg : SG K g pair vs b) (ht : ST K (fun _ _ _ _ => False) (fun _ _ _ => False) tt Tt) (he : SE K (fun _ _ _ _ => False) (fun _ _ _ => False) te Te) (hv : vs.length ≤ 2 := by decide) :
    SE K Wx RE (tLc wi g tt te vs) (lcL it b Tt Te vs) :=
  lc_core hi hg ht he hv (fun R acc M2 => ∀ p, M2 p = none → R (.r p) (mset M2 p (.lst acc))) fun F H M R Q D acc vl hr h1 h2 h3 h4 hq F0 H0 M0 g hD k => by
    have r' : Rl K F H (mset M D (.lst acc)) := by
      refine ⟨hr.fh, fun a o c => ?_, fun a o c => ?_⟩
      · by_cases z : a = D
        · rw [z]; exact h2
        · rw [mset_ne z] at c; exact hr.mf a o c
      · by_cases z : a = D
        · subst z
          rw [mset_same] at c
          cases c
          exact ⟨_, h1, vl, rfl, h4⟩
        · rw [mset_ne z] at c; exact hr.at_ a o c
    refine k _ H _ _ _ r' ⟨g.ff, fun b u q n => ?_, g.nf⟩ (.r D) (hq D h3)
    rw [mset_ne (ne_of_none q hD)]
    exact g.un b u q n
end
end Tl
set_option Elab.async false
set_option linter.all false
set_option maxRecDepth 100000
set_option maxHeartbeats 4000000
namespace Tl
open PySem L2
/-! ### statements -/
structure EndD where
  nx : EnvD → Mem → Prop
  rt : W → Mem → Prop
  bk : EnvD → Mem → Prop := fun _ _ => False
  ct : EnvD → Mem → Prop := fun _ _ => False
abbrev TDS := EndD → EnvD → Mem → Prop
abbrev Nk (K : PySem.W.Frag) (F H : Hp) (M : Mem) (R : EnvD → Mem → Prop) (Q : L2.St → Hp → Prop) : Prop := ∀ σ' H' F' M' ρ', Rl K F' H' M' → Gr F H M F' H' M' → RelS K F' σ' ρ' → R ρ' M' → Q σ' H'
structure EK (K : PySem.W.Frag) (F H : Hp) (M : Mem) (D : EndD) (E : Ends) : Prop where
  nx : Nk K F H M D.nx E.nx
  rt : Kt K F H M D.rt E.rt
  bk : Nk K F H M D.bk E.bk
  ct : Nk K F H M D.ct E.ct
theorem EK.mono {K : PySem.W.Frag} {F H F' H' : Hp} {M M' : Mem} {D : EndD} {E : Ends} (k : EK K F H M D E) (g : Gr F H M F' H' M') : EK K F' H' M' D E :=
  ⟨fun σ H2 F2 M2 ρ r g2 => k.nx σ H2 F2 M2 ρ r (g.trans g2), fun v H2 F2 M2 x r g2 => k.rt v H2 F2 M2 x r (g.trans g2), fun σ H2 F2 M2 ρ r g2 => k.bk σ H2 F2 M2 ρ r (g.trans g2), fun σ H2 F2 M2 ρ r g2 => k.ct σ H2 F2 M2 ρ r (g.trans g2)⟩
def SSt (K : PySem.W.Frag) (Wx : WX) (RE : REx) (t : TS) (T : TDS) : Prop :=
  ∀ F H M σ ρ D E, Rl K F H M → XOk K F H M Wx RE → RelS K F σ ρ → T D ρ M → EK K F H M D E → t E σ H
section
variable {K : PySem.W.Frag} {Wx : WX} {RE : REx}
@[reducible] def nextS : TDS := fun D ρ M => D.nx ρ M
@[reducible] def seqS (T U : TDS) : TDS := fun D ρ M => T { D with nx := U D } ρ M
@[reducible] def retS (T : TDE) : TDS := fun D ρ M => T ρ M D.rt
@[reducible] def dropS (T : TDE) : TDS := fun D ρ M => T ρ M fun _ M1 => D.nx ρ M1
@[reducible] def ifS (c : TDT) (T U : TDS) : TDS := fun D ρ M => c ρ M fun b M1 => IfB b (T D ρ M1) (U D ρ M1)
@[reducible] def setS (i : Nat) (T : TDE) : TDS := fun D ρ M => T ρ M fun x M1 => D.nx (put ρ i (some x)) M1
@[reducible] def breakS : TDS := fun D ρ M => D.bk ρ M
theorem ss_nil : SSt K Wx RE tNext nextS := fun F H M σ ρ D E hr hx hs ht k => k.nx σ H F M ρ hr .refl hs ht
theorem ss_break : SSt K Wx RE tBreak breakS := fun F H M σ ρ D E hr hx hs ht k => k.bk σ H F M ρ hr .refl hs ht
theorem ss_cons {t u : TS} {T U : TDS} (h1 : SSt K Wx RE t T) (h2 : SSt K Wx RE u U) : SSt K Wx RE (tSeq t u) (seqS T U) := fun F H M σ ρ D E hr hx hs ht k =>
  h1 F H M σ ρ { D with nx := U D } { E with nx := u E } hr hx hs ht ⟨fun σ' H' F' M' ρ' r g s q => h2 F' H' M' σ' ρ' D E r (hx.mono g) s q (k.mono g), k.rt, k.bk, k.ct⟩
theorem ss_ret {t : TE} {T : TDE} (h : SE K Wx RE t T) : SSt K Wx RE (tRet t) (retS T) := fun F H M σ ρ D E hr hx hs ht k => h F H M σ ρ _ _ hr hx hs ht k.rt
theorem ss_drop {t : TE} {T : TDE} (h : SE K Wx RE t T) : SSt K Wx RE (tDrop t) (dropS T) := fun F H M σ ρ D E hr hx hs ht k =>
  h F H M σ ρ _ _ hr hx hs ht fun v H1 F1 M1 x r1 g1 rx h1 => k.nx σ H1 F1 M1 ρ r1 g1 (hs.mono g1.ff) h1
theorem ss_if {c : TT} {t u : TS} {C : TDT} {T U : TDS} (hc : ST K Wx RE c C) (h1 : SSt K Wx RE t T) (h2 : SSt K Wx RE u U) : SSt K Wx RE (tIfS c t u) (ifS C T U) := fun F H M σ ρ D E hr hx hs ht k =>
  hc F H M σ ρ _ _ hr hx hs ht fun b H1 F1 M1 r1 g1 q1 => by
    have q1 := q1.ite
    by_cases hb : b = true
    · rw [if_pos hb] at q1 ⊢
      exact h1 F1 H1 M1 σ ρ D E r1 (hx.mono g1) (hs.mono g1.ff) q1 (k.mono g1)
    · rw [if_neg hb] at q1 ⊢
      exact h2 F1 H1 M1 σ ρ D E r1 (hx.mono g1) (hs.mono g1.ff) q1 (k.mono g1)
theorem ss_set {i : Nat} {t : TE} {T : TDE} (h : SE K Wx RE t T) : SSt K Wx RE (tAsg t (gName i)) (setS i T) := fun F H M σ ρ D E hr hx hs ht k =>
  h F H M σ ρ _ _ hr hx hs ht fun v H1 F1 M1 x r1 g1 rx h1 => k.nx _ H1 F1 M1 _ r1 g1 ((hs.mono g1.ff).set rx i) h1
/-- a, b = e -/
@[reducible] def unpS (b : TDG) (T : TDE) : TDS := fun D ρ M => T ρ M fun x M1 => b [x] ρ M1 D.nx
theorem ss_unp {g : TG} {vs : List Nat} {b : TDG} {t : TE} {T : TDE} (hg : SG K g false vs b) (h : SE K Wx RE t T) : SSt K Wx RE (tAsg t g) (unpS b T) := fun F H M σ ρ D E hr hx hs ht k =>
  h F H M σ ρ _ _ hr hx hs ht fun v H1 F1 M1 x r1 g1 rx h1 => hg F1 H1 M1 v H1 [x] σ ρ _ _ r1 ⟨x, rfl, rfl, rx⟩ (hs.mono g1.ff) h1 fun σ' H2 F2 M2 ρ' r2 g2 s2 _ q2 => k.nx σ' H2 F2 M2 ρ' r2 (g1.trans g2) s2 q2
/-- xs[i] = e, xs a list that may change -/
@[reducible] def setIx (T O I : TDE) : TDS := fun D ρ M => T ρ M fun y M1 => O ρ M1 fun x M2 => I ρ M2 fun i M3 => gR x fun a => gI i fun n => ∃ ws, M3 a = some (.lst ws) ∧ gO (ixN ws.length n) fun j => D.nx ρ (mset M3 a (.lst (ws.set j y)))
/-- for -/
def forGo (b : TDG) (keep : Mem → Prop) (body : TDS) (D : EndD) : List (List W) → EnvD → Mem → Prop
  | [], ρ, M => keep M ∧ D.nx ρ M
  | row :: rest, ρ, M => keep M ∧ b row ρ M fun ρ1 M1 => body ⟨forGo b keep body D rest, D.rt, D.nx, forGo b keep body D rest⟩ ρ1 M1
@[reducible] def forS (it : TDI) (b : TDG) (body : TDS) : TDS := fun D ρ M => it ρ M fun rows keep M1 => forGo b keep body D rows ρ M1
theorem ss_for {wi : TI} {g : TG} {tb : TS} {pair : Bool} {vs : List Nat} {it : TDI} {b : TDG} {Tb : TDS} (hi : SI K Wx RE wi pair it) (hg : SG K g pair vs b) (hb : SSt K Wx RE tb Tb) : SSt K Wx RE (tFor wi g tb) (forS it b Tb) := fun F H M σ ρ D E hr hx hs ht k =>
  hi F H M σ ρ _ _ hr hx hs ht fun J H1 F1 M1 rows keep r1 g1 iok h1 => by
    obtain ⟨G, Y, wk, hG, hY⟩ := iok
    refine for_it wk (fun i σ2 H2 => ∃ F2 M2 ρ2, Rl K F2 H2 M2 ∧ Gr F1 H1 M1 F2 H2 M2 ∧ RelS K F2 σ2 ρ2 ∧ forGo b keep Tb D (rows.drop i) ρ2 M2)
      ⟨F1, M1, ρ, r1, .refl, hs.mono g1.ff, h1⟩ (fun i σ2 H2 hi2 ⟨F2, M2, ρ2, r2, g2, s2, q⟩ => ?_) (fun i x σ2 H2 H3 hi2 ⟨F2, M2, ρ2, r2, g2, s2, q⟩ y => ?_) (fun σ2 H2 ⟨F2, M2, ρ2, r2, g2, s2, q⟩ => ?_)
    · have hk : keep M2 := by
        cases hd : rows.drop i with
        | nil => rw [hd] at q; exact q.1
        | cons a b => rw [hd] at q; exact q.1
      exact hG F2 H2 M2 r2 g2 hk
    · rw [List.drop_eq_getElem_cons hi2] at q
      obtain ⟨hk, q⟩ := q
      have yd := hY i x H2 H3 F2 M2 _ (List.getElem?_eq_getElem hi2) r2 g2 hk y
      refine hg F2 H2 M2 x H3 _ σ2 ρ2 _ _ r2 yd s2 q fun σ4 H4 F4 M4 ρ4 r4 g4 s4 _ q4 => ?_
      have gg := g2.trans g4
      refine hb F4 H4 M4 σ4 ρ4 _ _ r4 (hx.mono (g1.trans gg)) s4 q4 ⟨fun σ5 H5 F5 M5 ρ5 r5 g5 s5 q5 => ⟨F5, M5, ρ5, r5, gg.trans g5, s5, q5⟩, fun v H5 F5 M5 x5 r5 g5 => k.rt v H5 F5 M5 x5 r5 ((g1.trans gg).trans g5), fun σ5 H5 F5 M5 ρ5 r5 g5 => k.nx σ5 H5 F5 M5 ρ5 r5 ((g1.trans gg).trans g5), fun σ5 H5 F5 M5 ρ5 r5 g5 s5 q5 => ⟨F5, M5, ρ5, r5, gg.trans g5, s5, q5⟩⟩
    · rw [List.drop_length] at q
      exact k.nx σ2 H2 F2 M2 ρ2 r2 (g1.trans g2) s2 q.2
/-- while, by an invariant and a measure -/
@[reducible] def whileS (c : TDT) (body : TDS) : TDS := fun D ρ M => ∃ I : Nat → EnvD → Mem → Prop, (∃ m, I m ρ M) ∧ ∀ m ρ M, I m ρ M → c ρ M fun b M1 => IfB b (body ⟨fun ρ' M' => ∃ m', m' < m ∧ I m' ρ' M', D.rt, D.nx, fun ρ' M' => ∃ m', m' < m ∧ I m' ρ' M'⟩ ρ M1) (D.nx ρ M1)
theorem ss_while {c : TT} {tb : TS} {C : TDT} {Tb : TDS} (hc : ST K Wx RE c C) (hb : SSt K Wx RE tb Tb) : SSt K Wx RE (tWhile c tb) (whileS C Tb) := fun F H M σ ρ D E hr hx hs ht k => by
  obtain ⟨I, ⟨m0, h0⟩, turn⟩ := ht
  refine ⟨fun m σ2 H2 => ∃ F2 M2 ρ2, Rl K F2 H2 M2 ∧ Gr F H M F2 H2 M2 ∧ RelS K F2 σ2 ρ2 ∧ I m ρ2 M2, ⟨m0, F, M, ρ, hr, .refl, hs, h0⟩, fun m σ2 H2 ⟨F2, M2, ρ2, r2, g2, s2, q⟩ => ?_⟩
  refine hc F2 H2 M2 σ2 ρ2 _ _ r2 (hx.mono g2) s2 (turn m ρ2 M2 q) fun b H3 F3 M3 r3 g3 q3 => ?_
  have gg := g2.trans g3
  have q3 := q3.ite
  by_cases h : b = true
  · rw [if_pos h] at q3 ⊢
    refine ⟨fun σ4 H4 => ∃ m', m' < m ∧ ∃ F4 M4 ρ4, Rl K F4 H4 M4 ∧ Gr F H M F4 H4 M4 ∧ RelS K F4 σ4 ρ4 ∧ I m' ρ4 M4, fun σ4 H4 h4 => h4, ?_⟩
    refine hb F3 H3 M3 σ2 ρ2 _ _ r3 (hx.mono gg) (s2.mono g3.ff) q3 ⟨fun σ5 H5 F5 M5 ρ5 r5 g5 s5 ⟨m', hm, q5⟩ => ⟨m', hm, F5, M5, ρ5, r5, gg.trans g5, s5, q5⟩, fun v H5 F5 M5 x5 r5 g5 => k.rt v H5 F5 M5 x5 r5 (gg.trans g5), fun σ5 H5 F5 M5 ρ5 r5 g5 => k.nx σ5 H5 F5 M5 ρ5 r5 (gg.trans g5), fun σ5 H5 F5 M5 ρ5 r5 g5 s5 ⟨m', hm, q5⟩ => ⟨m', hm, F5, M5, ρ5, r5, gg.trans g5, s5, q5⟩⟩
  · rw [if_neg h] at q3 ⊢
    exact k.nx σ2 H3 F3 M3 ρ2 r3 gg (s2.mono g3.ff) q3
/-- raise -/
@[reducible] def raiseS (RE : REx) (x : Ex) : TDS := fun _ ρ M => RE x ρ M
theorem ss_raise0 {C : Addr} : SSt K Wx RE (fun _ σ H => (fun _ H Q => Q (.ref C) none H : L2.St → Hp → XK → Prop) σ H fun cls d H' => Wx cls d σ H') (raiseS RE ⟨.ref C, []⟩) := fun F H M σ ρ D E hr hx hs ht k =>
  hx F H M σ ρ _ _ ⟨.ref C, []⟩ .refl hr hs ⟨rfl, rfl⟩ ht
/-- a store xs[i] = e -/
theorem ss_setIx {t to ti : TE} {T O I : TDE} (h1 : SE K Wx RE t T) (h2 : SE K Wx RE to O) (h3 : SE K Wx RE ti I) {ts : TSet}
    (hts : ∀ {a : Addr} {vs : List V} {i : Int} {j : Nat} {y : V} {H : Hp} {Q : Hp → Prop}, H a = some (.lst vs) → ixN vs.length i = some j → Q (upd H a (.lst (vs.set j y))) → ts (.ref a) (.int i) y H Q) : SSt K Wx RE (tAsg t (gSub to ti ts)) (setIx T O I) := fun F H M σ ρ D E hr hx hs ht k =>
  h1 F H M σ ρ _ _ hr hx hs ht fun v H1 F1 M1 x r1 g1 rx q1 => h2 F1 H1 M1 σ ρ _ _ r1 (hx.mono g1) (hs.mono g1.ff) q1 fun v2 H2 F2 M2 x2 r2 g2 rx2 q2 =>
    h3 F2 H2 M2 σ ρ _ _ r2 (hx.mono (g1.trans g2)) (hs.mono (g1.trans g2).ff) q2 fun v3 H3 F3 M3 x3 r3 g3 rx3 q3 => by
      obtain ⟨a, rfl, q4⟩ := gR_of q3
      obtain ⟨n, rfl, ws, hw, q5⟩ := gI_of q4
      obtain ⟨j, hj, q6⟩ := gO_of q5
      obtain ⟨vs, e1, e2⟩ := r3.lst hw
      have rv := rx.mono (g2.trans g3).ff
      obtain ⟨r4, g4⟩ := r3.put (u := .lst (vs.set j v)) (o := .lst (ws.set j x)) hw ⟨_, rfl, e2.set rv j⟩
      have e3 := (rx2.mono g3.ff).ref
      rw [e3, rx3.int]
      refine hts e1 (by rw [e2.len]; exact hj) ?_
      have g := ((g1.trans g2).trans g3).trans g4
      exact k.nx σ _ _ _ ρ r4 g (hs.mono g.ff) q6
theorem ts_list {a : Addr} {vs : List V} {i : Int} {j : Nat} {y : V} {H : Hp} {Q : Hp → Prop} (h1 : H a = some (.lst vs)) (h2 : ixN vs.length i = some j) (q : Q (upd H a (.lst (vs.set j y)))) : ∃ p xs i' k, (V.ref a) = .ref p ∧ (V.int i) = .int i' ∧ H p = some (.lst xs) ∧ ixN xs.length i' = some k ∧ Q (upd H p (.lst (xs.set k y))) := ⟨a, vs, i, j, rfl, rfl, h1, h2, q⟩
end
/-! ### defs -/
section
variable {P : Program} {w : World} {K : PySem.W.Frag} {mg : Str → Option Value} {base : Heap}
/-- the slots as a def begins -/
@[reducible] def start0 (n : Nat) (ws : List W) : EnvD := ws.map some ++ List.replicate (n - ws.length) none
theorem slot_rep (m i : Nat) : slot (List.replicate m none) i = none := by
  induction m generalizing i with
  | zero => rfl
  | succ m ih =>
    rw [List.replicate_succ]
    cases i with
    | zero => rfl
    | succ i => exact ih i
theorem slot_start : ∀ {ws : List W} {m i : Nat} {x : W}, slot (ws.map some ++ List.replicate m none) i = some x → ws[i]? = some x
  | [], m, i, x, h => by
    rw [List.map_nil, List.nil_append, slot_rep] at h
    cases h
  | w :: ws, m, 0, x, h => h
  | w :: ws, m, i + 1, x, h => by
    have := slot_start (ws := ws) (m := m) (i := i) h
    simpa using this
theorem rel_start {F : Hp} {N : List Str} {vs : List V} {ws : List W} (r : RWs K F vs ws) : RelS K F (L2.start N vs) (start0 N.length ws) := by
  refine ⟨?_, fun i x c => ?_⟩
  · unfold L2.start start0
    rw [List.length_append, List.length_append, List.length_map, List.length_map, List.length_replicate, List.length_replicate, r.len]
  · obtain ⟨v, h1, h2⟩ := r.got (slot_start c)
    refine ⟨v, ?_, h2⟩
    unfold L2.start
    rw [List.getElem?_append_left (by rw [List.length_map]; exact (List.getElem?_eq_some_iff.mp h1).1), List.getElem?_map, h1]
    rfl
/-- what is wanted behind a def -/
abbrev endD (R : W → Mem → Prop) : EndD := ⟨fun _ M => R (.d .none) M, R, fun _ _ => False, fun _ _ => False⟩
theorem ek_def {F H : Hp} {M : Mem} {R : W → Mem → Prop} {Q : VK} (k : Kt K F H M R Q) : EK K F H M (endD R) { nx := fun _ H' => Q .non H', rt := Q } :=
  ⟨fun σ H' F' M' ρ r g s q => k _ H' F' M' _ r g (.d .non) q, k, fun _ _ _ _ _ _ _ _ z => z.elim, fun _ _ _ _ _ _ _ _ z => z.elim⟩
/-- a def that lets nothing out -/
theorem okD {f : Addr} {fd : FuncData} {k n : Nat} {x qual : Str} {st : Stmt} {N ps : List Str} {tf : TF} (F : Fun K x qual st f fd) (S : FnScope N ps (defScope st)) (hp : ps.length = n)
    (hb : ∀ (cdv : Value) (A : Around) (outer : List Env) (s : Shared) (H : Hp) (E : XK), Room k (A.deeper (PyProof.Rows.envOfC qual (defScope st) s.heap.objs.size f cdv)) →
      ∃ (t : TS) (T : TDS), PSs (cxOf CX0 P w K mg base N qual (defScope st) f cdv A outer s H E).nox (defBody st) t ∧ SSt K (fun _ _ _ _ => False) (fun _ _ _ => False) t T ∧
        ∀ ws M R RX, ws.length = n → tf ws M R RX → T (endD R) (start0 N.length ws) M) : FnOk P w K mg base CX0 (k + 1) f fd ps (spD K n tf) := by
  refine F.ok S (fun vs H Q E h => ?_) (fun cdv A outer s H vs Q E hr h => ?_)
  · obtain ⟨F0, M, ws, R, RX, r, rs, hl, _⟩ := h
    rw [rs.len, hl, hp]
  · obtain ⟨F0, M, ws, R, RX, r, rs, hl, hf, hk, _⟩ := h
    obtain ⟨t, T, h1, h2, h3⟩ := hb cdv A outer s H E hr
    refine ⟨t, h1, h2 F0 H M _ _ _ _ r (fun F' H' M' σ ρ cls d x _ _ _ _ z => z) (rel_start rs) (h3 ws M R RX hl hf) (ek_def hk)⟩
/-- a def that errors may leave -/
theorem okDX {f : Addr} {fd : FuncData} {k n : Nat} {x qual : Str} {st : Stmt} {N ps : List Str} {tf : TF} (F : Fun K x qual st f fd) (S : FnScope N ps (defScope st)) (hp : ps.length = n)
    (hb : ∀ (cdv : Value) (A : Around) (outer : List Env) (s : Shared) (H : Hp) (E : XK), Room k (A.deeper (PyProof.Rows.envOfC qual (defScope st) s.heap.objs.size f cdv)) →
      ∃ (t : TS) (T : REx → TDS), PSs (cxOf (L2.CX P w) P w K mg base N qual (defScope st) f cdv A outer s H E) (defBody st) t ∧ (∀ RE, SSt K (fun cls d _ H => E cls d H) RE t (T RE)) ∧
        ∀ ws M R RX, ws.length = n → tf ws M R RX → T (fun x _ M => RX x M) (endD R) (start0 N.length ws) M) : FnOk P w K mg base (L2.CX P w) (k + 1) f fd ps (spD K n tf) := by
  refine F.okX S (fun vs H Q E h => ?_) (fun cdv A outer s H vs Q E hr h => ?_)
  · obtain ⟨F0, M, ws, R, RX, r, rs, hl, _⟩ := h
    rw [rs.len, hl, hp]
  · obtain ⟨F0, M, ws, R, RX, r, rs, hl, hf, hk, hx⟩ := h
    obtain ⟨t, T, h1, h2, h3⟩ := hb cdv A outer s H E hr
    refine ⟨t, h1, h2 (fun x _ M => RX x M) F0 H M _ _ _ _ r (fun F' H' M' σ ρ cls d x g r' _ xr z => hx cls d H' F' M' x r' g xr z) (rel_start rs) (h3 ws M R RX hl hf) (ek_def hk)⟩
end
end Tl
set_option Elab.async false
set_option linter.all false
set_option maxRecDepth 100000
set_option maxHeartbeats 4000000
namespace Tl
open PySem L2 RZ
theorem PS.nox {X : Cx} {st : Stmt} {t : TS} (h : PS X.nox st t) : PS X st t := ⟨fun pins s σ H D I hw =>
  wpAny_mono (h.run pins s σ H D (I.wish _) hw) (fun _ _ q => q.unwish) fun _ _ z => False.elim z⟩
section
variable {K : PySem.W.Frag} {Wx : WX} {RE : REx}
@[reducible] def yesT : TDT := fun _ M R => R true M
theorem st_yes : ST K Wx RE tYes yesT := fun F H M σ ρ R Q hr hx hs ht k => k true H F M hr .refl ht
/-- x += e, numbers -/
@[reducible] def augI (g : Int → Int → Int) (i : Nat) (T : TDE) : TDS := fun D ρ M => match slot ρ i with | some x => T ρ M fun y M1 => gI x fun a => gI y fun b => D.nx (put ρ i (some (.d (.int (g a b))))) M1 | none => False
theorem ss_augI {g : Int → Int → Int} {i : Nat} {t : TE} {T : TDE} (h : SE K Wx RE t T) : SSt K Wx RE (tAug i t (ipI g)) (augI g i T) := fun F H M σ ρ D E hr hx hs ht k => by
  unfold augI at ht
  cases c : slot ρ i with
  | none => rw [c] at ht; exact ht.elim
  | some x =>
    rw [c] at ht
    obtain ⟨v, h1, h2⟩ := hs.at_ i x c
    refine ⟨v, h1, h F H M σ ρ _ _ hr hx hs ht fun u H1 F1 M1 y r1 g1 ry q1 => ?_⟩
    obtain ⟨a, rfl, q2⟩ := gI_of q1
    obtain ⟨b, rfl, q3⟩ := gI_of q2
    exact ⟨a, b, h2.int, ry.int, k.nx _ H1 F1 M1 _ r1 g1 ((hs.mono g1.ff).set (.d (.int _)) i) q3⟩
@[reducible] def fMin2 : FL := fun xs M R => g2 xs fun x y => gI x fun i => gI y fun j => R (.d (.int (min i j))) M
theorem sc_min2 : SC K (fun xs H Q => ∃ i j, xs = [V.int i, .int j] ∧ Q (.int (if j < i then j else i)) H) fMin2 := fun F H M vs xs R Q hr rx hf k => by
  obtain ⟨x, y, rfl, h1⟩ := g2_of hf
  obtain ⟨v, u, rfl, r, r'⟩ := rx.two
  obtain ⟨i, rfl, h2⟩ := gI_of h1
  obtain ⟨j, rfl, h3⟩ := gI_of h2
  refine ⟨i, j, by rw [r.int, r'.int], ?_⟩
  rw [show (if j < i then j else i) = min i j by omega]
  exact (k _ H F M _ hr .refl (.d (.int _)) h3)
/-- ','.join(..) -/
@[reducible] def joinT (T U : TDE) : TDE := fun ρ M R => T ρ M fun x M1 => gS x fun a => U ρ M1 fun y M2 => gRow M2 y fun ws => gSs ws fun ys => (ys.map (·.length)).sum + ys.length * a.length ≤ 16777216 ∧ R (.d (.str (Txt.join a ys))) M2
theorem se_join {to te : TE} {T U : TDE} (h1 : SE K Wx RE to T) (h2 : SE K Wx RE te U) : SE K Wx RE (tM1 (fun x xs H Q => ∃ a p, ∃ ys : List Str, x = .str a ∧ xs = [V.ref p] ∧ (SqL K H p (ys.map V.str) ∨ SqT K H p (ys.map V.str)) ∧
      (ys.map (·.length)).sum + ys.length * a.length ≤ 16777216 ∧ Q (.str (Txt.join a ys)) H) to te) (joinT T U) := fun F H M σ ρ R Q hr hx hs ht k =>
  h1 F H M σ ρ _ _ hr hx hs ht fun v H1 F1 M1 x r1 g1 rx q1 => by
    obtain ⟨a, rfl, q2⟩ := gS_of q1
    refine ⟨⟨a, rx.str⟩, h2 F1 H1 M1 σ ρ _ _ r1 (hx.mono g1) (hs.mono g1.ff) q2 fun u H2 F2 M2 y r2 g2 ry q3 => ?_⟩
    obtain ⟨p, vs, ws, rfl, e1, e2, q4⟩ := gRow_of r2 ry q3
    obtain ⟨ys, rfl, hz, q5⟩ := gSs_of q4
    rw [rws_str e2] at e1
    exact ⟨a, p, ys, rx.str, rfl, e1, hz, k _ H2 F2 M2 _ r2 (g1.trans g2) (.d (.str _)) q5⟩
/-- repr -/
@[reducible] def fRepr : FL := fun xs M R => g1 xs fun x => asD M x fun d => ((d.hasDict = false ∨ d = .dict []) ∧ shOk d) ∧ R (.d (.str d.shown)) M
theorem sc_repr : SC K (rReprD K) fRepr := fun F H M vs xs R Q hr rx hf k => by
  obtain ⟨x, rfl, h1⟩ := g1_of hf
  obtain ⟨v, rfl, r⟩ := rx.one
  obtain ⟨d, F', e1, e2, dv, ⟨hd, h2, h3, h4⟩, h5⟩ := asD_of hr r h1
  refine ⟨v, d, rfl, ?_, h2, h3, h4, k _ H F M _ hr .refl (.d (.str _)) h5⟩
  rcases hd with hd | rfl
  · exact .d (Dx.dp _ _ (Dx.mono e2 _ _ dv) hd)
  · cases dv with
    | dic h => exact .e (e2 _ _ h)
end
end Tl
set_option Elab.async false
set_option linter.all false
set_option maxRecDepth 100000
set_option maxHeartbeats 4000000
namespace Tl
open PySem L2
theorem rows1_map {α : Type} (f : α → W) (xs : List α) : rows1 (xs.map f) = xs.map fun a => [f a] := by
  unfold rows1
  rw [List.map_map]
  rfl
section
variable {b : TDG} {keep : Mem → Prop} {tt : TDT} {te : TDE} {ρ : EnvD} {fin : List W → Mem → Prop} {M : Mem}
/-- each of some rows gives an item -/
theorem lc_map {α : Type} {row : α → List W} (g : α → W) (hk : keep M) : ∀ (xs : List α) (acc : List W), (∀ a ∈ xs, ∀ (Rk : W → Mem → Prop) (Rn : Mem → Prop), Rk (g a) M → b (row a) ρ M fun ρ1 M1 => IfB true (te ρ1 M1 Rk) (Rn M1)) → acc.length + xs.length ≤ sizeLine → fin (acc ++ xs.map g) M → lcGo b keep yesT te ρ fin (xs.map row) acc M
  | [], acc, hb, hl, h => by
    rw [List.map_nil, lcGo]
    rw [List.map_nil, List.append_nil] at h
    exact ⟨hk, h⟩
  | a :: xs, acc, hb, hl, h => by
    rw [List.map_cons, lcGo]
    rw [List.length_cons] at hl
    refine ⟨hk, hb a (.head _) _ _ ⟨by omega, lc_map g hk xs (acc ++ [g a]) (fun x hx => hb x (.tail _ hx)) (by rw [List.length_append]; simp; omega) (by rw [List.append_assoc]; exact h)⟩⟩
/-- each of some rows gives an item, or none -/
theorem lc_filter {α : Type} {row : α → List W} (p : α → Bool) (g : α → W) (hk : keep M) : ∀ (xs : List α) (acc : List W), (∀ a ∈ xs, ∀ (Rk : W → Mem → Prop) (Rn : Mem → Prop), (p a = true → Rk (g a) M) → (p a = false → Rn M) → b (row a) ρ M fun ρ1 M1 => tt ρ1 M1 fun c M2 => IfB c (te ρ1 M2 Rk) (Rn M2)) → acc.length + xs.length ≤ sizeLine → fin (acc ++ (xs.filter p).map g) M → lcGo b keep tt te ρ fin (xs.map row) acc M
  | [], acc, hb, hl, h => by
    rw [List.map_nil, lcGo]
    rw [List.filter_nil, List.map_nil, List.append_nil] at h
    exact ⟨hk, h⟩
  | a :: xs, acc, hb, hl, h => by
    rw [List.map_cons, lcGo]
    rw [List.length_cons] at hl
    refine ⟨hk, hb a (.head _) _ _ (fun c => ⟨by omega, lc_filter p g hk xs (acc ++ [g a]) (fun x hx => hb x (.tail _ hx)) (by rw [List.length_append]; simp; omega) ?_⟩) (fun c => lc_filter p g hk xs acc (fun x hx => hb x (.tail _ hx)) (by omega) ?_)⟩
    · rw [List.filter_cons_of_pos c, List.map_cons] at h
      rw [List.append_assoc]
      exact h
    · rw [List.filter_cons_of_neg (by rw [c]; exact Bool.false_ne_true)] at h
      exact h
/-- one name, over a list of data -/
theorem lc1 {α : Type} {i : Nat} {f : α → W} (g : α → W) (hk : keep M) {xs : List α} (hb : ∀ a ∈ xs, ∀ Rk : W → Mem → Prop, Rk (g a) M → te (put ρ i (some (f a))) M Rk) (hl : xs.length ≤ sizeLine) (h : fin (xs.map g) M) : lcGo (bName i) keep yesT te ρ fin (rows1 (xs.map f)) [] M := by
  rw [rows1_map]
  exact lc_map g hk xs [] (fun a ha Rk Rn q => .t rfl (hb a ha Rk q)) (by simpa using hl) h
theorem lc1f {α : Type} {i : Nat} {f : α → W} (p : α → Bool) (g : α → W) (hk : keep M) {xs : List α} (hb : ∀ a ∈ xs, ∀ (Rk : W → Mem → Prop) (Rn : Mem → Prop), (p a = true → Rk (g a) M) → (p a = false → Rn M) → tt (put ρ i (some (f a))) M fun c M2 => IfB c (te (put ρ i (some (f a))) M2 Rk) (Rn M2)) (hl : xs.length ≤ sizeLine) (h : fin ((xs.filter p).map g) M) : lcGo (bName i) keep tt te ρ fin (rows1 (xs.map f)) [] M := by
  rw [rows1_map]
  exact lc_filter p g hk xs [] (fun a ha Rk Rn q1 q2 => hb a ha Rk Rn q1 q2) (by simpa using hl) h
end
/-- a for, by what holds at each turn -/
theorem for_ix {b : TDG} {keep : Mem → Prop} {body : TDS} {D : EndD} {rows : List (List W)} {ρ : EnvD} {M : Mem} (Pv : Nat → EnvD → Mem → Prop) (h0 : Pv 0 ρ M) (hk : ∀ i ρ M, i ≤ rows.length → Pv i ρ M → keep M)
    (hs : ∀ i row ρ M (N : EnvD → Mem → Prop), rows[i]? = some row → Pv i ρ M → (∀ ρ' M', Pv (i + 1) ρ' M' → N ρ' M') → b row ρ M fun ρ1 M1 => body ⟨N, D.rt, D.nx, N⟩ ρ1 M1) (hd : ∀ ρ M, Pv rows.length ρ M → D.nx ρ M) : forGo b keep body D rows ρ M := by
  have go : ∀ (n i : Nat) (ρ : EnvD) (M : Mem), n = rows.length - i → i ≤ rows.length → Pv i ρ M → forGo b keep body D (rows.drop i) ρ M := by
    intro n
    induction n with
    | zero =>
      intro i ρ M hn hi p
      have e : i = rows.length := by omega
      subst e
      rw [List.drop_length, forGo]
      exact ⟨hk _ _ _ (Nat.le_refl _) p, hd ρ M p⟩
    | succ n ih =>
      intro i ρ M hn hi p
      have hi2 : i < rows.length := by omega
      rw [List.drop_eq_getElem_cons hi2, forGo]
      exact ⟨hk _ _ _ hi p, hs i _ ρ M _ (List.getElem?_eq_getElem hi2) p fun ρ' M' p' => ih (i + 1) ρ' M' (by omega) (by omega) p'⟩
  exact go _ 0 ρ M rfl (Nat.zero_le _) h0
/-- over a list of things, one name -/
theorem for1 {α : Type} {i : Nat} {f : α → W} {keep : Mem → Prop} {body : TDS} {D : EndD} {xs : List α} {ρ : EnvD} {M : Mem} (Pv : Nat → EnvD → Mem → Prop) (h0 : Pv 0 ρ M) (hk : ∀ i ρ M, i ≤ xs.length → Pv i ρ M → keep M)
    (hs : ∀ j a ρ M (N : EnvD → Mem → Prop), xs[j]? = some a → Pv j ρ M → (∀ ρ' M', Pv (j + 1) ρ' M' → N ρ' M') → body ⟨N, D.rt, D.nx, N⟩ (put ρ i (some (f a))) M) (hd : ∀ ρ M, Pv xs.length ρ M → D.nx ρ M) : forGo (bName i) keep body D (rows1 (xs.map f)) ρ M := by
  have el : (rows1 (xs.map f)).length = xs.length := by rw [rows1_map, List.length_map]
  refine for_ix Pv h0 (fun i ρ M hi p => hk i ρ M (by rw [← el]; exact hi) p) (fun j row ρ M N hrow p hN => ?_) (fun ρ M p => hd ρ M (by rw [← el]; exact p))
  rw [rows1_map, List.getElem?_map] at hrow
  obtain ⟨a, ha, e⟩ := Option.map_eq_some_iff.mp hrow
  subst e
  exact hs j a ρ M N ha p hN
/-- over numbers -/
theorem forR {i : Nat} {lo : Int} {n : Nat} {keep : Mem → Prop} {body : TDS} {D : EndD} {ρ : EnvD} {M : Mem} (Pv : Nat → EnvD → Mem → Prop) (h0 : Pv 0 ρ M) (hk : ∀ i ρ M, i ≤ n → Pv i ρ M → keep M)
    (hs : ∀ j ρ M (N : EnvD → Mem → Prop), j < n → Pv j ρ M → (∀ ρ' M', Pv (j + 1) ρ' M' → N ρ' M') → body ⟨N, D.rt, D.nx, N⟩ (put ρ i (some (.d (.int (lo + (j : Nat)))))) M) (hd : ∀ ρ M, Pv n ρ M → D.nx ρ M) : forGo (bName i) keep body D (rows1 (rng lo n)) ρ M := by
  unfold rng
  refine for1 Pv h0 (fun i ρ M hi p => hk i ρ M (by simpa using hi) p) (fun j a ρ M N ha p hN => ?_) (fun ρ M p => hd ρ M (by simpa using p))
  have e : a = j ∧ j < n := by
    obtain ⟨h1, h2⟩ := List.getElem?_eq_some_iff.mp ha
    rw [List.length_range] at h1
    simp at h2
    exact ⟨h2.symm, h1⟩
  obtain ⟨rfl, hj⟩ := e
  exact hs a ρ M N hj p hN
end Tl
set_option Elab.async false
set_option linter.all false
set_option maxRecDepth 100000
set_option maxHeartbeats 4000000
namespace Tl
open PySem L2
/-- what nobody looks at any more is left out -/
def lax (R : W → Mem → Prop) : W → Mem → Prop := fun x M => ∃ M0, (∀ a o, M0 a = some o → M a = some o) ∧ R x M0
theorem Rl.less {K : PySem.W.Frag} {F H : Hp} {M M0 : Mem} (h : Rl K F H M) (e : ∀ a o, M0 a = some o → M a = some o) : Rl K F H M0 :=
  ⟨h.fh, fun a o c => h.mf a o (e a o c), fun a o c => h.at_ a o (e a o c)⟩
theorem none_less {M M0 : Mem} (e : ∀ a o, M0 a = some o → M a = some o) {b : Addr} (h : M b = none) : M0 b = none := by
  cases c : M0 b with
  | none => rfl
  | some o => rw [e b o c] at h; cases h
theorem kt_lax {K : PySem.W.Frag} {F H : Hp} {M : Mem} {R : W → Mem → Prop} {Q : VK} (k : Kt K F H M R Q) : Kt K F H M (lax R) Q := fun v H' F' M' x r g rx ⟨M0, e, h⟩ =>
  k v H' F' M0 x (r.less e) ⟨g.ff, fun b u h1 h2 => ⟨(g.un b u h1 h2).1, none_less e (g.un b u h1 h2).2⟩, g.nf⟩ rx h
section
variable {P : Program} {w : World} {K : PySem.W.Frag} {mg : Str → Option Value} {base : Heap}
theorem okDL {f : Addr} {fd : FuncData} {k n : Nat} {x qual : Str} {st : Stmt} {N ps : List Str} {tf : TF} (F : Fun K x qual st f fd) (S : FnScope N ps (defScope st)) (hp : ps.length = n)
    (hb : ∀ (cdv : Value) (A : Around) (outer : List Env) (s : Shared) (H : Hp) (E : XK), Room k (A.deeper (PyProof.Rows.envOfC qual (defScope st) s.heap.objs.size f cdv)) →
      ∃ (t : TS) (T : TDS), PSs (cxOf CX0 P w K mg base N qual (defScope st) f cdv A outer s H E).nox (defBody st) t ∧ SSt K (fun _ _ _ _ => False) (fun _ _ _ => False) t T ∧
        ∀ ws M R RX, ws.length = n → tf ws M R RX → T (endD (lax R)) (start0 N.length ws) M) : FnOk P w K mg base CX0 (k + 1) f fd ps (spD K n tf) := by
  refine F.ok S (fun vs H Q E h => ?_) (fun cdv A outer s H vs Q E hr h => ?_)
  · obtain ⟨F0, M, ws, R, RX, r, rs, hl, _⟩ := h
    rw [rs.len, hl, hp]
  · obtain ⟨F0, M, ws, R, RX, r, rs, hl, hf, hk, _⟩ := h
    obtain ⟨t, T, h1, h2, h3⟩ := hb cdv A outer s H E hr
    refine ⟨t, h1, h2 F0 H M _ _ _ _ r (fun F' H' M' σ ρ cls d x _ _ _ _ z => z) (rel_start rs) (h3 ws M R RX hl hf) (ek_def (kt_lax hk))⟩
end
section
variable {K : PySem.W.Frag} {Wx : WX} {RE : REx}
/-- a range with a step -/
@[reducible] def itR3 (T : TDA) : TDI := fun ρ M R => T ρ M fun xs M1 => match xs with
  | [x, y, z] => gI x fun i => gI y fun j => gI z fun c => ∃ n, RgC i j c n ∧ R (rows1 (rngC i c n)) any1 M1
  | _ => False
theorem rngC_ok {F H : Hp} {M : Mem} {lo c : Int} {n : Nat} : ItOk K F H M (Itc lo c n) (rows1 (rngC lo c n)) any1 false := by
  refine ItOk.of (walk_rangeC (lo := lo) (c := c) (n := n)) (by unfold rows1 rngC; rw [List.length_map, List.length_map, List.length_range]) (fun F2 H2 M2 r2 g2 _ => True.intro) (fun i x H2 H3 F2 M2 row hrow r2 g2 _ y => ?_)
  obtain ⟨w, hw, rfl⟩ := rows1_get hrow
  unfold rngC at hw
  rw [List.getElem?_map] at hw
  obtain ⟨e, he, rfl⟩ := Option.map_eq_some_iff.mp hw
  have e' : e = i := by
    obtain ⟨h1, h2⟩ := List.getElem?_eq_some_iff.mp he
    rw [← h2]
    simp
  subst e'
  obtain ⟨rfl, rfl⟩ := y
  exact ⟨_, rfl, rfl, .d (.int _)⟩
theorem si_r3 {t : TA} {T : TDA} {n : Nat} (h : SAn K Wx RE n t T) : SI K Wx RE (iRng3 t) false (itR3 T) := fun F H M σ ρ R Q hr hx hs ht k =>
  h F H M σ ρ _ _ hr hx hs ht fun vs H1 F1 M1 xs r1 g1 rxs hl h1 => by
    split at h1
    · obtain ⟨i, rfl, h2⟩ := gI_of h1
      obtain ⟨j, rfl, h3⟩ := gI_of h2
      obtain ⟨c, rfl, m, hc, h4⟩ := gI_of h3
      cases rxs with
      | cons a rxs =>
      cases rxs with
      | cons b rxs =>
      cases rxs with
      | cons d rxs =>
      cases rxs
      exact ⟨i, j, c, m, by rw [a.int, b.int, d.int], hc, k _ H1 F1 M1 _ _ r1 g1 rngC_ok h4⟩
    · exact h1.elim
theorem RWs.erase {F : Hp} : ∀ {vs : List V} {xs : List W} (n : Nat), RWs K F vs xs → RWs K F (vs.eraseIdx n) (xs.eraseIdx n)
  | _, _, _, .nil => .nil
  | _, _, 0, .cons _ t => t
  | _, _, n + 1, .cons a t => .cons a (RWs.erase n t)
end
/-- numbers with a step -/
theorem forRC {i : Nat} {lo c : Int} {n : Nat} {keep : Mem → Prop} {body : TDS} {D : EndD} {ρ : EnvD} {M : Mem} (Pv : Nat → EnvD → Mem → Prop) (h0 : Pv 0 ρ M) (hk : ∀ i ρ M, i ≤ n → Pv i ρ M → keep M)
    (hs : ∀ j ρ M (N : EnvD → Mem → Prop), j < n → Pv j ρ M → (∀ ρ' M', Pv (j + 1) ρ' M' → N ρ' M') → body ⟨N, D.rt, D.nx, N⟩ (put ρ i (some (.d (.int (lo + (j : Nat) * c))))) M) (hd : ∀ ρ M, Pv n ρ M → D.nx ρ M) : forGo (bName i) keep body D (rows1 (rngC lo c n)) ρ M := by
  unfold rngC
  refine for1 Pv h0 (fun i ρ M hi p => hk i ρ M (by simpa using hi) p) (fun j a ρ M N ha p hN => ?_) (fun ρ M p => hd ρ M (by simpa using p))
  have e : a = j ∧ j < n := by
    obtain ⟨h1, h2⟩ := List.getElem?_eq_some_iff.mp ha
    rw [List.length_range] at h1
    simp at h2
    exact ⟨h2.symm, h1⟩
  obtain ⟨rfl, hj⟩ := e
  exact hs a ρ M N hj p hN
end Tl
set_option Elab.async false
set_option linter.all false
set_option maxRecDepth 100000
set_option maxHeartbeats 4000000
/-! Elders and levels, lists of kids by their weights and places. -/
namespace Tl
open PySem L2
structure RelEL (es ls : List Nat) : Prop where
  first : ls[0]? = some 1
  lev : ∀ (j l : Nat), ls[j]? = some l → 1 ≤ l ∧ l ≤ 10
  eld : ∀ (j e : Nat), 1 ≤ j → es[j]? = some e → e < j ∧ ∀ (l l' : Nat), ls[e]? = some l → ls[j]? = some l' → l' = l + 1
theorem get_snoc {α : Type} {xs : List α} {x y : α} {j : Nat} (h : (xs ++ [x])[j]? = some y) : (j < xs.length ∧ xs[j]? = some y) ∨ (j = xs.length ∧ y = x) := by
  by_cases c : j < xs.length
  · rw [List.getElem?_append_left c] at h
    exact .inl ⟨c, h⟩
  · rw [List.getElem?_append_right (by omega)] at h
    have e : j - xs.length = 0 := by
      by_cases z : j - xs.length = 0
      · exact z
      · rw [List.getElem?_eq_none (by show 1 ≤ _; omega)] at h
        cases h
    rw [e] at h
    exact .inr ⟨by omega, (Option.some.inj h).symm⟩
theorem RelEL.app {es ls : List Nat} (r : RelEL es ls) {e l : Nat} (hlen : es.length = ls.length) (he : ls[e]? = some l) (hl : l ≤ 9) : RelEL (es ++ [e]) (ls ++ [l + 1]) := by
  have hel : e < ls.length := (List.getElem?_eq_some_iff.mp he).1
  refine ⟨?_, fun j m h => ?_, fun j e' hj h => ?_⟩
  · rw [List.getElem?_append_left (by omega)]
    exact r.first
  · rcases get_snoc h with ⟨_, h⟩ | ⟨_, rfl⟩
    · exact r.lev j m h
    · omega
  · rcases get_snoc h with ⟨c, h⟩ | ⟨rfl, rfl⟩
    · obtain ⟨h1, h2⟩ := r.eld j e' hj h
      refine ⟨h1, fun a b ha hb => ?_⟩
      rw [List.getElem?_append_left (by omega)] at ha hb
      exact h2 a b ha hb
    · refine ⟨by omega, fun a b ha hb => ?_⟩
      rw [List.getElem?_append_left hel] at ha
      rw [hlen, List.getElem?_append_right (Nat.le_refl _), Nat.sub_self] at hb
      rw [he] at ha
      cases ha
      exact (Option.some.inj hb).symm
theorem RelEL.one : RelEL [0] [1] := by
  refine ⟨rfl, fun j l h => ?_, fun j e hj h => ?_⟩
  · match j, h with
    | 0, h => have := Option.some.inj h; omega
    | j + 1, h => simp at h
  · match j, h with
    | 0, _ => omega
    | j + 1, h => simp at h
mutual
def nn : PyData → Nat
  | .tuple [_, .tuple ks] => 1 + nnAll ks
  | _ => 1
def nnAll : List PyData → Nat
  | [] => 0
  | k :: ks => nn k + nnAll ks
end
theorem nnAll_app : ∀ (a b : List PyData), nnAll (a ++ b) = nnAll a + nnAll b
  | [], b => by rw [List.nil_append, nnAll]; omega
  | k :: a, b => by
    rw [List.cons_append, nnAll, nnAll, nnAll_app a b]
    omega
/-- how many places the first m lists have together -/
def sn (m : Nat) (tss : List (List PyData)) : Nat := ((tss.take m).map nnAll).sum
end Tl
set_option Elab.async false
set_option linter.all false
set_option maxRecDepth 100000
set_option maxHeartbeats 4000000
/-! What the program's own looks answer, as Lean functions; promises. -/
namespace Tl
open PySem L2
/-! ### what they answer -/
def isCount : PyData → Bool
  | .int i => decide (0 ≤ i)
  | _ => false
def isNum (m : Int) : PyData → Bool
  | .int i => decide (0 ≤ i) && decide (i ≤ m)
  | _ => false
def small (c : Nat) : Bool := decide (97 ≤ c) && decide (c ≤ 122)
def isTag : PyData → Bool
  | .str s => decide (1 ≤ s.length) && decide (s.length ≤ 8) && s.cps.toList.all small
  | _ => false
def isPath : PyData → Bool
  | .tuple ds => decide (ds.length < 12) && ds.all (isNum 59)
  | _ => false
def tagKids : PyData → Bool
  | .tuple [a, b] => isTag a && isTup b
  | _ => false
/-- the program's own numbers -/
structure Cs (mg : Str → Option Value) : Prop where
  SIZE : ∃ t, mg "SIZE" = some (.int 60 t)
  DEPTH : ∃ t, mg "DEPTH" = some (.int 12 t)
  SIGNS : ∃ t, mg "SIGNS" = some (.int 8 t)
theorem c_SIZE {X : Cx} (C : Cs X.mg) {p : Pos} (hg : Gl X "SIZE" := by rfl) : PE X (.Name "SIZE" p) (tC (.int 60)) := by
  obtain ⟨t, e⟩ := C.SIZE
  exact pe_glob hg e ⟨t, rfl⟩
theorem c_DEPTH {X : Cx} (C : Cs X.mg) {p : Pos} (hg : Gl X "DEPTH" := by rfl) : PE X (.Name "DEPTH" p) (tC (.int 12)) := by
  obtain ⟨t, e⟩ := C.DEPTH
  exact pe_glob hg e ⟨t, rfl⟩
theorem c_SIGNS {X : Cx} (C : Cs X.mg) {p : Pos} (hg : Gl X "SIGNS" := by rfl) : PE X (.Name "SIGNS" p) (tC (.int 8)) := by
  obtain ⟨t, e⟩ := C.SIGNS
  exact pe_glob hg e ⟨t, rfl⟩
/-- a truth about one thing -/
@[reducible] def tfB (f : PyData → Bool) : TF := fun ws M R _ => g1 ws fun x => gD x fun d => txt d = true ∧ R (.d (.bool (f d))) M
@[reducible] def tfB2 (f : Int → PyData → Bool) : TF := fun ws M R _ => g2 ws fun x y => gD x fun d => gI y fun m => txt d = true ∧ R (.d (.bool (f m d))) M
theorem lex1 (a b : Nat) : ([a] : List Nat) < [b] ↔ a < b := by
  constructor
  · intro h
    cases h with
    | rel h => exact h
    | cons h => cases h
  · intro h
    exact List.Lex.rel h
theorem le_a (c : Nat) : (!decide ((⟨#[c]⟩ : Str).cps.toList < ("a" : Str).cps.toList)) = decide (97 ≤ c) := by
  show (!decide ([c] < [97])) = _
  rw [decide_eq_decide.mpr (lex1 c 97)]
  by_cases h : c < 97
  · rw [decide_eq_true h, decide_eq_false (by omega)]; rfl
  · rw [decide_eq_false h, decide_eq_true (by omega)]; rfl
theorem le_z (c : Nat) : (!decide (("z" : Str).cps.toList < (⟨#[c]⟩ : Str).cps.toList)) = decide (c ≤ 122) := by
  show (!decide ([122] < [c])) = _
  rw [decide_eq_decide.mpr (lex1 122 c)]
  by_cases h : 122 < c
  · rw [decide_eq_true h, decide_eq_false (by omega)]; rfl
  · rw [decide_eq_false h, decide_eq_true (by omega)]; rfl
/-! ### trees -/
def kidsD : PyData → List PyData
  | .tuple [_, .tuple ks] => ks
  | _ => []
/-- the room behind a tree, its kids one behind another -/
def roomB : Nat → PyData → Nat → Option Nat
  | 0, _, _ => none
  | _ + 1, _, 0 => none
  | l + 1, d, r + 1 => if tagKids d = true then (kidsD d).foldl (fun o kd => o.bind (roomB l kd)) (some r) else none
@[reducible] def optD : Option Nat → PyData
  | none => .none
  | some n => .int n
def isTreeD (d : PyData) : Bool := (roomB 12 d 60).isSome
theorem fold_none {α : Type} (f : α → Nat → Option Nat) : ∀ ks : List α, ks.foldl (fun o kd => o.bind (f kd)) none = none
  | [] => rfl
  | _ :: r => by rw [List.foldl_cons]; exact fold_none f r
@[reducible] def tfRoom (n : Nat) : TF := fun ws M R _ => ∃ (d : PyData) (l r : Nat), ws = [.d d, .d (.int l), .d (.int r)] ∧ txt d = true ∧ l < n ∧ R (.d (optD (roomB l d r))) M
theorem no0 {tf : TF} {P : Program} {w : World} {K : PySem.W.Frag} {mg : Str → Option Value} {base : Heap} {CX : CXT} {f : Addr} {fd : FuncData} {k n : Nat} {ps : List Str} (h : ∀ ws M R RX, ¬ tf ws M R RX) : FnOk P w K mg base CX k f fd ps (spD K n tf) :=
  ⟨fun vs H Q E ⟨F0, M, ws, R, RX, r, rs, hl, hf, _⟩ => absurd hf (h _ _ _ _), fun A outer s H args us vs Q E _ _ _ _ ⟨F0, M, ws, R, RX, r, rs, hl, hf, _⟩ => absurd hf (h _ _ _ _)⟩
/-! ### refusals -/
/-- an own error without a word, as the top has left its class -/
structure Er (K : PySem.W.Frag) (mg : Str → Option Value) (x : Str) (C : Addr) : Prop where
  g : mg x = some (.ref C)
  x : PySem.W.excIn K C [.type "ValueError", .type "Exception", .type "BaseException", .type "object"] "ValueError.__new__" = true
  k : PySem.W.keepIn K (.ref C) = true
  b : PySem.W.subIn K (.ref C) (.type "BaseException") = some true
  t : PySem.W.typeIn K (.ref C) = some (.type "type")
/-- a def that errors may leave -/
structure UseX (P : Program) (w : World) (K : PySem.W.Frag) (mg : Str → Option Value) (base : Heap) (x : Str) (ps : List Str) (k : Nat) (sp : Sp) where
  f : Addr
  fd : FuncData
  ok : FnOk P w K mg base (L2.CX P w) k f fd ps sp
  m : mg x = some (.ref f)
  kp : PySem.W.keepIn K (.ref f) = true
  b : Binds K fd ps []
/-- one thing is refused, or not -/
@[reducible] def tfChk (f : PyData → Bool) (C : Addr) : TF := fun ws M R RX => g1 ws fun x => gD x fun d => txt d = true ∧ (f d = true → R (.d .none) M) ∧ (f d = false → RX ⟨.ref C, []⟩ M)
/-! ### trees by their form -/
def TrT : Nat → PyData → Prop
  | 0, _ => False
  | h + 1, d => ∃ (s : Str) (ks : List PyData), d = .tuple [.str s, .tuple ks] ∧ isTag (.str s) = true ∧ ∀ k ∈ ks, TrT h k
theorem TrT.mono : ∀ {h h' : Nat} {d : PyData}, h ≤ h' → TrT h d → TrT h' d
  | 0, _, _, _, t => t.elim
  | h + 1, 0, _, e, _ => by omega
  | h + 1, h' + 1, d, e, t => by
    obtain ⟨s, ks, rfl, a, b⟩ := t
    exact ⟨s, ks, rfl, a, fun k hk => TrT.mono (by omega) (b k hk)⟩
theorem tags6_tag : ∀ s ∈ tags6, isTag (.str s) = true := by decide +kernel
theorem TrD.t : ∀ {h : Nat} {d : PyData}, TrD h d → TrT h d
  | 0, _, t => t.elim
  | h + 1, d, t => by
    obtain ⟨s, ks, rfl, a, b⟩ := t
    exact ⟨s, ks, rfl, tags6_tag s a.2.2.2, fun k hk => TrD.t (b k hk)⟩
theorem nn_pos (d : PyData) : 1 ≤ nn d := by
  unfold nn
  split <;> omega
theorem tagKids_node {s : Str} {ks : List PyData} (h : isTag (.str s) = true) : tagKids (.tuple [.str s, .tuple ks]) = true := by
  rw [tagKids, h]
  rfl
theorem fold_room {l : Nat} : ∀ (ks : List PyData) (r : Nat), (∀ k ∈ ks, ∀ r, nn k ≤ r → roomB l k r = some (r - nn k)) → nnAll ks ≤ r → ks.foldl (fun o kd => o.bind (roomB l kd)) (some r) = some (r - nnAll ks)
  | [], r, _, _ => rfl
  | k :: ks, r, h, hr => by
    rw [nnAll] at hr
    rw [List.foldl_cons]
    show ks.foldl _ (roomB l k r) = _
    rw [h k (.head _) r (by omega), fold_room ks (r - nn k) (fun x hx => h x (.tail _ hx)) (by omega), nnAll]
    congr 1
    omega
theorem room_nn : ∀ {l : Nat} {d : PyData}, TrT l d → ∀ r, nn d ≤ r → roomB l d r = some (r - nn d)
  | 0, _, t, _, _ => t.elim
  | l + 1, _, ⟨s, ks, rfl, a, b⟩, r, hr => by
    rw [nn] at hr
    obtain ⟨r, rfl⟩ : ∃ r', r = r' + 1 := ⟨r - 1, by omega⟩
    rw [roomB, if_pos (tagKids_node a), kidsD, fold_room ks r (fun k hk => room_nn (b k hk)) (by omega), nn]
    congr 1
    omega
theorem fold_back {l : Nat} : ∀ (ks : List PyData) (r m : Nat), (∀ k ∈ ks, ∀ r m, roomB l k r = some m → TrT l k ∧ m + nn k = r) → ks.foldl (fun o kd => o.bind (roomB l kd)) (some r) = some m → (∀ k ∈ ks, TrT l k) ∧ m + nnAll ks = r
  | [], r, m, _, h => by
    cases h
    exact ⟨fun k hk => absurd hk List.not_mem_nil, rfl⟩
  | k :: ks, r, m, hk, h => by
    rw [List.foldl_cons] at h
    have h' : ks.foldl (fun o kd => o.bind (roomB l kd)) (roomB l k r) = some m := h
    cases c : roomB l k r with
    | none =>
      rw [c, fold_none] at h'
      cases h'
    | some m' =>
      rw [c] at h'
      obtain ⟨q1, q2⟩ := hk k (.head _) r m' c
      obtain ⟨q3, q4⟩ := fold_back ks m' m (fun x hx => hk x (.tail _ hx)) h'
      rw [nnAll]
      exact ⟨fun x hx => (List.mem_cons.mp hx).elim (fun z => by rw [z]; exact q1) (q3 x), by omega⟩
theorem tagKids_of {d : PyData} (h : tagKids d = true) : ∃ (s : Str) (ks : List PyData), d = .tuple [.str s, .tuple ks] ∧ isTag (.str s) = true := by
  unfold tagKids at h
  split at h
  · rename_i a b
    rw [Bool.and_eq_true] at h
    cases b with
    | tuple ks =>
      cases a with
      | str s => exact ⟨s, ks, rfl, h.1⟩
      | _ => exact absurd h.1 (by simp [isTag])
    | _ => exact absurd h.2 (by simp [isTup])
  · cases h
theorem room_back : ∀ {l : Nat} {d : PyData} {r m : Nat}, roomB l d r = some m → TrT l d ∧ m + nn d = r
  | 0, _, _, _, h => by rw [roomB] at h; cases h
  | l + 1, _, 0, _, h => by rw [roomB] at h; cases h
  | l + 1, d, r + 1, m, h => by
    rw [roomB] at h
    split at h
    · rename_i c
      obtain ⟨s, ks, rfl, hs⟩ := tagKids_of c
      rw [kidsD] at h
      obtain ⟨q1, q2⟩ := fold_back ks r m (fun k hk r m => room_back) h
      rw [nn]
      exact ⟨⟨s, ks, rfl, hs, q1⟩, by omega⟩
    · cases h
theorem tree_iff {d : PyData} : isTreeD d = true ↔ TrT 12 d ∧ nn d ≤ 60 := by
  unfold isTreeD
  constructor
  · intro h
    cases c : roomB 12 d 60 with
    | none => rw [c] at h; cases h
    | some m =>
      obtain ⟨q1, q2⟩ := room_back c
      exact ⟨q1, by omega⟩
  · intro h
    rw [room_nn h.1 60 h.2]
    rfl
theorem TrT.node {n : Nat} {d : PyData} (h : TrT n d) : ∃ (s : Str) (ks : List PyData), d = .tuple [.str s, .tuple ks] ∧ isTag (.str s) = true ∧ ∀ k ∈ ks, TrT (n - 1) k := by
  cases n with
  | zero => exact h.elim
  | succ n => exact h
theorem tag_small {s : Str} (h : isTag (.str s) = true) : 1 ≤ s.length ∧ s.length ≤ 8 ∧ PyData.strOk s = true := by
  rw [isTag, Bool.and_eq_true, Bool.and_eq_true] at h
  refine ⟨of_decide_eq_true h.1.1, of_decide_eq_true h.1.2, ?_⟩
  rw [PyData.strOk, ← Array.all_toList, List.all_eq_true]
  intro c hc
  have := List.all_eq_true.mp h.2 c hc
  unfold small at this
  rw [Bool.and_eq_true] at this
  have h2 := of_decide_eq_true this.2
  exact decide_eq_true (Nat.lt_of_le_of_lt h2 (by decide))
mutual
theorem TrT.gd : ∀ {h : Nat} {d : PyData}, TrT h d → Tl.gd d = true ∧ d.depth ≤ 2 * h ∧ wt d + 2 ≤ 96 * nn d ∧ noL d = true
  | 0, _, t => t.elim
  | h + 1, d, t => by
    obtain ⟨s, ks, rfl, a, b⟩ := t
    obtain ⟨a1, a2, a3⟩ := tag_small a
    obtain ⟨q1, q2, q3, q4⟩ := TrT.gds b
    refine ⟨?_, ?_, ?_, ?_⟩
    · rw [Tl.gd, gdAll, gdAll, gdAll, Tl.gd, Tl.gd, q1, a3, decide_eq_true (by omega)]
      rfl
    · simp only [PyData.depth, PyData.depthAll]
      omega
    · rw [wt_node, nn]
      omega
    · simp [noL, noLs, q4]
theorem TrT.gds : ∀ {h : Nat} {ks : List PyData}, (∀ k ∈ ks, TrT h k) → gdAll ks = true ∧ PyData.depthAll ks ≤ 2 * h ∧ wtAll ks ≤ 96 * nnAll ks ∧ noLs ks = true
  | h, [], _ => ⟨rfl, Nat.zero_le _, Nat.le_refl _, rfl⟩
  | h, k :: ks, hk => by
    obtain ⟨p1, p2, p3, p4⟩ := TrT.gd (hk k (.head _))
    obtain ⟨q1, q2, q3, q4⟩ := TrT.gds fun x hx => hk x (.tail _ hx)
    refine ⟨by rw [gdAll, p1, q1]; rfl, ?_, ?_, by rw [noLs, p4, q4]; rfl⟩
    · rw [PyData.depthAll]
      omega
    · rw [wtAll, nnAll]
      have := nn_pos k
      omega
end
end Tl
set_option Elab.async false
set_option linter.all false
set_option maxRecDepth 100000
set_option maxHeartbeats 4000000
/-! Errors: raised with fields, caught, looked at. -/
set_option Elab.async false
set_option linter.all false
set_option maxRecDepth 100000
set_option maxHeartbeats 4000000
/-! Further rules: a list extended by a tuple. -/
set_option Elab.async false
set_option linter.all false
set_option maxRecDepth 100000
set_option maxHeartbeats 4000000
/-! t[::-1] of a tuple; rows by their places. -/
set_option Elab.async false
set_option linter.all false
set_option maxRecDepth 100000
set_option maxHeartbeats 4000000
/-! What the readings are unfolded by. -/
namespace Tl
open PySem L2
theorem tyIs_int {d : PyData} : tyIs d "int" = some (isInt d) := by simp [tyIs]
theorem tyIs_bool {d : PyData} : tyIs d "bool" = some (isBl d) := by simp [tyIs]
theorem tyIs_str {d : PyData} : tyIs d "str" = some (isStr d) := by simp [tyIs]
theorem tyIs_tuple {d : PyData} : tyIs d "tuple" = some (isTup d) := by simp [tyIs]
theorem tyIs_list {d : PyData} : tyIs d "list" = some (isList d) := by simp [tyIs]
theorem map_c {α β : Type} {f : α → β} {a : α} {l : List α} : (a :: l).map f = f a :: l.map f := rfl
theorem map_n {α β : Type} {f : α → β} : ([] : List α).map f = [] := rfl
theorem app_c {α : Type} {a : α} {l r : List α} : (a :: l) ++ r = a :: (l ++ r) := rfl
theorem app_n {α : Type} {r : List α} : ([] : List α) ++ r = r := rfl
theorem len_c {α : Type} {a : α} {l : List α} : (a :: l).length = l.length + 1 := rfl
theorem len_n {α : Type} : ([] : List α).length = 0 := rfl
theorem rep_0 {α : Type} {a : α} : List.replicate 0 a = [] := rfl
theorem rep_s {α : Type} {a : α} {n : Nat} : List.replicate (n + 1) a = a :: List.replicate n a := rfl
theorem isE_c {α : Type} {a : α} {l : List α} : (a :: l).isEmpty = false := rfl
theorem isE_n {α : Type} : ([] : List α).isEmpty = true := rfl
theorem IfB.nil {ds : List PyData} {A B : Prop} (h : IfB ds.isEmpty A B) : IfB (PyData.eqv (.list ds) (.list [])) A B := by
  cases ds <;> exact h
theorem IfB.nilT {ds : List PyData} {A B : Prop} (h : IfB ds.isEmpty A B) : IfB (PyData.eqv (.tuple ds) (.tuple [])) A B := by
  cases ds <;> exact h
theorem at_0 {α : Type} {x0 : α} {r : List α} : atI (x0 :: r) 0 = some x0 := atI_nat (j := 0) rfl
theorem at_m0 {α β : Type} {f : α → β} {x0 : α} {r : List α} : atI ((x0 :: r).map f) 0 = some (f x0) := atI_nat (j := 0) rfl
theorem at_1 {α : Type} {x0 x1 : α} {r : List α} : atI (x0 :: x1 :: r) 1 = some x1 := atI_nat (j := 1) rfl
theorem at_m1 {α β : Type} {f : α → β} {x0 x1 : α} {r : List α} : atI ((x0 :: x1 :: r).map f) 1 = some (f x1) := atI_nat (j := 1) rfl
theorem at_2 {α : Type} {x0 x1 x2 : α} {r : List α} : atI (x0 :: x1 :: x2 :: r) 2 = some x2 := atI_nat (j := 2) rfl
theorem at_m2 {α β : Type} {f : α → β} {x0 x1 x2 : α} {r : List α} : atI ((x0 :: x1 :: x2 :: r).map f) 2 = some (f x2) := atI_nat (j := 2) rfl
theorem at_3 {α : Type} {x0 x1 x2 x3 : α} {r : List α} : atI (x0 :: x1 :: x2 :: x3 :: r) 3 = some x3 := atI_nat (j := 3) rfl
theorem at_m3 {α β : Type} {f : α → β} {x0 x1 x2 x3 : α} {r : List α} : atI ((x0 :: x1 :: x2 :: x3 :: r).map f) 3 = some (f x3) := atI_nat (j := 3) rfl
theorem at_4 {α : Type} {x0 x1 x2 x3 x4 : α} {r : List α} : atI (x0 :: x1 :: x2 :: x3 :: x4 :: r) 4 = some x4 := atI_nat (j := 4) rfl
theorem at_m4 {α β : Type} {f : α → β} {x0 x1 x2 x3 x4 : α} {r : List α} : atI ((x0 :: x1 :: x2 :: x3 :: x4 :: r).map f) 4 = some (f x4) := atI_nat (j := 4) rfl
theorem at_5 {α : Type} {x0 x1 x2 x3 x4 x5 : α} {r : List α} : atI (x0 :: x1 :: x2 :: x3 :: x4 :: x5 :: r) 5 = some x5 := atI_nat (j := 5) rfl
theorem at_m5 {α β : Type} {f : α → β} {x0 x1 x2 x3 x4 x5 : α} {r : List α} : atI ((x0 :: x1 :: x2 :: x3 :: x4 :: x5 :: r).map f) 5 = some (f x5) := atI_nat (j := 5) rfl
theorem at_6 {α : Type} {x0 x1 x2 x3 x4 x5 x6 : α} {r : List α} : atI (x0 :: x1 :: x2 :: x3 :: x4 :: x5 :: x6 :: r) 6 = some x6 := atI_nat (j := 6) rfl
theorem at_m6 {α β : Type} {f : α → β} {x0 x1 x2 x3 x4 x5 x6 : α} {r : List α} : atI ((x0 :: x1 :: x2 :: x3 :: x4 :: x5 :: x6 :: r).map f) 6 = some (f x6) := atI_nat (j := 6) rfl
theorem at_7 {α : Type} {x0 x1 x2 x3 x4 x5 x6 x7 : α} {r : List α} : atI (x0 :: x1 :: x2 :: x3 :: x4 :: x5 :: x6 :: x7 :: r) 7 = some x7 := atI_nat (j := 7) rfl
theorem at_m7 {α β : Type} {f : α → β} {x0 x1 x2 x3 x4 x5 x6 x7 : α} {r : List α} : atI ((x0 :: x1 :: x2 :: x3 :: x4 :: x5 :: x6 :: x7 :: r).map f) 7 = some (f x7) := atI_nat (j := 7) rfl
theorem exW {o : Option MO} {ws : List W} {k : List W → Prop} (h : o = some (.lst ws)) (q : k ws) : ∃ ws, o = some (.lst ws) ∧ k ws := ⟨ws, h, q⟩
theorem gDs_i {ds : List PyData} {k : List PyData → Prop} (q : k ds) : gDs (ds.map W.d) k := by rw [gDs_map]; exact q
end Tl
set_option Elab.async false
set_option linter.all false
set_option maxRecDepth 100000
set_option maxHeartbeats 4000000
/-! Flat rows of trees: the row, where parts end, where kids begin, and back. -/
set_option Elab.async false
set_option linter.all false
set_option maxRecDepth 100000
set_option maxHeartbeats 4000000
namespace Tl
open PySem L2
theorem eqv_nil (ds : List PyData) : PyData.eqv (.list ds) (.list []) = ds.isEmpty := by
  cases ds with
  | nil => rfl
  | cons a r => rfl
mutual
theorem gd_nd : ∀ d : PyData, gd d = true → d.hasDict = false
  | .none, _ => rfl
  | .bool _, _ => rfl
  | .int _, _ => rfl
  | .str _, _ => rfl
  | .list ds, h => by rw [gd] at h; rw [PyData.hasDict]; exact gds_nd ds h
  | .tuple ds, h => by rw [gd] at h; rw [PyData.hasDict]; exact gds_nd ds h
  | .dict _, h => Bool.noConfusion h
theorem gds_nd : ∀ ds : List PyData, gdAll ds = true → PyData.hasDictAll ds = false
  | [], _ => rfl
  | d :: ds, h => by
    rw [gdAll, Bool.and_eq_true] at h
    rw [PyData.hasDictAll, gd_nd d h.1, gds_nd ds h.2]
    rfl
end
end Tl
set_option Elab.async false
set_option linter.all false
set_option maxRecDepth 100000
set_option maxHeartbeats 4000000
/-! The empty dict; one of some; rows that are good to be shown, cut and put together. -/
namespace Tl
open PySem L2
theorem at_mem {α : Type} {xs : List α} {r : Int} (h0 : 0 ≤ r) (h1 : r < (xs.length : Nat)) : ∃ x, atI xs r = some x ∧ x ∈ xs := by
  obtain ⟨n, rfl⟩ : ∃ n : Nat, r = (n : Int) := ⟨r.toNat, by omega⟩
  have hn : n < xs.length := by omega
  exact ⟨xs[n], atI_nat (List.getElem?_eq_getElem hn), List.getElem_mem hn⟩
/-- good to be shown, of a weight and a depth -/
def Gk (m k : Nat) (d : PyData) : Prop := gd d = true ∧ wt d ≤ m ∧ d.depth ≤ k
def Gks (m k : Nat) (ds : List PyData) : Prop := gdAll ds = true ∧ wtAll ds ≤ m ∧ PyData.depthAll ds ≤ k
def GdE (d : PyData) : Prop := Gk 1000000 40 d ∨ d = .dict []
theorem Gk.mono {m k m' k' : Nat} {d : PyData} (h : Gk m k d) (h1 : m ≤ m') (h2 : k ≤ k') : Gk m' k' d := ⟨h.1, Nat.le_trans h.2.1 h1, Nat.le_trans h.2.2 h2⟩
theorem Gks.nil {m k : Nat} : Gks m k [] := ⟨rfl, Nat.zero_le _, Nat.zero_le _⟩
theorem Gks.cons {m k m' m'' : Nat} {d : PyData} {ds : List PyData} (h : Gk m k d) (h' : Gks m' k ds) (e : m + 2 + m' ≤ m'') : Gks m'' k (d :: ds) := by
  refine ⟨by rw [gdAll, h.1, h'.1]; rfl, ?_, ?_⟩
  · rw [wtAll]
    have := h.2.1
    have := h'.2.1
    omega
  · rw [PyData.depthAll]
    have := h.2.2
    have := h'.2.2
    omega
theorem Gks.tup {m k m' : Nat} {ds : List PyData} (h : Gks m k ds) (e : 3 + m ≤ m') : Gk m' (k + 1) (.tuple ds) := ⟨by rw [gd]; exact h.1, by rw [wt]; have := h.2.1; omega, by rw [PyData.depth]; have := h.2.2; omega⟩
theorem Gks.lst {m k m' : Nat} {ds : List PyData} (h : Gks m k ds) (e : 3 + m ≤ m') : Gk m' (k + 1) (.list ds) := ⟨by rw [gd]; exact h.1, by rw [wt]; have := h.2.1; omega, by rw [PyData.depth]; have := h.2.2; omega⟩
theorem Gks.app {m k m' m'' : Nat} {a b : List PyData} (h : Gks m k a) (h' : Gks m' k b) (e : m + m' ≤ m'') : Gks m'' k (a ++ b) := by
  refine ⟨by rw [gdAll_app, h.1, h'.1]; rfl, ?_, ?_⟩
  · rw [wtAll_app]
    have := h.2.1
    have := h'.2.1
    omega
  · rw [depthAll_app]
    have := h.2.2
    have := h'.2.2
    omega
theorem Gks.of_app {m k : Nat} {a b : List PyData} (h : Gks m k (a ++ b)) : Gks m k a ∧ Gks m k b := by
  obtain ⟨h1, h2, h3⟩ := h
  rw [gdAll_app, Bool.and_eq_true] at h1
  rw [wtAll_app] at h2
  rw [depthAll_app] at h3
  exact ⟨⟨h1.1, by omega, by omega⟩, h1.2, by omega, by omega⟩
theorem Gks.take {m k : Nat} {ds : List PyData} (h : Gks m k ds) (n : Nat) : Gks m k (ds.take n) := by
  rw [← List.take_append_drop n ds] at h
  exact h.of_app.1
theorem Gks.drop {m k : Nat} {ds : List PyData} (h : Gks m k ds) (n : Nat) : Gks m k (ds.drop n) := by
  rw [← List.take_append_drop n ds] at h
  exact h.of_app.2
theorem cut_to {α : Type} {xs : List α} {k : Nat} : cut xs none (some (k : Int)) = xs.take k := by
  unfold cut
  rw [HT.sIx_none, HT.sIx_nat, List.drop_zero, Nat.sub_zero]
  by_cases h : k ≤ xs.length
  · rw [Nat.min_eq_left h]
  · rw [Nat.min_eq_right (by omega), List.take_length, List.take_of_length_le (by omega)]
theorem cut_from {α : Type} {xs : List α} {k : Nat} : cut xs (some (k : Int)) none = xs.drop k := by
  unfold cut
  rw [HT.sIx_none, HT.sIx_nat]
  by_cases h : k ≤ xs.length
  · rw [Nat.min_eq_left h, List.take_of_length_le (by rw [List.length_drop]; omega)]
  · rw [Nat.min_eq_right (by omega), List.drop_length, List.drop_of_length_le (by omega), List.take_nil]
theorem gk_int {i : Int} {m k : Nat} (h : i.natAbs < 10 ^ 41) (hm : 1930 ≤ m) : Gk m k (.int i) := ⟨by rw [gd]; exact decide_eq_true h, by rw [wt]; exact hm, Nat.zero_le _⟩
theorem gk_str {s : Str} {m k : Nat} (h : s.length ≤ 1000) (h2 : PyData.strOk s = true) (hm : 10 * s.length + 4 ≤ m) : Gk m k (.str s) := ⟨by rw [gd, decide_eq_true h, h2]; rfl, by rw [wt]; exact hm, Nat.zero_le _⟩
theorem gO_atD {ds : List PyData} {r : Int} {k : W → Prop} (Pq : PyData → Prop) (h0 : 0 ≤ r) (h1 : r < (ds.length : Nat)) (hp : ∀ d ∈ ds, Pq d) (q : ∀ d, Pq d → k (W.d d)) : gO (atI (ds.map W.d) r) k := by
  obtain ⟨d, e, hm⟩ := at_mem (xs := ds) h0 h1
  refine gO_i (a := W.d d) ?_ (q d (hp d hm))
  rw [atI_map, e]
  rfl
theorem all1 {α : Type} {P : α → Prop} {a : α} {l : List α} (h : P a) (t : ∀ x ∈ l, P x) : ∀ x ∈ a :: l, P x := fun x hx => (List.mem_cons.mp hx).elim (fun z => by rw [z]; exact h) (t x)
theorem all0 {α : Type} {P : α → Prop} : ∀ x ∈ ([] : List α), P x := fun x hx => absurd hx List.not_mem_nil
theorem GdE.txt {d : PyData} (h : GdE d) : txt d = true := by
  rcases h with h | rfl
  · exact gd_txt d h.1
  · rfl
theorem GdE.sh {d : PyData} (h : GdE d) : (d.hasDict = false ∨ d = .dict []) ∧ shOk d := by
  rcases h with h | rfl
  · refine ⟨.inl (gd_nd d h.1), gd_show d h.1, by have := h.2.2; omega, ?_⟩
    have := shown_le d h.1
    have h2 := h.2.1
    exact Nat.le_trans (Nat.le_trans this h2) (by decide)
  · exact ⟨.inr rfl, by decide +kernel, by decide +kernel, by decide +kernel⟩
end Tl
set_option Elab.async false
set_option linter.all false
set_option maxRecDepth 100000
set_option maxHeartbeats 4000000
/-! A def called at one place alone (what stands around it is known), and a law's end by it. -/
namespace Tl
open PySem PySem.Spec PyProof.Rows L2
theorem run_at {P : Program} {w : World} {K : PySem.W.Frag} {mg : Str → Option Value} {base : Heap} {k : Nat} {f : Addr} {fd : FuncData} {x qual : Str} {st : Stmt} {N ps : List Str} {A0 : Around} {outer : List Env} {s : Shared} {H : Hp} {args : Args} {us : List Value} {vs : List V} {Q : VK} {E : XK}
    (F : Fun K x qual st f fd) (S : FnScope N ps (defScope st)) (hr : Room (k + 1) A0) (e0 : Env0 P w K mg base A0 outer s H) (hb : BindsTo s fd args (ps.zip us)) (r : Vals vs us) (hl : vs.length = ps.length)
    (body : ∀ cdv : Value, Room k (A0.deeper (envOfC qual (defScope st) s.heap.objs.size f cdv)) →
      ∃ t, PSs (cxOf CX0 P w K mg base N qual (defScope st) f cdv A0 outer s H E).nox (defBody st) t ∧ t { nx := fun _ H' => Q .non H', rt := Q } (start N vs) H) :
    codeAny (model P w) A0 (.call (.ref f) args) (CR CX0 outer P w H s Q E) s := by
  obtain ⟨oc, od, kV, doc, pm, an, cdv, ct, osl, rfl, lk, hcd⟩ := F.ex
  have keep : ∀ b o, base.get? b = some o → s.heap.get? b = some o := fun b o q => (e0.bs b o q).1
  have KX : K.In s.heap := e0.mod.kin.keeps keep
  have hkind : ∀ y ∈ ps.zip us, (defScope st).names.lookup y.1 = some .local ∨
      ((defScope st).names.lookup y.1 = some .cell ∧ ((cellsFrom (s.heap.objs.size + 1) (defScope st).names []).lookup y.1).isSome = true) := by
    rintro ⟨n, v⟩ hy
    exact (S.par n (List.of_mem_zip hy).1).imp id fun q => ⟨q, PySem.W.cellsFrom_some _ _ _ (.inl q)⟩
  refine codeAny_call_function hr.depth (KX _ _ lk) rfl S.co S.gen rfl
    (PySem.W.codeRec_of KX hcd) (hb _ _ _ _ ?_)
  refine wpAny_newFunctionEnv_cells S.kind hkind fun env he s1 xx => ?_
  subst he
  refine ⟨(e0.mod.nolimit.keeps keep).keeps xx.toInCall.keep, codeAny_func ?_⟩
  obtain ⟨t, ht, hq⟩ := body cdv (hr.deeper _)
  have I := inv_start (CX := CX0) (E := E) S hr.hd e0 hl r xx
  refine wpAny_mono (ht.nox.run [] s1 (start N vs) H _ I hq) (fun fl s' hs => ?_) fun e s' hs => hs
  cases fl with
  | ret u =>
    obtain ⟨v, σ', H', J, rv, q⟩ := hs
    exact ⟨v, H', J.os, J.bare, J.base, J.hok, rv, q⟩
  | next =>
    obtain ⟨σ', H', J, q⟩ := hs
    exact ⟨V.non, H', J.os, J.bare, J.base, J.hok, rfl, q⟩
  | brk =>
    obtain ⟨_, _, _, q⟩ := hs
    exact q.elim
  | cont =>
    obtain ⟨_, _, _, q⟩ := hs
    exact q.elim
/-- what is tracked as a law begins: nothing, or the script alone, locked -/
def onlyAt (a : Addr) (o : Obj) (xs : List V) : Hp := fun b => if b = a then some (.frz o (.lst xs)) else none
theorem end_at {P : Program} {w : World} {K : PySem.W.Frag} {mg mb : Str → Option Value} {fa a : Addr} {s₁ : Shared} {vs : List Value} {ns : List Int}
    (KX : K.In s₁.heap) (hns : s₁.heap.Ns mainGlobals mg) (hmb : s₁.heap.Ns builtinsNs mb) (hbb : ∀ x : Str, x ≠ "__name__" → mb x = bootBuiltins x)
    (hlim : s₁.heap.NoLimit) (hg : s₁.gens = #[]) (ha : s₁.heap.get? a = some { cls := .type "list", data := .seq vs.toArray }) (hi : IntsAre vs ns) (hl : ns.length ≤ sizeLine)
    (run : ∀ (base : Heap) (H : Hp), K.In base → base.Ns mainGlobals mg → SqL K H a (ns.map V.int) → Env0 P w K mg base callerA [] s₁ H →
      codeAny (model P w) callerA (.call (.ref fa) ⟨[.ref a], []⟩) (CR CX0 [] P w H s₁ (fun v _ => v = V.bl true) fun _ _ _ => False) s₁) :
    codeAny (model P w) callerA (.call (.ref fa) ⟨[.ref a], []⟩)
      (fun r s' => r = .ok (.ret (.bool true)) ∧ OldK s₁.heap s'.heap ∧ s'.os = s₁.os ∧ AllBare s'.gens) s₁ := by
  have rv := vals_ints hi
  have go : ∀ H : Hp, (∀ b u, H b = some u → b = a ∧ ∃ o xs, u = .frz o (.lst xs)) → SqL K H a (ns.map V.int) → HOk P w H s₁.heap → (H a ≠ none → K.lookup a = none) →
      codeAny (model P w) callerA (.call (.ref fa) ⟨[.ref a], []⟩)
        (fun r s' => r = .ok (.ret (.bool true)) ∧ OldK s₁.heap s'.heap ∧ s'.os = s₁.os ∧ AllBare s'.gens) s₁ := by
    intro H hO hS hok hK
    have bo : ∀ {b : Addr} {o : Obj}, s₁.heap.get? b = some o → H b = none → (hidT s₁.heap H).get? b = some o := fun q n => hidT_get q n
    have nd : ∀ {b : Addr} {o : Obj} {es : Array DictEntry} {ep : Nat}, s₁.heap.get? b = some o → o.data = .dict es ep → H b = none := by
      intro b o es ep q d
      cases z : H b with
      | none => rfl
      | some u =>
        obtain ⟨rfl, _⟩ := hO b u z
        rw [ha] at q
        cases q
        have d' : Data.seq vs.toArray _ = Data.dict es ep := d
        cases d'
    have nsK : ∀ {b : Addr} {m : Str → Option Value}, s₁.heap.Ns b m → (hidT s₁.heap H).Ns b m := by
      rintro b m ⟨o, es, ep, q, d, r⟩
      exact ⟨o, es, ep, bo q (nd q d), d, r⟩
    have hKb : K.In (hidT s₁.heap H) := fun b o q => bo (KX b o q) (by
      cases z : H b with
      | none => rfl
      | some u =>
        obtain ⟨rfl, _⟩ := hO b u z
        have := hK (by rw [z]; exact fun y => nomatch y)
        rw [this] at q
        cases q)
    obtain ⟨mc, l1, l2⟩ := hlim
    have hM : Mod K mg (hidT s₁.heap H) := ⟨hKb, nsK hns, ⟨mb, nsK hmb, hbb⟩, ⟨mc, nsK l1, l2⟩⟩
    have e0 : Env0 P w K mg (hidT s₁.heap H) callerA [] s₁ H :=
      ⟨rfl, hM, fun b o q => of_hidT q, Nat.le_of_eq (hidT_size _ _), trivial, fun b hb => absurd (show b ∈ ([] : List Addr) from hb) (by simp), hok, .of_eq hg⟩
    refine codeAny_mono (run _ H hKb (nsK hns) hS e0) fun r s' h => ?_
    cases r with
    | error e => exact h.elim
    | ok fl =>
      cases fl with
      | ret u =>
        obtain ⟨v, H', os, bare, un, hok', r', q⟩ := h
        have q' : v = .bl true := q
        subst q'
        obtain rfl : u = Value.bool true := r'
        refine ⟨rfl, OldK.of_keep fun b o e => ?_, os, bare⟩
        cases z : H b with
        | none => exact un.keep b o e z (fun y => absurd (show b ∈ ([] : List Addr) from y) (by simp)) (by simp)
        | some u =>
          obtain ⟨rfl, ob, xs, rfl⟩ := hO b u z
          have z2 := un.frzs b ob _ z
          obtain ⟨e1, _⟩ := hok b _ z
          obtain ⟨e2, _⟩ := hok' b _ z2
          rw [e] at e1
          cases e1
          exact e2
      | next => exact h.elim
      | brk => exact h.elim
      | cont => exact h.elim
  have lenV := hi.length
  cases hk : K.lookup a with
  | some o =>
    have e := KX a o hk
    rw [ha] at e
    cases e
    have no : ∀ (b : Addr) (u : HO), (fun _ : Addr => (none : Option HO)) b = some u → False := fun b u z => by
      have z' : (none : Option HO) = some u := z
      cases z'
    exact go (fun _ => none) (fun b u z => (no b u z).elim) (.inr ⟨_, vs.toArray, _, hk, rfl, rfl, rfl, by rw [List.size_toArray, lenV]; exact hl, by simpa using rv⟩)
      (fun b u z => (no b u z).elim) fun z => absurd rfl z
  | none =>
    have at_a : onlyAt a { cls := .type "list", data := .seq vs.toArray } (ns.map V.int) a = some (.frz { cls := .type "list", data := .seq vs.toArray } (.lst (ns.map V.int))) := if_pos rfl
    have only : ∀ b u, onlyAt a { cls := .type "list", data := .seq vs.toArray } (ns.map V.int) b = some u → b = a ∧ u = .frz { cls := .type "list", data := .seq vs.toArray } (.lst (ns.map V.int)) := fun b u z => by
      unfold onlyAt at z
      by_cases hb : b = a
      · rw [if_pos hb] at z
        exact ⟨hb, (Option.some.inj z).symm⟩
      · rw [if_neg hb] at z
        cases z
    refine go (onlyAt a { cls := .type "list", data := .seq vs.toArray } (ns.map V.int)) (fun b u z => ?_) (.inl (.inr ⟨_, at_a⟩)) (fun b u z => ?_) fun _ => hk
    · obtain ⟨h1, h2⟩ := only b u z
      exact ⟨h1, _, _, h2⟩
    · obtain ⟨rfl, rfl⟩ := only b u z
      exact ⟨ha, by rw [List.length_map]; exact hl, vs, _, rv, ha⟩
theorem walk_at_top {l : PySem.W.OpenLaw} {n : Nat} {q : Program} {loose : List Str} {XP : (Str → Option Value) → Heap → Prop} {YP : World → Heap → Prop} {d : DefRec} {K : Params → PySem.W.Frag}
    (hn : l.most = some n) (hn2 : n ≤ sizeLine) (hdf : d.params.defaults = []) (hY : ∀ (w : World) (h : Heap), YP w h → (K w.params).In h)
    (F : ∀ (w : World) (mg : Str → Option Value) (fa : Addr) (h : Heap), (K w.params).In h → h.Ns mainGlobals mg → mg d.name = some (.ref fa) →
      ∀ (s₁ : Shared) (base : Heap) (H : Hp) (a : Addr) (ns : List Int), ns.length ≤ n → (K w.params).In base → base.Ns mainGlobals mg → SqL (K w.params) H a (ns.map V.int) → Env0 l.prog w (K w.params) mg base callerA [] s₁ H →
        codeAny (model l.prog w) callerA (.call (.ref fa) ⟨[.ref a], []⟩) (CR CX0 [] l.prog w H s₁ (fun v _ => v = V.bl true) fun _ _ _ => False) s₁) :
    PySem.W.WalkO q loose XP YP l.row.toRowW d [] (fun f vs => PySem.call f vs) := by
  refine Att.attach_call hn hdf fun w s₀ s₁ mg mb fa o pm cd doc a vs ns G Y ho hd hcd hmg hobj hints hlen hg => ?_
  have KX := hY w _ Y
  exact end_at KX G.T.g G.T.b G.T.builtins G.T.nolimit hg hobj hints (Nat.le_trans hlen hn2)
    fun base H h1 h2 h3 h4 => F w mg fa _ KX G.T.g hmg s₁ base H a ns hlen h1 h2 h3 h4
end Tl
set_option Elab.async false
set_option linter.all false
set_option maxRecDepth 100000
set_option maxHeartbeats 4000000
/-! Defs that show things: they are run where no text is being made. -/
namespace Tl
open PySem PySem.Spec PyProof.Rows L2
/-- a promise of a def that is kept where nothing is being shown -/
structure FnG (P : Program) (w : World) (K : PySem.W.Frag) (mg : Str → Option Value) (base : Heap) (k : Nat) (f : Addr) (fd : FuncData) (ps : List Str) (sp : Sp) : Prop where
  len : ∀ vs H Q E, sp vs H Q E → vs.length = ps.length
  run : ∀ (A : Around) (st : List Env) (s : Shared) (H : Hp) (args : Args) (us : List Value) (vs : List V) (Q : VK) (E : XK), A.guards = some [] → Room k A → Env0 P w K mg base A st s H → BindsTo s fd args (ps.zip us) → Vals vs us → sp vs H Q E →
    codeAny (model P w) A (.call (.ref f) args) (CR CX0 st P w H s Q E) s
structure UseG (P : Program) (w : World) (K : PySem.W.Frag) (mg : Str → Option Value) (base : Heap) (x : Str) (ps : List Str) (k : Nat) (sp : Sp) where
  f : Addr
  fd : FuncData
  ok : FnG P w K mg base k f fd ps sp
  m : mg x = some (.ref f)
  kp : PySem.W.keepIn K (.ref f) = true
  b : Binds K fd ps []
end Tl
set_option Elab.async false
set_option linter.all false
set_option maxRecDepth 100000
set_option maxHeartbeats 4000000
/-! A law that makes its source of numbers by its first row. -/
set_option Elab.async false
set_option linter.all false
set_option maxRecDepth 100000
set_option maxHeartbeats 4000000
/-! What a top needs: facts of classes, promises lifted to one level. -/
namespace Tl
open PySem L2
theorem kit_sub0 {K : PySem.W.Frag} {D C : Addr} {b : Bool} (h1 : PySem.W.isClsIn K C = true) (h2 : PySem.W.typeIn K (.ref C) = some (.type "type")) (h : PySem.W.subIn K (.ref D) (.ref C) = some b) (hb : D = C → b = true) : PySem.W.kitOne K (.ref D) (.ref C) = some b := by
  unfold PySem.W.kitOne
  by_cases e : D = C
  · rw [hb e, e, if_pos (by simp)]
  · rw [if_neg (fun z => e (Value.ref.inj (eq_of_beq z)))]
    unfold PySem.W.kitCls
    have h1' : (PySem.W.clsIn K C).isSome = true := h1
    have e2 : ((PySem.W.clsIn K C).isSome && PySem.W.typeIn K (.ref C) == some (.type "type")) = true := by rw [h1', h2] <;> rfl
    show (if ((PySem.W.clsIn K C).isSome && PySem.W.typeIn K (.ref C) == some (.type "type")) = true then PySem.W.subIn K (.ref D) (.ref C) else none) = some b
    rw [if_pos e2]
    exact h
theorem kit_sub {K : PySem.W.Frag} {D C : Addr} (h1 : PySem.W.isClsIn K C = true) (h2 : PySem.W.typeIn K (.ref C) = some (.type "type")) (h : PySem.W.subIn K (.ref D) (.ref C) = some true) : PySem.W.kitOne K (.ref D) (.ref C) = some true := kit_sub0 h1 h2 h fun _ => rfl
theorem kit_no {K : PySem.W.Frag} {D C : Addr} (h1 : PySem.W.isClsIn K C = true) (h2 : PySem.W.typeIn K (.ref C) = some (.type "type")) (hs : PySem.W.subIn K (.ref D) (.ref D) = some true) (h : PySem.W.subIn K (.ref D) (.ref C) = some false) : PySem.W.kitOne K (.ref D) (.ref C) = some false :=
  kit_sub0 h1 h2 h fun e => by
    subst e
    rw [hs] at h
    cases h
theorem kit_ve {K : PySem.W.Frag} {D : Addr} (h : PySem.W.subIn K (.ref D) (.type "ValueError") = some true) : PySem.W.kitOne K (.ref D) (.type "ValueError") = some true := by
  unfold PySem.W.kitOne
  rw [if_neg (by simp)]
  show (if PySem.W.kitMeta "ValueError" = true then PySem.W.subIn K (.ref D) (.type "ValueError") else none) = some true
  rw [if_pos (by decide +kernel)]
  exact h
section
variable {P : Program} {w : World} {K : PySem.W.Frag} {mg : Str → Option Value} {base : Heap} {x : Str} {ps : List Str} {k k' : Nat} {sp : Sp}
def Use.up (u : Use P w K mg base x ps k sp) (h : k ≤ k') : Use P w K mg base x ps k' sp := ⟨u.f, u.fd, u.ok.mono h, u.m, u.kp, u.b⟩
def UseX.up (u : UseX P w K mg base x ps k sp) (h : k ≤ k') : UseX P w K mg base x ps k' sp := ⟨u.f, u.fd, u.ok.mono h, u.m, u.kp, u.b⟩
theorem FnG.mono {f : Addr} {fd : FuncData} (F : FnG P w K mg base k f fd ps sp) (h : k ≤ k') : FnG P w K mg base k' f fd ps sp := ⟨F.len, fun A st s H args us vs Q E g hr => F.run A st s H args us vs Q E g (hr.mono h)⟩
def UseG.up (u : UseG P w K mg base x ps k sp) (h : k ≤ k') : UseG P w K mg base x ps k' sp := ⟨u.f, u.fd, u.ok.mono h, u.m, u.kp, u.b⟩
/-- a def as the top has left it -/
structure At (K : PySem.W.Frag) (mg : Str → Option Value) (x : Str) (st : Stmt) where
  f : Addr
  fd : FuncData
  F : Fun K x x st f fd
  m : mg x = some (.ref f)
def use {st : Stmt} (d : At K mg x st) (b : Binds K d.fd ps []) (ok : FnOk P w K mg base CX0 k d.f d.fd ps sp) : Use P w K mg base x ps k sp := ⟨d.f, d.fd, ok, d.m, d.F.kp, b⟩
def useX {st : Stmt} (d : At K mg x st) (b : Binds K d.fd ps []) (ok : FnOk P w K mg base (L2.CX P w) k d.f d.fd ps sp) : UseX P w K mg base x ps k sp := ⟨d.f, d.fd, ok, d.m, d.F.kp, b⟩
/-- one def, from what the top has written -/
def at_mk {h : Heap} {x : Str} {st : Stmt} (X : K.In h) (G : h.Ns mainGlobals mg) {f : Addr} {od an : Option Addr} {sl : Array (Option Value)} {oc kV dc pm cd ct : Value} (a : PySem.W.nsIn K mainGlobals x = some (some (.ref f)))
    (l : K.lookup f = some ⟨oc, od, .func (PySem.W.fnOf x x (defArgs st) (defBody st) (defScope st) .none kV dc pm an cd ct), sl⟩) (c : PySem.W.codeIn K cd x = true) (k : PySem.W.keepIn K (.ref f) = true) : At K mg x st :=
  ⟨f, _, fun_mk (st := st) l c k, PySem.W.mg_of X G a⟩
end
end Tl
set_option Elab.async false
set_option linter.all false
set_option maxRecDepth 100000
set_option maxHeartbeats 4000000
/-! Places, levels and parts of a tree that is data. -/
namespace Tl
open PySem L2
def pathD (q : List Nat) : PyData := .tuple (q.map fun n : Nat => .int (n : Int))
mutual
def plc : PyData → List (List Nat)
  | .tuple [_, .tuple ks] => [] :: plcAll 0 ks
  | _ => [[]]
def plcAll : Nat → List PyData → List (List Nat)
  | _, [] => []
  | i, k :: ks => (plc k).map (i :: ·) ++ plcAll (i + 1) ks
end
mutual
def lev : PyData → Nat
  | .tuple [_, .tuple ks] => 1 + levAll ks
  | _ => 1
def levAll : List PyData → Nat
  | [] => 0
  | k :: ks => max (lev k) (levAll ks)
end
/-- the part at a path -/
def sub : PyData → List Nat → Option PyData
  | d, [] => some d
  | .tuple [_, .tuple ks], n :: q => (match ks[n]? with | some k => sub k q | none => none)
  | _, _ :: _ => none
def optP : Option PyData → PyData
  | some d => d
  | none => .none
theorem sub_node (s : PyData) (ks : List PyData) (n : Nat) (q : List Nat) : sub (.tuple [s, .tuple ks]) (n :: q) = (match ks[n]? with | some k => sub k q | none => none) := by rw [sub]
theorem sub_nil (d : PyData) : sub d [] = some d := by
  rw [sub]
theorem sub_tr : ∀ {q : List Nat} {n : Nat} {d e : PyData}, TrT n d → sub d q = some e → TrT (n - q.length) e ∧ q.length < n ∧ nn e ≤ nn d
  | [], n, d, e, h, hs => by
    rw [sub_nil] at hs
    cases hs
    refine ⟨h, ?_, Nat.le_refl _⟩
    cases n with
    | zero => exact h.elim
    | succ n => exact Nat.succ_pos _
  | i :: q, 0, d, e, h, hs => h.elim
  | i :: q, n + 1, d, e, h, hs => by
    obtain ⟨s, ks, rfl, _, hk⟩ := h
    rw [sub_node] at hs
    cases c : ks[i]? with
    | none => rw [c] at hs; cases hs
    | some k =>
      rw [c] at hs
      have hm := List.mem_of_getElem? c
      obtain ⟨h1, h2, h3⟩ := sub_tr (hk k hm) hs
      refine ⟨?_, by rw [List.length_cons]; omega, ?_⟩
      · rw [List.length_cons, show n + 1 - (q.length + 1) = n - q.length by omega]
        exact h1
      · have : ∀ {ks : List PyData} {k : PyData}, k ∈ ks → nn k ≤ nnAll ks := fun {ks k} h => by
          induction ks with
          | nil => cases h
          | cons z r ih =>
            rw [nnAll]
            rcases List.mem_cons.mp h with rfl | h
            · omega
            · have := ih h; omega
        have := this hm
        rw [nn]
        omega
/-- a new list, told as data -/
theorem FnOk.dat {P : Program} {w : World} {K : PySem.W.Frag} {mg : Str → Option Value} {base : Heap} {CX : CXT} {f : Addr} {fd : FuncData} {k n : Nat} {ps : List Str} {tf tf' : TF} (F : FnOk P w K mg base CX k f fd ps (spD K n tf))
    (h : ∀ ws M R RX, ws.length = n → tf' ws M R RX → tf ws M (fun x M' => ∃ p ds, x = .r p ∧ M p = none ∧ M' = mset M p (.lst (ds.map W.d)) ∧ R (.d (.list ds)) M) RX) : FnOk P w K mg base CX k f fd ps (spD K n tf') :=
  F.imp fun vs H Q E ⟨F0, M, ws, R, RX, r, rs, hl, hf, hk, hx⟩ => ⟨F0, M, ws, _, RX, r, rs, hl, h ws M R RX hl hf, fun v H' F' M' x r' g rx q => by
    obtain ⟨p, ds, rfl, hp, rfl, hR⟩ := q
    obtain ⟨F2, r2, g2, d2⟩ := r'.freeze (p := p) (ds := ds) mset_same
    rw [mdel_mset, mdel_none hp] at r2 g2
    rw [rx.ref]
    exact hk _ H' F2 M _ r2 (g.trans g2) (.d d2) hR, hx⟩
theorem mapW {α : Type} (g : α → PyData) (xs : List α) : (xs.map g).map W.d = xs.map fun a => W.d (g a) := by rw [List.map_map]; rfl
theorem lc1F {α : Type} {b : TDG} {keep : Mem → Prop} {te : TDE} {ρ : EnvD} {k : List PyData → Prop} {M : Mem} {i : Nat} {f : α → W} (g : α → PyData) (hk : keep M) {xs : List α} (hb : ∀ a ∈ xs, ∀ Rk : W → Mem → Prop, Rk (.d (g a)) M → te (put ρ i (some (f a))) M Rk) (hl : xs.length ≤ sizeLine) {fin : List PyData → Mem → Prop} (h : fin (xs.map g) M) : lcGo (bName i) keep yesT te ρ (fun acc M2 => gDs acc fun ds => fin ds M2) (rows1 (xs.map f)) [] M := by
  refine lc1 (fun a => .d (g a)) hk hb hl ?_
  rw [show (xs.map fun a => W.d (g a)) = (xs.map g).map W.d by rw [List.map_map]; rfl]
  exact gDs_i h
end Tl
set_option Elab.async false
set_option linter.all false
set_option maxRecDepth 100000
set_option maxHeartbeats 4000000
/-! The very value told; count papers. -/
namespace Tl
open PySem L2
mutual
theorem gd_lay : ∀ d : PyData, gd d = true → d.canLay0 = true
  | .none, _ => rfl
  | .bool _, _ => rfl
  | .int _, _ => rfl
  | .str s, h => by
    rw [gd, Bool.and_eq_true] at h
    rw [PyData.canLay0]
    exact h.2
  | .list ds, h => by rw [gd] at h; rw [PyData.canLay0]; exact gds_lay ds h
  | .tuple ds, h => by rw [gd] at h; rw [PyData.canLay0]; exact gds_lay ds h
  | .dict _, h => Bool.noConfusion h
theorem gds_lay : ∀ ds : List PyData, gdAll ds = true → PyData.canLayAll0 ds = true
  | [], _ => rfl
  | d :: ds, h => by
    rw [gdAll, Bool.and_eq_true] at h
    rw [PyData.canLayAll0, gd_lay d h.1, gds_lay ds h.2]
    rfl
end
theorem gd_eqOk {d : PyData} (h : gd d = true) (hd : d.depth ≤ 64) : eqOk d = true := by
  unfold eqOk SeqAt.shaped
  rw [gd_nd d h, gd_lay d h, decide_eq_true hd]
  rfl
/-- a row of a count paper -/
def rowD (q : List Nat) (m h : Nat) : PyData := .tuple [pathD q, .int (m : Int), .int (h : Int)]
end Tl
set_option Elab.async false
set_option linter.all false
set_option maxRecDepth 100000
set_option maxHeartbeats 4000000
/-! More names at once; what is good to be shown, decided. -/
namespace Tl
open PySem L2
instance {m k : Nat} {d : PyData} : Decidable (Gk m k d) := inferInstanceAs (Decidable (_ ∧ _ ∧ _))
instance {m k : Nat} {d : List PyData} : Decidable (Gks m k d) := inferInstanceAs (Decidable (_ ∧ _ ∧ _))
theorem Gks.of {m k : Nat} : ∀ {ds : List PyData}, (∀ d ∈ ds, Gk m k d) → Gks ((m + 2) * ds.length) k ds
  | [], _ => ⟨rfl, Nat.zero_le _, Nat.zero_le _⟩
  | d :: ds, h => Gks.cons (h d (.head _)) (Gks.of fun x hx => h x (.tail _ hx)) (by rw [List.length_cons, Nat.mul_succ]; omega)
theorem Gks.mono {m k m' k' : Nat} {ds : List PyData} (h : Gks m k ds) (h1 : m ≤ m') (h2 : k ≤ k') : Gks m' k' ds := ⟨h.1, Nat.le_trans h.2.1 h1, Nat.le_trans h.2.2 h2⟩
theorem Gks.ofL {m k n m' : Nat} {ds : List PyData} (h : ∀ d ∈ ds, Gk m k d) (hl : ds.length ≤ n) (hm : (m + 2) * n ≤ m') : Gks m' k ds := (Gks.of h).mono (Nat.le_trans (Nat.mul_le_mul (Nat.le_refl _) hl) hm) (Nat.le_refl _)
theorem GdE.of {m k : Nat} {d : PyData} (h : Gk m k d) (h1 : m ≤ 1000000) (h2 : k ≤ 40) : GdE d := .inl (h.mono h1 h2)
theorem small41 {i : Int} (h : -100000 ≤ i) (h2 : i ≤ 100000) : i.natAbs < 10 ^ 41 := Nat.lt_of_le_of_lt (show i.natAbs ≤ 100000 by omega) (by decide)
theorem gk_i {i : Int} {k : Nat} (h : -100000 ≤ i) (h2 : i ≤ 100000) : Gk 1930 k (.int i) := gk_int (small41 h h2) (Nat.le_refl _)
theorem sub_ent : ∀ {q : List Nat} {n : Nat} {d e : PyData}, TrT n d → sub d q = some e → ∀ i ∈ q, i < nn d
  | [], n, d, e, h, hs, i, hi => by cases hi
  | j :: q, 0, d, e, h, hs, i, hi => h.elim
  | j :: q, n + 1, d, e, h, hs, i, hi => by
    obtain ⟨s, ks, rfl, _, hk⟩ := h
    rw [sub_node] at hs
    have hl : ∀ ks : List PyData, ks.length ≤ nnAll ks := fun ks => by
      induction ks with
      | nil => exact Nat.zero_le _
      | cons z r ih =>
        have := nn_pos z
        rw [nnAll, List.length_cons]
        omega
    have hm : ∀ {ks : List PyData} {k : PyData}, k ∈ ks → nn k ≤ nnAll ks := fun {ks k} h => by
      induction ks with
      | nil => cases h
      | cons z r ih =>
        rw [nnAll]
        rcases List.mem_cons.mp h with rfl | h
        · omega
        · have := ih h; omega
    cases c : ks[j]? with
    | none => rw [c] at hs; cases hs
    | some k =>
      rw [c] at hs
      have h1 := hl ks
      have h2 := (List.getElem?_eq_some_iff.mp c).1
      have h3 := hm (List.mem_of_getElem? c)
      rw [nn]
      rcases List.mem_cons.mp hi with rfl | hi
      · omega
      · have := sub_ent (hk k (List.mem_of_getElem? c)) hs i hi
        omega
/-- good to be shown, up to a greater weight -/
def GdB (d : PyData) : Prop := Gk 8000000 40 d ∨ d = .dict []
theorem GdB.of {m k : Nat} {d : PyData} (h : Gk m k d) (h1 : m ≤ 8000000) (h2 : k ≤ 40) : GdB d := .inl (h.mono h1 h2)
theorem GdB.txt {d : PyData} (h : GdB d) : txt d = true := by
  rcases h with h | rfl
  · exact gd_txt d h.1
  · rfl
theorem GdB.sh {d : PyData} (h : GdB d) : (d.hasDict = false ∨ d = .dict []) ∧ shOk d := by
  rcases h with h | rfl
  · refine ⟨.inl (gd_nd d h.1), gd_show d h.1, by have := h.2.2; omega, ?_⟩
    have := shown_le d h.1
    have h2 := h.2.1
    exact Nat.le_trans (Nat.le_trans this h2) (by decide)
  · exact ⟨.inr rfl, by decide +kernel, by decide +kernel, by decide +kernel⟩
/-! ### papers -/
structure ROk (d : PyData) : Prop where
  e : ∃ (q : List Nat) (m h : Nat), d = rowD q m h ∧ q.length ≤ 12 ∧ (∀ i ∈ q, i ≤ 60) ∧ m ≤ 60 ∧ h ≤ 12
theorem ROk.g {d : PyData} (r : ROk d) : Gk 30000 2 d := by
  obtain ⟨q, m, h, rfl, h1, h2, h3, h4⟩ := r.e
  unfold rowD
  have hp : Gk 25000 1 (pathD q) := by
    unfold pathD
    refine (Gks.ofL (m := 1930) (k := 0) (n := 12) (m' := 24000) (fun d hd => ?_) (by rw [List.length_map]; exact h1) (by decide)).tup (by decide)
    obtain ⟨i, hi, rfl⟩ := List.mem_map.mp hd
    have := h2 i hi
    exact gk_i (by omega) (by omega)
  exact (Gks.cons (m' := 3864) (m'' := 28866) hp (.cons (m' := 1932) (gk_i (by omega) (by omega)) (.cons (m' := 0) (gk_i (by omega) (by omega)) .nil (by decide)) (by decide)) (by decide)).tup (by decide)
structure POk (ds : List PyData) : Prop where
  n0 : 1 ≤ ds.length
  n1 : ds.length ≤ 60
  e : ∀ d ∈ ds, ROk d
theorem POk.g {ds : List PyData} (h : POk ds) : Gks 1900000 2 ds := Gks.ofL (m := 30000) (n := 60) (fun d hd => (h.e d hd).g) h.n1 (by decide)
end Tl
set_option Elab.async false
set_option linter.all false
set_option maxRecDepth 100000
set_option maxHeartbeats 4000000
/-! A law whose source of numbers is a list with the script itself. -/
namespace Tl
open PySem PySem.Spec PyProof.Rows L2
section
variable {P : Program} {w : World} {K : PySem.W.Frag} {mg : Str → Option Value} {base : Heap}
theorem src_new2 {H : Hp} {sa c : Addr} {cs : List Int} {z : Int} (hS : SqL K H c (cs.map V.int)) (h1 : H sa = none) (l1 : cs.length ≤ 63) (z0 : 0 ≤ z) (z1 : z < 2305843009213693951) : ∃ F M, Rl K F (upd H sa (.lst [.ref c, .int 0, .int 0, .int z])) M ∧ M sa = some (.src false) := by
  have hF : SqL K (fun b => if b = c then H b else none) c (cs.map V.int) := by
    rcases hS with (h | ⟨o, h⟩) | h
    · exact .inl (.inl (by show (if c = c then H c else none) = _; rw [if_pos rfl]; exact h))
    · exact .inl (.inr ⟨o, by show (if c = c then H c else none) = _; rw [if_pos rfl]; exact h⟩)
    · exact .inr h
  refine ⟨fun b => if b = c then H b else none, fun b => if b = sa then some (.src false) else none, ⟨fun b u q => ?_, fun b o q => ?_, fun b o q => ?_⟩, if_pos rfl⟩
  · have q' : (if b = c then H b else none) = some u := q
    split at q'
    · have n : b ≠ sa := fun z => by rw [z, h1] at q'; cases q'
      rw [upd_ne n]
      exact q'
    · cases q'
  · have q' : (if b = sa then some (MO.src false) else none) = some o := q
    split at q'
    · rename_i e
      show (if b = c then H b else none) = none
      rw [e, h1]
      split <;> rfl
    · cases q'
  · have q' : (if b = sa then some (MO.src false) else none) = some o := q
    split at q'
    · rename_i e
      cases q'
      exact ⟨_, by rw [e]; exact upd_same, _, rfl, c, cs, 0, 0, z, rfl, hF, l1, (fun h => by cases h), by decide, by decide, z0, by rw [if_neg (by decide)]; exact z1⟩
    · cases q'
theorem law_at2 {f : Addr} {fd : FuncData} {k : Nat} {st : Stmt} {N : List Str} {s : Shared} {H : Hp} {a : Addr} {ns : List Int} {z : Int} (F : Fun K "law" "law" st f fd) (S : FnScope N ["_law_script"] (defScope st)) (hlen : ns.length ≤ 63) (hS : SqL K H a (ns.map V.int)) (e0 : Env0 P w K mg base callerA [] s H) (hk : Room (k + 1) callerA) (hbi : Binds K fd ["_law_script"] []) (z0 : 0 ≤ z) (z1 : z < 2305843009213693951)
    (hb : ∀ cdv : Value, (callerA.deeper (envOfC "law" (defScope st) s.heap.objs.size f cdv)).guards = some [] → Room k (callerA.deeper (envOfC "law" (defScope st) s.heap.objs.size f cdv)) →
      ∃ (t : TS) (T : TDS), PSs (cxOf CX0 P w K mg base N "law" (defScope st) f cdv callerA [] s H (fun _ _ _ => False)).nox (defBody st) (tSeq (tAsg (tLst (tCons (tVar 0) (tCons (tC (.int 0)) (tCons (tC (.int 0)) (tCons (tC (.int z)) tNil))))) (gName 1)) t) ∧ SSt K (fun _ _ _ _ => False) (fun _ _ _ => False) t T ∧
        ∀ (sa : Addr) (M : Mem), M sa = some (.src false) → T (endD fun x _ => x = .d (.bool true)) (put (start0 N.length [.o (.ref a)]) 1 (some (.r sa))) M) :
    codeAny (model P w) callerA (.call (.ref f) ⟨[.ref a], []⟩) (CR CX0 [] P w H s (fun v _ => v = V.bl true) fun _ _ _ => False) s := by
  have KX : K.In s.heap := e0.mod.kin.keeps fun b o q => (e0.bs b o q).1
  refine run_at (k := k) (vs := [V.ref a]) (us := [Value.ref a]) F S hk e0 (hbi s [.ref a] KX rfl) (.cons rfl .nil) rfl (fun cdv hr => ?_)
  obtain ⟨t, T, h1, h2, h3⟩ := hb cdv rfl hr
  refine ⟨_, h1, ?_⟩
  have hst : L2.start N [V.ref a] = some (V.ref a) :: List.replicate (N.length - 1) none := rfl
  refine ⟨V.ref a, by rw [hst]; rfl, by show 4 ≤ sizeLine; decide, fun sa hsa => ?_⟩
  obtain ⟨F1, M1, r1, hM⟩ := src_new2 (K := K) hS hsa hlen z0 z1
  refine h2 F1 _ M1 _ _ _ _ r1 (fun F' H' M' σ ρ cls d x _ _ _ _ z => z) ?_ (h3 sa M1 hM) ?_
  · exact (rel_start (N := N) (K := K) (F := F1) (.cons (.o (V.ref a)) .nil)).set (.r sa) 1
  · exact ek_def (Q := fun v _ => v = V.bl true) fun v H2 F2 M2 x r g rx q => by
      subst q
      exact rx.bl
end
end Tl
set_option Elab.async false
set_option linter.all false
set_option maxRecDepth 100000
set_option maxHeartbeats 4000000
/-! Places in the walk behind, and the least number within each part. -/
namespace Tl
open PySem L2
/-- the law's rows: a place, its tag, the number at which its part begins -/
abbrev Wk := List Nat × PyData × Nat
mutual
def wk : PyData → List Nat → Nat → List Wk
  | .tuple [s, .tuple ks], q, n => wkAll ks q 0 n ++ [(q, s, n)]
  | d, q, n => [(q, d, n)]
def wkAll : List PyData → List Nat → Nat → Nat → List Wk
  | [], _, _, _ => []
  | k :: ks, q, i, n => wk k (q ++ [i]) n ++ wkAll ks q (i + 1) (n + nn k)
end
/-- things that are drawn as they come -/
theorem lc_any {b : TDG} {keep : Mem → Prop} {te : TDE} {ρ : EnvD} {fin : List W → Mem → Prop} {M : Mem} (Pq : W → Prop) (hk : keep M) : ∀ (rows : List (List W)) (acc : List W), (∀ row ∈ rows, ∀ (Rk : W → Mem → Prop) (Rn : Mem → Prop), (∀ y, Pq y → Rk y M) → b row ρ M fun ρ1 M1 => IfB true (te ρ1 M1 Rk) (Rn M1)) → acc.length + rows.length ≤ sizeLine → (∀ ys, ys.length = rows.length → (∀ y ∈ ys, Pq y) → fin (acc ++ ys) M) → lcGo b keep yesT te ρ fin rows acc M
  | [], acc, hb, hl, h => by
    rw [lcGo]
    have := h [] rfl (fun y hy => by cases hy)
    rw [List.append_nil] at this
    exact ⟨hk, this⟩
  | row :: rows, acc, hb, hl, h => by
    rw [lcGo]
    rw [List.length_cons] at hl
    refine ⟨hk, hb row (.head _) _ _ fun y hy => ⟨by omega, lc_any Pq hk rows (acc ++ [y]) (fun x hx => hb x (.tail _ hx)) (by rw [List.length_append]; simp; omega) fun ys hy1 hy2 => ?_⟩⟩
    rw [List.append_assoc]
    exact h (y :: ys) (by rw [List.length_cons, List.length_cons, hy1]) (fun z hz => by
      rcases List.mem_cons.mp hz with rfl | hz
      · exact hy
      · exact hy2 z hz)
end Tl
set_option Elab.async false
set_option linter.all false
set_option maxRecDepth 100000
set_option maxHeartbeats 4000000
/-! Defs that are handed on by a name: a walk over some of them, a call of one of them. -/
set_option Elab.async false
set_option linter.all false
set_option maxRecDepth 100000
set_option maxHeartbeats 4000000
/-! list.pop() and min of a list. -/
namespace Tl
open PySem L2
section
variable {K : PySem.W.Frag} {Wx : WX} {RE : REx}
/-- list.pop() -/
@[reducible] def popT (T : TDE) : TDE := fun ρ M R => T ρ M fun x M1 => gR x fun a => ∃ ws y, M1 a = some (.lst (ws ++ [y])) ∧ R y (mset M1 a (.lst ws))
theorem RWs.split1 {F : Hp} : ∀ {ws : List W} {y : W} {vs : List V}, RWs K F vs (ws ++ [y]) → ∃ us v, vs = us ++ [v] ∧ RWs K F us ws ∧ RW K F v y
  | [], _, _, h => by
    cases h with
    | cons a b => cases b; exact ⟨[], _, rfl, .nil, a⟩
  | w :: ws, _, _, h => by
    cases h with
    | cons a b =>
      obtain ⟨us, v, rfl, h1, h2⟩ := RWs.split1 b
      exact ⟨_ :: us, v, rfl, .cons a h1, h2⟩
theorem se_pop {to : TE} {T : TDE} (h1 : SE K Wx RE to T) : SE K Wx RE (tBM0 K "list" rPop to) (popT T) := fun F H M σ ρ R Q hr hx hs ht k =>
  h1 F H M σ ρ _ _ hr hx hs ht fun v H1 F1 M1 x r1 g1 rx h2 => by
    obtain ⟨a, rfl, ws, y, h3, h4⟩ := gR_of h2
    obtain ⟨us, h5, h6⟩ := r1.lst h3
    obtain ⟨us, u, rfl, h7, h8⟩ := RWs.split1 h6
    rw [rx.ref]
    refine ⟨?_, a, _, u, rfl, rfl, h5, by simp, ?_⟩
    · exact .inl ⟨rfl, _, SqL.of h5⟩
    · rw [List.dropLast_concat]
      obtain ⟨r2, g2⟩ := r1.put (u := .lst us) (o := .lst ws) h3 ⟨_, rfl, h7⟩
      exact k _ _ _ _ _ r2 (g1.trans g2) h8 h4
end
end Tl
set_option Elab.async false
set_option linter.all false
set_option maxRecDepth 100000
set_option maxHeartbeats 4000000
/-! A list beside the empty list. -/
namespace Tl
open PySem L2
section
variable {X : Cx}
def rNeN : R2 := fun x y H Q => ∃ a b xs, x = .ref a ∧ y = .ref b ∧ H a = some (.lst xs) ∧ H b = some (.lst []) ∧ Q (.bl (!xs.isEmpty)) H
theorem op_neN (hu : X.A.units + 64 < cLine) : OpR X (compareOp .NotEq) rNeN := by
  intro pins s σ H x y v u Q I rx ry h
  obtain ⟨a, b, xs, rfl, rfl, ea, eb, q⟩ := h
  obtain rfl : v = Value.ref a := rx
  obtain rfl : u = Value.ref b := ry
  obtain ⟨za, ia, na, ra, la, ha⟩ := I.lstM ea
  obtain ⟨zb, ib, nb, rb, lb, hb⟩ := I.lstM eb
  have e0 : ib = [] := by cases rb; rfl
  subst e0
  have hl : s.heap.IsList a ia.toArray := ⟨_, ha, rfl, na, rfl⟩
  have hl2 : s.heap.IsList b #[] := ⟨_, hb, rfl, nb, rfl⟩
  cases xs with
  | nil =>
    have e1 : ia = [] := by cases ra; rfl
    subst e1
    exact SeqAt.RcNeAt.lists (e := fun _ => true) hl hl2 rfl (by omega) (fun j h1 _ => absurd h1 (by simp)) X.prog X.w _ _ ⟨.bl _, H, I, rfl, q⟩
  | cons x0 r0 =>
    refine SeqAt.RcNeAt.lists_lengths hl hl2 ?_ (by omega) X.prog X.w _ _ ⟨.bl _, H, I, rfl, q⟩
    rw [List.size_toArray, ← la, List.length_cons]
    simp
end
section
variable {K : PySem.W.Frag}
/-- a list, whatever is in it, beside [] -/
@[reducible] def fEqN (neg : Bool) : F2 := fun x y M R => y = .d (.list []) ∧ gW M x fun ws => R (.d (.bool (ng neg ws.isEmpty))) M
theorem rws_empty {F : Hp} {vs : List V} {ws : List W} (h : RWs K F vs ws) : vs.isEmpty = ws.isEmpty := by cases h <;> rfl
theorem so_neN : SO K rNeN (fEqN true) := fun F H M v u x y R Q hr rx ry hf k => by
  obtain ⟨rfl, h1⟩ := hf
  obtain ⟨a, vs, ws, rfl, h2, h3, h4⟩ := gW_of hr rx h1
  obtain ⟨b, us, rfl, h5, h6⟩ := ry.lst
  cases h6
  refine ⟨a, b, vs, rfl, rfl, h2, hr.fh _ _ h5, ?_⟩
  rw [rws_empty h3]
  exact k _ H F M _ hr .refl (.d (.bl _)) h4
end
end Tl
set_option Elab.async false
set_option linter.all false
set_option maxRecDepth 100000
set_option maxHeartbeats 4000000
/-! Objects of own classes: fields, methods, making one. -/
namespace Tl
open PySem PySem.Spec PyProof.Rows L2
/-! ### fields -/
def putW (f : Str) (v : W) : List (Str × W) → List (Str × W)
  | [] => [(f, v)]
  | (g, x) :: r => if g = f then (g, v) :: r else (g, x) :: putW f v r
inductive gPut (f : Str) (v : W) (fs : List (Str × W)) (k : List (Str × W) → Prop) : Prop where
  | mk (q : k (putW f v fs))
theorem gPut_n {f : Str} {v : W} {k : List (Str × W) → Prop} (q : k [(f, v)]) : gPut f v [] k := .mk q
theorem gPut_0 {f : Str} {v x : W} {r : List (Str × W)} {k : List (Str × W) → Prop} (q : k ((f, v) :: r)) : gPut f v ((f, x) :: r) k := .mk (by rw [putW, if_pos rfl]; exact q)
theorem gPut_s {f g : Str} {v x : W} {r : List (Str × W)} {k : List (Str × W) → Prop} (h : (g == f) = false) (q : gPut f v r fun r' => k ((g, x) :: r')) : gPut f v ((g, x) :: r) k := by
  obtain ⟨q⟩ := q
  exact .mk (by rw [putW, if_neg (fun z => by rw [z] at h; simp at h)]; exact q)
theorem exI {o : Option MO} {C dx : Addr} {fs : List (Str × W)} {k : Addr → Addr → List (Str × W) → Prop} (h : o = some (.ins C dx fs)) (q : k C dx fs) : ∃ C dx fs, o = some (.ins C dx fs) ∧ k C dx fs := ⟨C, dx, fs, h, q⟩
theorem exI2 {o : Option MO} {C dx : Addr} {fs : List (Str × W)} {k : Addr → List (Str × W) → Prop} (h : o = some (.ins C dx fs)) (q : k dx fs) : ∃ dx fs, o = some (.ins C dx fs) ∧ k dx fs := ⟨dx, fs, h, q⟩
section
variable {K : PySem.W.Frag} {F H : Hp} {M : Mem}
theorem prR_lookup {F : Hp} : ∀ {fv : List (Str × V)} {fw : List (Str × W)} {f : Str} {w : W}, PrR K F fv fw → fw.lookup f = some w → ∃ v, fv.lookup f = some v ∧ RW K F v w
  | [], [], _, _, _, h => by cases h
  | [], _ :: _, _, _, h, _ => by have := h.1; simp at this
  | _ :: _, [], _, _, h, _ => by have := h.1; simp at this
  | (a, x) :: fv, (b, y) :: fw, f, w, h, e => by
    obtain ⟨h1, h2⟩ := h
    simp only [List.map_cons, List.cons.injEq] at h1
    obtain ⟨e1, e2⟩ := h1
    subst e1
    cases h2 with
    | cons r1 r2 =>
      rw [List.lookup] at e ⊢
      cases c : f == a with
      | true => rw [c] at e; cases e; exact ⟨x, rfl, r1⟩
      | false => rw [c] at e; exact prR_lookup ⟨e2, r2⟩ e
theorem prR_none {F : Hp} : ∀ {fv : List (Str × V)} {fw : List (Str × W)} {f : Str}, PrR K F fv fw → fw.lookup f = none → fv.lookup f = none
  | [], _, _, _, _ => rfl
  | _ :: _, [], _, h, _ => by have := h.1; simp at this
  | (a, x) :: fv, (b, y) :: fw, f, h, e => by
    obtain ⟨h1, h2⟩ := h
    simp only [List.map_cons, List.cons.injEq] at h1
    obtain ⟨e1, e2⟩ := h1
    subst e1
    cases h2 with
    | cons r1 r2 =>
      rw [List.lookup] at e ⊢
      cases c : f == a with
      | true => rw [c] at e; cases e
      | false => rw [c] at e; exact prR_none ⟨e2, r2⟩ e
theorem prR_put {F : Hp} {f : Str} {v : V} {w : W} (r : RW K F v w) : ∀ {fv : List (Str × V)} {fw : List (Str × W)}, PrR K F fv fw → PrR K F (putF f v fv) (putW f w fw)
  | [], [], _ => ⟨rfl, .cons r .nil⟩
  | [], _ :: _, h => by have := h.1; simp at this
  | _ :: _, [], h => by have := h.1; simp at this
  | (a, x) :: fv, (b, y) :: fw, h => by
    obtain ⟨h1, h2⟩ := h
    simp only [List.map_cons, List.cons.injEq] at h1
    obtain ⟨e1, e2⟩ := h1
    subst e1
    cases h2 with
    | cons r1 r2 =>
      rw [putF, putW]
      by_cases c : a = f
      · rw [if_pos c, if_pos c]
        exact ⟨by simp [e2], .cons r r2⟩
      · rw [if_neg c, if_neg c]
        obtain ⟨q1, q2⟩ := prR_put r (fv := fv) (fw := fw) ⟨e2, r2⟩
        exact ⟨by simp [q1], .cons r1 q2⟩
theorem PrR.len {F : Hp} {fv : List (Str × V)} {fw : List (Str × W)} (h : PrR K F fv fw) : fv.length = fw.length := by
  have := congrArg List.length h.1
  simpa using this
theorem Rl.ins (h : Rl K F H M) {a C dx : Addr} {fw : List (Str × W)} (e : M a = some (.ins C dx fw)) : ∃ fv, H a = some (.ins C dx fv) ∧ PrR K F fv fw := by
  obtain ⟨u, h1, fv, rfl, h2⟩ := h.at_ a _ e
  exact ⟨fv, h1, h2⟩
end
section
variable {K : PySem.W.Frag} {Wx : WX} {RE : REx}
@[reducible] def fldT (K : PySem.W.Frag) (f : Str) (T : TDE) : TDE := fun ρ M R => T ρ M fun x M1 => gR x fun a => ∃ C dx fs, M1 a = some (.ins C dx fs) ∧ (L2.Cls K C ∧ NoAttr K C f) ∧ gO (List.lookup f fs) fun w => R w M1
theorem se_fld {f : Str} {t : TE} {T : TDE} (h : SE K Wx RE t T) : SE K Wx RE (tFld K t f) (fldT K f T) := fun F H M σ ρ R Q hr hx hs ht k =>
  h F H M σ ρ _ _ hr hx hs ht fun v H1 F1 M1 x r1 g1 rx h1 => by
    obtain ⟨a, rfl, C, dx, fs, hM, ⟨hc, hn⟩, h2⟩ := gR_of h1
    obtain ⟨w, hl, h3⟩ := gO_of h2
    obtain ⟨fv, e1, e2⟩ := r1.ins hM
    obtain ⟨u, e3, e4⟩ := prR_lookup e2 hl
    exact ⟨a, C, dx, fv, u, rx.ref, e1, hc, hn, e3, k u H1 F1 M1 w r1 g1 e4 h3⟩
@[reducible] def setF (K : PySem.W.Frag) (f : Str) (T O : TDE) : TDS := fun D ρ M => T ρ M fun y M1 => O ρ M1 fun x M2 => gR x fun a => ∃ C dx fs, M2 a = some (.ins C dx fs) ∧ (L2.Cls K C ∧ NoAttr K C f ∧ fs.length < 1000) ∧ gPut f y fs fun fs' => D.nx ρ (mset M2 a (.ins C dx fs'))
theorem ss_fld {f : Str} {tv to : TE} {T O : TDE} (h1 : SE K Wx RE tv T) (h2 : SE K Wx RE to O) : SSt K Wx RE (sFld K to tv f) (setF K f T O) := fun F H M σ ρ D E hr hx hs ht k =>
  h1 F H M σ ρ _ _ hr hx hs ht fun v H1 F1 M1 y r1 g1 ry q1 => h2 F1 H1 M1 σ ρ _ _ r1 (hx.mono g1) (hs.mono g1.ff) q1 fun o H2 F2 M2 x r2 g2 rx q2 => by
    obtain ⟨a, rfl, C, dx, fs, hM, ⟨hc, hn, hl⟩, ⟨q3⟩⟩ := gR_of q2
    obtain ⟨fv, e1, e2⟩ := r2.ins hM
    have e3 := prR_put (f := f) (ry.mono g2.ff) e2
    obtain ⟨r3, g3⟩ := r2.put (u := .ins C dx (putF f v fv)) (o := .ins C dx (putW f y fs)) hM ⟨_, rfl, e3⟩
    have g := (g1.trans g2).trans g3
    exact ⟨a, C, dx, fv, rx.ref, e1, hc, hn, by rw [e2.len]; exact hl, k.nx σ _ _ _ ρ r3 g (hs.mono g.ff) q3⟩
/-! ### methods -/
@[reducible] def methT (C : Addr) (m : Str) (f : TF) (T : TDE) (U : TDA) : TDE := fun ρ M R => T ρ M fun x M1 => gR x fun a => ∃ dx fs, M1 a = some (.ins C dx fs) ∧ List.lookup m fs = none ∧ U ρ M1 fun xs M2 => f (.r a :: xs) M2 R fun _ _ => False
@[reducible] def methX (RE : REx) (C : Addr) (m : Str) (f : TF) (T : TDE) (U : TDA) : TDE := fun ρ M R => T ρ M fun x M1 => gR x fun a => ∃ dx fs, M1 a = some (.ins C dx fs) ∧ List.lookup m fs = none ∧ U ρ M1 fun xs M2 => f (.r a :: xs) M2 R fun x M' => RE x ρ M'
theorem se_meth {C : Addr} {m : Str} {n : Nat} {f : TF} {E : XK} {to : TE} {t : TA} {T : TDE} {U : TDA} (h1 : SE K Wx RE to T) (h2 : SAn K Wx RE n t U) : SE K Wx RE (tMeth C m (spD K (n + 1) f) [] E to t) (methT C m f T U) := fun F H M σ ρ R Q hr hx hs ht k =>
  h1 F H M σ ρ _ _ hr hx hs ht fun v H1 F1 M1 x r1 g1 rx q1 => by
    obtain ⟨a, rfl, dx, fs, hM, hl, q2⟩ := gR_of q1
    obtain ⟨fv, e1, e2⟩ := r1.ins hM
    refine ⟨a, dx, fv, rx.ref, e1, prR_none e2 hl, h2 F1 H1 M1 σ ρ _ _ r1 (hx.mono g1) (hs.mono g1.ff) q2 fun vs H2 F2 M2 xs r2 g2 rxs hl2 q3 => ?_⟩
    show spD K (n + 1) f (v :: (vs ++ [])) H2 Q E
    rw [List.append_nil]
    exact ⟨F2, M2, _, R, _, r2, .cons (rx.mono g2.ff) rxs, by rw [List.length_cons, hl2], q3, fun w H3 F3 M3 z r3 g3 rz hz => k w H3 F3 M3 z r3 ((g1.trans g2).trans g3) rz hz, fun cls d H' F' M' x _ _ _ z => z.elim⟩
/-- a method that may raise -/
def tMethS (C : Addr) (m : Str) (sp : Sp) (E : L2.St → XK) (ta : TE) (t : TA) : TE := fun σ H Q => ta σ H fun x H1 => ∃ a dx fs, x = .ref a ∧ H1 a = some (.ins C dx fs) ∧ fs.lookup m = none ∧ t σ H1 fun vs H2 => sp (x :: vs) H2 Q (E σ)
theorem se_methX {C : Addr} {m : Str} {n : Nat} {f : TF} {to : TE} {t : TA} {T : TDE} {U : TDA} (h1 : SE K Wx RE to T) (h2 : SAn K Wx RE n t U) : SE K Wx RE (tMethS C m (spD K (n + 1) f) (WE Wx) to t) (methX RE C m f T U) := fun F H M σ ρ R Q hr hx hs ht k =>
  h1 F H M σ ρ _ _ hr hx hs ht fun v H1 F1 M1 x r1 g1 rx q1 => by
    obtain ⟨a, rfl, dx, fs, hM, hl, q2⟩ := gR_of q1
    obtain ⟨fv, e1, e2⟩ := r1.ins hM
    refine ⟨a, dx, fv, rx.ref, e1, prR_none e2 hl, h2 F1 H1 M1 σ ρ _ _ r1 (hx.mono g1) (hs.mono g1.ff) q2 fun vs H2 F2 M2 xs r2 g2 rxs hl2 q3 => ?_⟩
    exact ⟨F2, M2, _, R, _, r2, .cons (rx.mono g2.ff) rxs, by rw [List.length_cons, hl2], q3, fun w H3 F3 M3 z r3 g3 rz hz => k w H3 F3 M3 z r3 ((g1.trans g2).trans g3) rz hz, fun cls d H' F' M' x r3 g3 xr z => hx F' H' M' σ ρ cls d x ((g1.trans g2).trans g3) r3 (hs.mono ((g1.trans g2).trans g3).ff) xr z⟩
/-! ### making one -/
@[reducible] def makeX (RE : REx) (C : Addr) (f : TF) (U : TDA) : TDE := fun ρ M R => U ρ M fun xs M1 => ∀ a dx, M1 a = none → f (.r a :: xs) (mset M1 a (.ins C dx [])) (fun v M2 => v = .d .none ∧ R (.r a) M2) fun x M' => RE x ρ M'
theorem Rl.made {F H : Hp} {M : Mem} (h : Rl K F H M) {x dx C : Addr} (e1 : H x = none) (e2 : H dx = none) (hne : dx ≠ x) : Rl K F (upd (upd H dx (.own x)) x (.ins C dx [])) (mset M x (.ins C dx [])) ∧ Gr F H M F (upd (upd H dx (.own x)) x (.ins C dx [])) (mset M x (.ins C dx [])) := by
  obtain ⟨r1, g1⟩ := h.same (same_new (o := .own x) e2)
  have e3 : upd H dx (.own x) x = none := by rw [upd_ne (fun z => hne z.symm)]; exact e1
  obtain ⟨r2, g2⟩ := r1.born (u := .ins C dx []) (o := .ins C dx []) e3 ⟨[], rfl, rfl, .nil⟩
  exact ⟨r2, g1.trans g2⟩
def tMakeS (C : Addr) (sp : Sp) (E : L2.St → XK) (t : TA) : TE := fun σ H Q => t σ H fun vs H1 => ∀ x dx, H1 x = none → H1 dx = none → dx ≠ x →
  sp (.ref x :: vs) (upd (upd H1 dx (.own x)) x (.ins C dx [])) (fun v H2 => v = .non ∧ Q (.ref x) H2) (E σ)
theorem se_makeX {C : Addr} {n : Nat} {f : TF} {t : TA} {U : TDA} (h : SAn K Wx RE n t U) : SE K Wx RE (tMakeS C (spD K (n + 1) f) (WE Wx) t) (makeX RE C f U) := fun F H M σ ρ R Q hr hx hs ht k =>
  h F H M σ ρ _ _ hr hx hs ht fun vs H1 F1 M1 xs r1 g1 rxs hl q1 x dx e1 e2 hne => by
    obtain ⟨r2, g2⟩ := r1.made (C := C) e1 e2 hne
    refine ⟨F1, _, _, _, _, r2, .cons (.r x) (rxs.mono g2.ff), by rw [List.length_cons, hl], q1 x dx (r1.new e1), fun w H3 F3 M3 z r3 g3 rz hz => ?_, fun cls d H' F' M' y r3 g3 xr z => hx F' H' M' σ ρ cls d y ((g1.trans g2).trans g3) r3 (hs.mono ((g1.trans g2).trans g3).ff) xr z⟩
    obtain ⟨rfl, hz⟩ := hz
    exact ⟨rz.non, k _ H3 F3 M3 _ r3 ((g1.trans g2).trans g3) (.r x) hz⟩
end
section
variable {X : Cx} {CX : CXT} {k : Nat} {f C : Addr} {fd : FuncData} {ps : List Str} {sp : Sp} {E : L2.St → XK} {x m : Str} {p pos apos : Pos} {e o : Expr} {es : List Expr} {ta : TE} {t : TA}
theorem pe_methE {pl : Sem Bool} (he : PE X o ta) (c : L2.Cls X.K C) (hm : Meth X.K C m f) (F : FnOk X.prog X.w X.K X.mg X.base CX k f fd ps sp) (hr : Room k X.A) (hb : Binds X.K fd ps []) (hx : ∀ σ, PassesAt CX X σ (E σ)) (ha : PA X (e :: es) t)
    (hst : starEach (e :: es) X.env = (false, eval e X.env) :: starEach es X.env := by rfl) (hpl : (backTo pos (starEach es X.env)).any (·.1) = false := by rfl)
    (ht : eval (.Call (.Attribute o m apos) (e :: es) [] pos) X.env = (do
      let ov ← eval o X.env
      standAt apos.atName
      let (f, first) ← holding [ov] (getMethod ov m pl)
      callWith pos f first (backTo pos (starEach (e :: es) X.env)) (backToKw pos (keywordEach [] X.env))) := by rfl) :
    PE X (.Call (.Attribute o m apos) (e :: es) [] pos) (tMethS C m sp E ta t) := by
  refine ⟨fun pins s σ H Q I h => ?_⟩
  refine PySem.W.methodCall_KW (pl := pl) (thn (he.run pins s σ H _ I h) fun u s1 ⟨x, H1, I1, rx, a, dx, fs, ex, ea, l, q⟩ => ?_) ht
  subst ex
  obtain rfl : u = Value.ref a := rx
  refine getmeth_ok I1 ea c hm l ?_
  refine PySem.W.callWith_K (first := [.ref a]) (h₀ := X.base) I.ok.mod.kin hm.kp (thn (ha.run pos pins s1 σ H1 _ I1 q) fun us s2 ⟨vs, H2, I2, r, q2⟩ => ⟨I2.kIn, ?_⟩) hst hpl
  exact run_fnS (us := .ref a :: us) (vs := .ref a :: vs) F hr hb (hx σ) I2 (.cons rfl r) q2
theorem pe_methE0 {pl : Sem Bool} (he : PE X o ta) (c : L2.Cls X.K C) (hm : Meth X.K C m f) (F : FnOk X.prog X.w X.K X.mg X.base CX k f fd ps sp) (hr : Room k X.A) (hb : Binds X.K fd ps []) (hx : ∀ σ, PassesAt CX X σ (E σ))
    (ht : eval (.Call (.Attribute o m apos) [] [] pos) X.env = (do
      let ov ← eval o X.env
      standAt apos.atName
      let (f, first) ← holding [ov] (getMethod ov m pl)
      callWith pos f first (backTo pos (starEach [] X.env)) (backToKw pos (keywordEach [] X.env))) := by rfl) :
    PE X (.Call (.Attribute o m apos) [] [] pos) (tMethS C m sp E ta tNil) := by
  refine ⟨fun pins s σ H Q I h => ?_⟩
  refine PySem.W.methodCall_KW (pl := pl) (thn (he.run pins s σ H _ I h) fun u s1 ⟨x, H1, I1, rx, a, dx, fs, ex, ea, l, q⟩ => ?_) ht
  subst ex
  obtain rfl : u = Value.ref a := rx
  refine getmeth_ok I1 ea c hm l ?_
  exact PySem.W.callWith_K0 (first := [.ref a]) I1.kIn hm.kp (run_fnS (us := [.ref a]) (vs := [.ref a]) F hr hb (hx σ) I1 (.cons rfl .nil) q)
end
section
variable {K : PySem.W.Frag} {Wx : WX} {RE : REx}
/-- o.f op= e -/
@[reducible] def augF (K : PySem.W.Frag) (g : F2) (f : Str) (O T : TDE) : TDS := fun D ρ M => O ρ M fun x M1 => gR x fun a => ∃ C dx fs, M1 a = some (.ins C dx fs) ∧ (L2.Cls K C ∧ NoAttr K C f) ∧ gO (List.lookup f fs) fun v => T ρ M1 fun y M2 => g v y M2 fun z M3 =>
  ∃ dx' fs', M3 a = some (.ins C dx' fs') ∧ fs'.length < 1000 ∧ gPut f z fs' fun fs2 => D.nx ρ (mset M3 a (.ins C dx' fs2))
theorem ss_augF {f : Str} {rd : R2} {g : F2} {to tv : TE} {O T : TDE} (hg : SO K rd g) (h1 : SE K Wx RE to O) (h2 : SE K Wx RE tv T) : SSt K Wx RE (sFldAug K to tv rd f) (augF K g f O T) := fun F H M σ ρ D E hr hx hs ht k =>
  h1 F H M σ ρ _ _ hr hx hs ht fun v H1 F1 M1 x r1 g1 rx q1 => by
    obtain ⟨a, rfl, C, dx, fs, hM, ⟨hc, hn⟩, q2⟩ := gR_of q1
    obtain ⟨w, hl, q3⟩ := gO_of q2
    obtain ⟨fv, e1, e2⟩ := r1.ins hM
    obtain ⟨u, e3, e4⟩ := prR_lookup e2 hl
    refine ⟨a, C, dx, fv, u, rx.ref, e1, hc, hn, e3, h2 F1 H1 M1 σ ρ _ _ r1 (hx.mono g1) (hs.mono g1.ff) q3 fun y H2 F2 M2 yw r2 g2 ry q4 => ?_⟩
    refine hg F2 H2 M2 u y w yw _ _ r2 (e4.mono g2.ff) ry q4 fun z H3 F3 M3 zw r3 g3 rz q5 => ?_
    obtain ⟨dx', fs', hM3, hl3, ⟨q6⟩⟩ := q5
    obtain ⟨fv3, e5, e6⟩ := r3.ins hM3
    have e7 := prR_put (f := f) rz e6
    obtain ⟨r4, g4⟩ := r3.put (u := .ins C dx' (putF f z fv3)) (o := .ins C dx' (putW f zw fs')) hM3 ⟨_, rfl, e7⟩
    have g := ((g1.trans g2).trans g3).trans g4
    exact ⟨dx', fv3, e5, by rw [e6.len]; exact hl3, k.nx σ _ _ _ ρ r4 g (hs.mono g.ff) q6⟩
end
end Tl
set_option Elab.async false
set_option linter.all false
set_option maxRecDepth 100000
set_option maxHeartbeats 4000000
/-! Errors with a field, raised. -/
namespace Tl
open PySem PySem.Spec PyProof.Rows L2
def inClsN (s : Stmt) (i : Nat) : Stmt := match s with
  | .ClassDef _ _ _ b _ _ _ _ _ _ _ => b.getD i (.Pass ⟨0, 0, 0, 0⟩)
  | _ => .Pass ⟨0, 0, 0, 0⟩
def spInitF (K : PySem.W.Frag) (C : Addr) (fld : Str) : Sp := fun vs H Q _ => ∃ (a : Addr) (v : V), vs = [.ref a, v] ∧ H a = some (exo a C none) ∧ ∀ dx, H dx = none → dx ≠ a → Q .non (upd (upd H dx (exd dx [(fld, v)])) a (exo a C (some dx)))
/-- an own error with one field, as the top has left it -/
structure ErF (K : PySem.W.Frag) (mg : Str → Option Value) (nm qual fld : Str) (st : Stmt) (C : Addr) : Prop where
  o : OexC K C
  g : mg nm = some (.ref C)
  n : PySem.W.findIn K (.ref C) fld = some none
  i : ∃ fI fdI, PySem.W.findIn K (.ref C) "__init__" = some (some (.ref fI)) ∧ PySem.W.typeIn K (.ref fI) = some (.type "function") ∧ Fun K "__init__" qual st fI fdI
section
variable {K : PySem.W.Frag} {Wx : WX} {RE : REx}
@[reducible] def raiseF (RE : REx) (C : Addr) (fld : Str) (T : TDA) : TDS := fun _ ρ M => T ρ M fun xs M1 => g1 xs fun x => gD x fun d => RE ⟨.ref C, [(fld, d)]⟩ ρ M1
theorem ss_raiseF {C : Addr} {fld : Str} {n : Nat} {t : TA} {T : TDA} (h : SAn K Wx RE n t T) : SSt K Wx RE (fun _ σ H => tMkO C (spInitF K C fld) [] t σ H fun cls d H' => Wx cls d σ H') (raiseF RE C fld T) := fun F H M σ ρ D E hr hx hs ht k =>
  h F H M σ ρ _ _ hr hx hs ht fun vs H1 F1 M1 xs r1 g1 rxs hl q1 => by
    obtain ⟨x, rfl, q2⟩ := g1_of q1
    obtain ⟨d, rfl, q3⟩ := gD_of q2
    obtain ⟨v, rfl, rv⟩ := rxs.one
    refine ⟨by show 1 ≤ 1000; decide, fun a ha => ⟨a, v, rfl, upd_same, fun dx hd1 hd2 => ⟨rfl, dx, [(fld, v)], upd_same, ?_, ?_, ?_⟩⟩⟩
    · rw [upd_ne hd2]
      exact upd_same
    · rw [upd_ne hd2] at hd1
      exact hd1
    · rw [upd_ne hd2] at hd1
      have e : upd (L2.del (upd (upd (upd H1 a (exo a C none)) dx (exd dx [(fld, v)])) a (exo a C (some dx))) a) dx (.xd [(fld, v)]) = upd H1 dx (.xd [(fld, v)]) := by
        funext b
        by_cases c : b = dx
        · rw [c, upd_same, upd_same]
        · rw [upd_ne c, upd_ne c]
          by_cases c2 : b = a
          · subst c2
            show (if b = b then none else _) = _
            rw [if_pos rfl, ha]
          · rw [L2.del_ne c2, upd_ne c2, upd_ne c, upd_ne c2]
      rw [e]
      obtain ⟨r2, g2⟩ := r1.fresh (u := .xd [(fld, v)]) hd1
      have g := g1.trans g2
      refine hx (upd F1 dx (.xd [(fld, v)])) _ M1 σ ρ (.ref C) (some dx) ⟨.ref C, [(fld, d)]⟩ g r2 (hs.mono g.ff) ⟨rfl, [(fld, v)], upd_same, rfl, .cons (Dx.mono g2.ff _ _ rv.dx) .nil⟩ q3
/-! ### isinstance of data, one of some built-in classes -/
def tyAny (d : PyData) : List String → Option Bool
  | [] => some false
  | n :: r => (tyIs d n).bind fun b => if b = true then some true else tyAny d r
inductive gNs (ys : List W) (k : List String → Prop) : Prop where
  | mk (ns : List String) (h : ys = ns.map fun n => W.o (.ty n)) (q : k ns)
theorem gNs_n {k : List String → Prop} (q : k []) : gNs [] k := .mk [] rfl q
theorem gNs_c {n : String} {r : List W} {k : List String → Prop} (h : gNs r fun ns => k (n :: ns)) : gNs (.o (.ty n) :: r) k := by
  obtain ⟨ns, rfl, q⟩ := h
  exact .mk (n :: ns) rfl q
theorem tyAny_lt {d : PyData} : tyAny d ["list", "tuple"] = some (isList d || isTup d) := by
  rw [tyAny, tyAny, tyAny, tyIs_list, tyIs_tuple]
  cases isList d <;> cases isTup d <;> rfl
end
end Tl
set_option Elab.async false
set_option linter.all false
set_option maxRecDepth 100000
set_option maxHeartbeats 4000000
/-! list and tuple of a range; a list taken apart; equal data. -/
namespace Tl
open PySem L2
mutual
theorem eqv_self : ∀ d : PyData, d.hasDict = false → PyData.eqv d d = true
  | .none, _ => rfl
  | .bool b, _ => by rw [PyData.eqv]; exact beq_self_eq_true b
  | .int i, _ => by rw [PyData.eqv]; exact beq_self_eq_true i
  | .str x, _ => by rw [PyData.eqv]; exact beq_self_eq_true x
  | .list ds, h => by rw [PyData.hasDict] at h; rw [PyData.eqv]; exact eqvAll_self ds h
  | .tuple ds, h => by rw [PyData.hasDict] at h; rw [PyData.eqv]; exact eqvAll_self ds h
  | .dict _, h => by rw [PyData.hasDict] at h; cases h
theorem eqvAll_self : ∀ ds : List PyData, PyData.hasDictAll ds = false → PyData.eqvAll ds ds = true
  | [], _ => rfl
  | d :: r, h => by
    rw [PyData.hasDictAll, Bool.or_eq_false_iff] at h
    rw [PyData.eqvAll, eqv_self d h.1, eqvAll_self r h.2]
    rfl
end
end Tl
set_option Elab.async false
set_option linter.all false
set_option maxRecDepth 100000
set_option maxHeartbeats 4000000
/-! Slices of lists stored; tables by words (dicts that the top has left for good). -/
namespace Tl
open PySem PySem.Spec PyProof.Rows L2
/-! ### x in a list, of any data -/
/-! ### slices, by places -/
theorem cut_mid {α : Type} {xs : List α} {a b : Nat} : cut xs (some (a : Int)) (some (b : Int)) = (xs.drop a).take (b - a) := by
  unfold cut
  rw [HT.sIx_nat, HT.sIx_nat]
  rcases Nat.le_total a xs.length with h | h
  · rw [Nat.min_eq_left h]
    rcases Nat.le_total b xs.length with g | g
    · rw [Nat.min_eq_left g]
    · rw [Nat.min_eq_right g, List.take_of_length_le (by rw [List.length_drop]; omega), List.take_of_length_le (by rw [List.length_drop]; omega)]
  · rw [Nat.min_eq_right h, List.drop_of_length_le (Nat.le_refl _), List.drop_of_length_le h, List.take_nil, List.take_nil]
/-! ### tables -/
/-- what stands in a table: a def, or data -/
inductive TV where
  | f (a : Addr)
  | d (x : PyData)
@[reducible] def TV.w : TV → W
  | .f a => .o (.ref a)
  | .d x => .d x
end Tl
set_option Elab.async false
set_option linter.all false
set_option maxRecDepth 100000
set_option maxHeartbeats 4000000
namespace Tl
open PySem L2 RZ
local macro_rules
  | `(tactic| decreasing_trivial) => `(tactic| ((with_reducible (conv => whnf)); (repeat ((first | (with_reducible refine gDs_c ?_) | (with_reducible refine gDs_n ?_) | (with_reducible refine gNs_c ?_) | (with_reducible refine gNs_n ?_) | (with_reducible refine gO_i tyAny_lt ?_) | (with_reducible refine gIs_c ?_) | (with_reducible refine gIs_n ?_) | (with_reducible refine gBs_c ?_) | (with_reducible refine gBs_n ?_) | (with_reducible refine gSs_c ?_) | (with_reducible refine gSs_n ?_) | (with_reducible refine gO_i tyIs_int ?_) | (with_reducible refine gO_i tyIs_bool ?_) | (with_reducible refine gO_i tyIs_str ?_) | (with_reducible refine gO_i tyIs_tuple ?_) | (with_reducible refine gO_i tyIs_list ?_) | (with_reducible refine gDs_i ?_) | (with_reducible refine gO_i (Eq.refl _) ?_) | (with_reducible refine gO_i (by assumption) ?_) | (with_reducible refine gO_i at_0 ?_) | (with_reducible refine gO_i at_m0 ?_) | (with_reducible refine gO_i at_1 ?_) | (with_reducible refine gO_i at_m1 ?_) | (with_reducible refine gO_i at_2 ?_) | (with_reducible refine gO_i at_m2 ?_) | (with_reducible refine gO_i at_3 ?_) | (with_reducible refine gO_i at_m3 ?_) | (with_reducible refine gO_i at_4 ?_) | (with_reducible refine gO_i at_m4 ?_) | (with_reducible refine gO_i at_5 ?_) | (with_reducible refine gO_i at_m5 ?_) | (with_reducible refine gO_i at_6 ?_) | (with_reducible refine gO_i at_m6 ?_) | (with_reducible refine gO_i at_7 ?_) | (with_reducible refine gO_i at_m7 ?_) | (with_reducible refine IfB.ngf ?_) | (with_reducible refine IfB.ngt ?_) | (with_reducible refine IfB.not ?_) | (with_reducible refine IfB.nil ?_) | (with_reducible refine IfB.nilT ?_) | (with_reducible refine IfB.f isE_c ?_) | (with_reducible refine IfB.t isE_n ?_) | (with_reducible refine IfB.t ?gha ?_; (case gha => rfl)) | (with_reducible refine IfB.f ?gha ?_; (case gha => rfl)) | (with_reducible refine IfB.t ?gha ?_; (case gha => assumption)) | (with_reducible refine IfB.f ?gha ?_; (case gha => assumption)) | (with_reducible refine IfB.yes (Eq.refl _) ?_) | (with_reducible refine IfB.yes ?gha ?_; (case gha => (first | omega | (simp only [len_c, len_n, List.length_map]; omega)))) | (with_reducible refine IfB.no ?gha ?_; (case gha => (first | omega | (simp only [len_c, len_n, List.length_map]; omega)))) | (with_reducible refine IfB.t ?gha ?_; (case gha => decide +kernel)) | (with_reducible refine IfB.f ?gha ?_; (case gha => decide +kernel))); (with_reducible (conv => whnf))))))
local macro_rules
  | `(tactic| decreasing_trivial_pre_omega) => `(tactic| (decreasing_trivial; (repeat ((first | ((with_reducible refine And.intro ?gha ?_); (case gha => (first | assumption | omega | exact rfl | (exact mset_same) | (exact ⟨_, mset_same⟩) | (exact Exists.intro _ (by first | exact mset_same | assumption | (rw [mset_ne (by assumption)]; first | exact mset_same | assumption))) | (exact sm_of (by omega) (by omega)) | (exact sz1000 (by first | omega | (simp; done) | (simp; omega))) | (exact Or.inl ⟨by decide, by decide⟩) | decide | (simp; done) | (refine ⟨?_, ?_⟩ <;> (first | assumption | omega | exact rfl | (exact mset_same) | (exact ⟨_, mset_same⟩) | (exact Exists.intro _ (by first | exact mset_same | assumption | (rw [mset_ne (by assumption)]; first | exact mset_same | assumption))) | (exact sm_of (by omega) (by omega)) | (exact sz1000 (by first | omega | (simp; done) | (simp; omega))) | (exact Or.inl ⟨by decide, by decide⟩) | decide | (simp; done))) | (refine ⟨?_, ?_, ?_⟩ <;> (first | assumption | omega | exact rfl | (exact mset_same) | (exact ⟨_, mset_same⟩) | (exact Exists.intro _ (by first | exact mset_same | assumption | (rw [mset_ne (by assumption)]; first | exact mset_same | assumption))) | (exact sm_of (by omega) (by omega)) | (exact sz1000 (by first | omega | (simp; done) | (simp; omega))) | (exact Or.inl ⟨by decide, by decide⟩) | decide | (simp; done))) | (refine ⟨?_, ?_, ?_, ?_⟩ <;> (first | assumption | omega | exact rfl | (exact mset_same) | (exact ⟨_, mset_same⟩) | (exact Exists.intro _ (by first | exact mset_same | assumption | (rw [mset_ne (by assumption)]; first | exact mset_same | assumption))) | (exact sm_of (by omega) (by omega)) | (exact sz1000 (by first | omega | (simp; done) | (simp; omega))) | (exact Or.inl ⟨by decide, by decide⟩) | decide | (simp; done)))))) | (with_reducible refine exW (by first | exact mset_same | assumption | (rw [mset_ne (by assumption)]; first | exact mset_same | assumption)) ?_)); decreasing_trivial))))
def top (i : Nat) : Stmt := PySem.Challenge.pw_treelore_k70_texts_of_trees.main.body.getD i (.Pass ⟨0, 0, 0, 0⟩)
section
variable {P : Program} {w : World} {K : PySem.W.Frag} {mg : Str → Option Value} {base : Heap}
abbrev sIsCount : Stmt := top 15
theorem scCount : FnScope ["thing"] ["thing"] (defScope sIsCount) := ⟨rfl, rfl, rfl, by decide +kernel, rfl, by decide +kernel, by decide +kernel⟩
theorem ok_count {f : Addr} {fd : FuncData} {k : Nat} (F : Fun K "is_count" "is_count" sIsCount f fd) (T : Bl mg) : FnOk P w K mg base CX0 (k + 1) f fd ["thing"] (spD K 1 (tfB isCount)) := by
  refine okD F scCount rfl fun cdv A outer s H E hr => ?_
  refine ⟨_, _, (pss_one (ps_ret (pe_and (pe_callB (r := rIsi K) call_isi (by rfl) T.isi PyProof.Rows.boot_isinstance (pa_cons (pv 0) (pa_cons (b_int T) pa_nil))) (pe_and (pe_not (pe_callB (r := rIsi K) call_isi (by rfl) T.isi PyProof.Rows.boot_isinstance (pa_cons (pv 0) (pa_cons (b_bool T) pa_nil)))) (pe_one (pe_cmpR op_ge (pv 0) pe_int (nomark _))))))),
    (ss_ret (se_and (se_cb sc_isi (sa_cons se_nm (sa_cons se_o sa_nil))) (se_and (se_not (se_cb sc_isi (sa_cons se_nm (sa_cons se_o sa_nil)))) (se_op so_ge se_nm se_int)))), fun ws M R RX hl h => ?_⟩
  obtain ⟨x, rfl, h1⟩ := g1_of h
  obtain ⟨d, rfl, ht, h2⟩ := gD_of h1
  cases d <;> (simp only [start0, len_c, len_n, map_c, map_n, app_c, app_n, rep_0, rep_s, Nat.reduceAdd, Nat.reduceSub]; decreasing_trivial; exact h2)
abbrev sIsNumber : Stmt := top 16
theorem scNumber : FnScope ["thing", "most"] ["thing", "most"] (defScope sIsNumber) := ⟨rfl, rfl, rfl, by decide +kernel, rfl, by decide +kernel, by decide +kernel⟩
theorem ok_number {f : Addr} {fd : FuncData} {k j : Nat} (F : Fun K "is_number" "is_number" sIsNumber f fd) (Uis_count : Use P w K mg base "is_count" ["thing"] j (spD K 1 (tfB isCount))) (hj : j ≤ k) (T : Bl mg) : FnOk P w K mg base CX0 (k + 1) f fd ["thing", "most"] (spD K 2 (tfB2 isNum)) := by
  refine okD F scNumber rfl fun cdv A outer s H E hr => ?_
  refine ⟨_, _, (pss_one (ps_ret (pe_and (pe_call Uis_count.ok (hr.mono (by omega)) rfl Uis_count.m Uis_count.kp Uis_count.b .nil pass0 (pa_cons (pv 0) pa_nil)) (pe_one (pe_cmpR op_le (pv 0) (pv 1) (nomark _)))))),
    (ss_ret (se_and (se_call (sa_cons se_nm sa_nil)) (se_op so_le se_nm se_nm))), fun ws M R RX hl h => ?_⟩
  obtain ⟨x, y, rfl, h1⟩ := g2_of h
  obtain ⟨d, rfl, h2⟩ := gD_of h1
  obtain ⟨m, rfl, ht, h3⟩ := gI_of h2
  simp only [start0, len_c, len_n, map_c, map_n, app_c, app_n, rep_0, rep_s, Nat.reduceAdd, Nat.reduceSub]
  decreasing_trivial_pre_omega
  cases d with
  | int i =>
    rw [isCount]
    rw [isNum] at h3
    refine IfB.d (fun c => ?_) (fun c => ?_)
    · decreasing_trivial_pre_omega
      rw [decide_eq_true c, Bool.true_and] at h3
      exact h3
    · decreasing_trivial_pre_omega
      rw [decide_eq_false c, Bool.false_and] at h3
      exact h3
  | _ => refine IfB.f rfl ?_; decreasing_trivial_pre_omega; exact h3
abbrev sIsTag : Stmt := top 17
theorem scTag : FnScope ["thing", "sign"] ["thing"] (defScope sIsTag) := ⟨rfl, rfl, rfl, by decide +kernel, rfl, by decide +kernel, by decide +kernel⟩
theorem ok_tag {f : Addr} {fd : FuncData} {k : Nat} (F : Fun K "is_tag" "is_tag" sIsTag f fd) (T : Bl mg) (C : Cs mg) : FnOk P w K mg base CX0 (k + 1) f fd ["thing"] (spD K 1 (tfB isTag)) := by
  refine okD F scTag rfl fun cdv A outer s H E hr => ?_
  refine ⟨_, _, (pss_cons (ps_if (PW.pt (pw_or (pt_not (pt_val (pe_callB (r := rIsi K) call_isi (by rfl) T.isi PyProof.Rows.boot_isinstance (pa_cons (pv 0) (pa_cons (b_str T) pa_nil))))) (pw_or1 (pt_not (pt_chain op_le op_le pe_int (pe_callB call_len_str (by rfl) T.len PySem.boot_len (pa_cons (pv 0) pa_nil)) (c_SIGNS C)))))) (pss_one (ps_ret pe_bl)) pss_nil)
    (pss_one (ps_ret (pe_callB (cr_all rfl) (by rfl) T.all PyProof.Rows.boot_all (pa_cons (pe_lc (own := [("sign", 1)]) (g := gName 1) (tt := tYes) (by rfl) scTag.nd (pi_str (pv 0)) (blkOk_by (N := ["thing", "sign"]) (sc := defScope sIsTag) (own := [("sign", 1)]) (by decide +kernel)) (fun _ _ _ _ _ => pg_name (i := 1) scTag.nd rfl (Or.inl rfl)) (fun _ _ _ _ _ => pts_nil) (fun _ _ _ _ _ => (pe_chain op_le_str op_le_str pe_str (pv 1) pe_str))) pa_nil))))),
    (ss_cons (ss_if (st_or (st_not (st_val (se_cb sc_isi (sa_cons se_nm (sa_cons se_o sa_nil))))) (st_not (st_test (se_chain so_le so_le se_int (se_cb sc_lenS (sa_cons se_nm sa_nil)) se_int)))) (ss_ret se_bl) ss_nil)
    (ss_ret (se_cb sc_all (sa_cons (se_lcF (si_str se_nm) sg_name st_yes (se_chain so_leS so_leS se_str se_nm se_str)) sa_nil)))), fun ws M R RX hl h => ?_⟩
  obtain ⟨x, rfl, h1⟩ := g1_of h
  obtain ⟨d, rfl, ht, h2⟩ := gD_of h1
  cases d with
  | str z =>
    have hz : z.length ≤ 1000 := (txt_str ht).1
    simp only [start0, len_c, len_n, map_c, map_n, app_c, app_n, rep_0, rep_s, Nat.reduceAdd, Nat.reduceSub]
    decreasing_trivial_pre_omega
    rw [isTag] at h2
    refine IfB.d (fun c1 => ?_) (fun c1 => ?_)
    · rw [decide_eq_true (p := 1 ≤ z.length) (by omega)] at h2
      decreasing_trivial_pre_omega
      refine IfB.d (fun c2 => ?_) (fun c2 => ?_)
      · rw [decide_eq_true (p := z.length ≤ 8) (by omega)] at h2
        decreasing_trivial_pre_omega
        unfold signs
        refine lc1 (fun c => .d (.bool (small c))) trivial (fun c _ Rk q => ?_) (sz1000 (by show z.length ≤ 1000; omega)) ?_
        · decreasing_trivial_pre_omega
          rw [show decide ((⟨#[c]⟩ : Str).cps.toList < ("a" : Str).cps.toList) = !decide (97 ≤ c) by rw [← le_a, Bool.not_not]]
          unfold small at q
          decreasing_trivial_pre_omega
          refine IfB.d (fun c3 => ?_) (fun c3 => ?_)
          · decreasing_trivial_pre_omega
            rw [decide_eq_true c3, Bool.true_and] at q
            show Rk (W.d (.bool (!decide (("z" : Str).cps.toList < (⟨#[c]⟩ : Str).cps.toList)))) M
            rw [le_z c]
            exact q
          · decreasing_trivial_pre_omega
            rw [decide_eq_false c3] at q
            exact q
        · rw [show (z.cps.toList.map fun c => W.d (.bool (small c))) = (z.cps.toList.map fun c => PyData.bool (small c)).map W.d by rw [List.map_map]; rfl, gDs_map]
          decreasing_trivial_pre_omega
          rw [List.map_map]
          show gBs (z.cps.toList.map fun c => W.d (.bool (small c))) _
          rw [gBs_map]
          simpa using h2
      · rw [decide_eq_false (p := z.length ≤ 8) (by omega)] at h2
        decreasing_trivial_pre_omega
        exact h2
    · rw [decide_eq_false (p := 1 ≤ z.length) (by omega)] at h2
      decreasing_trivial_pre_omega
      exact h2
  | _ => simp only [start0, len_c, len_n, map_c, map_n, app_c, app_n, rep_0, rep_s, Nat.reduceAdd, Nat.reduceSub]; decreasing_trivial_pre_omega; exact h2
abbrev sTagKids : Stmt := top 21
theorem scTagKids : FnScope ["thing"] ["thing"] (defScope sTagKids) := ⟨rfl, rfl, rfl, by decide +kernel, rfl, by decide +kernel, by decide +kernel⟩
theorem ok_tagKids {f : Addr} {fd : FuncData} {k j : Nat} (F : Fun K "is_tag_and_kids" "is_tag_and_kids" sTagKids f fd) (Uis_tag : Use P w K mg base "is_tag" ["thing"] j (spD K 1 (tfB isTag))) (hj : j ≤ k) (T : Bl mg) : FnOk P w K mg base CX0 (k + 1) f fd ["thing"] (spD K 1 (tfB tagKids)) := by
  refine okD F scTagKids rfl fun cdv A outer s H E hr => ?_
  refine ⟨_, _, (pss_one (ps_ret (pe_and (pe_callB (r := rIsi K) call_isi (by rfl) T.isi PyProof.Rows.boot_isinstance (pa_cons (pv 0) (pa_cons (b_tuple T) pa_nil))) (pe_and (pe_cmpR op_eq (pe_callB call_len_seq (by rfl) T.len PySem.boot_len (pa_cons (pv 0) pa_nil)) pe_int (nomark _)) (pe_and (pe_call Uis_tag.ok (hr.mono (by omega)) rfl Uis_tag.m Uis_tag.kp Uis_tag.b .nil pass0 (pa_cons (pe_ix ix_tup (pv 0) pe_int (fun _ _ => rfl)) pa_nil)) (pe_one (pe_callB (r := rIsi K) call_isi (by rfl) T.isi PyProof.Rows.boot_isinstance (pa_cons (pe_ix ix_tup (pv 0) pe_int (fun _ _ => rfl)) (pa_cons (b_tuple T) pa_nil))))))))),
    (ss_ret (se_and (se_cb sc_isi (sa_cons se_nm (sa_cons se_o sa_nil))) (se_and (se_op so_eqS (se_cb sc_len (sa_cons se_nm sa_nil)) se_int) (se_and (se_call (sa_cons (se_op so_ixT se_nm se_int) sa_nil)) (se_cb sc_isi (sa_cons (se_op so_ixT se_nm se_int) (sa_cons se_o sa_nil))))))), fun ws M R RX hl h => ?_⟩
  obtain ⟨x, rfl, h1⟩ := g1_of h
  obtain ⟨d, rfl, ht, h2⟩ := gD_of h1
  cases d with
  | tuple ds =>
    match ds with
    | [] => simp only [start0, len_c, len_n, map_c, map_n, app_c, app_n, rep_0, rep_s, Nat.reduceAdd, Nat.reduceSub]; decreasing_trivial_pre_omega; exact h2
    | [_] => simp only [start0, len_c, len_n, map_c, map_n, app_c, app_n, rep_0, rep_s, Nat.reduceAdd, Nat.reduceSub]; decreasing_trivial_pre_omega; exact h2
    | _ :: _ :: _ :: _ => simp only [start0, len_c, len_n, map_c, map_n, app_c, app_n, rep_0, rep_s, Nat.reduceAdd, Nat.reduceSub]; decreasing_trivial_pre_omega; exact h2
    | [a, b] =>
      have hta : txt a = true := by rw [txt] at ht; exact txtAll_get (i := 0) ht rfl
      rw [tagKids] at h2
      simp only [start0, len_c, len_n, map_c, map_n, app_c, app_n, rep_0, rep_s, Nat.reduceAdd, Nat.reduceSub]
      decreasing_trivial_pre_omega
      cases c : isTag a
      · rw [c] at h2; decreasing_trivial_pre_omega; exact h2
      · rw [c] at h2; decreasing_trivial_pre_omega; exact h2
  | _ => simp only [start0, len_c, len_n, map_c, map_n, app_c, app_n, rep_0, rep_s, Nat.reduceAdd, Nat.reduceSub]; decreasing_trivial_pre_omega; exact h2
abbrev sRoom : Stmt := top 20
theorem scRoom : FnScope ["thing", "levels", "room", "left", "kid"] ["thing", "levels", "room"] (defScope sRoom) := ⟨rfl, rfl, rfl, by decide +kernel, rfl, by decide +kernel, by decide +kernel⟩
theorem ok_room1 {f : Addr} {fd : FuncData} {n j : Nat} (F : Fun K "room_behind" "room_behind" sRoom f fd) (Uroom_behind : Use P w K mg base "room_behind" ["thing", "levels", "room"] (2 + n) (spD K 3 (tfRoom n))) (Uis_tag_and_kids : Use P w K mg base "is_tag_and_kids" ["thing"] j (spD K 1 (tfB tagKids))) (hj : j ≤ 2) (T : Bl mg) :
    FnOk P w K mg base CX0 (2 + n + 1) f fd ["thing", "levels", "room"] (spD K 3 (tfRoom (n + 1))) := by
  refine okD F scRoom rfl fun cdv A outer s H E hr => ?_
  refine ⟨_, _, (pss_cons (ps_if (PW.pt (pw_or (pt_cmpR op_eq (pv 1) pe_int (nomark _)) (pw_or (pt_cmpR op_eq (pv 2) pe_int (nomark _)) (pw_or1 (pt_not (pt_val (pe_call Uis_tag_and_kids.ok (hr.mono (by omega)) rfl Uis_tag_and_kids.m Uis_tag_and_kids.kp Uis_tag_and_kids.b .nil pass0 (pa_cons (pv 0) pa_nil)))))))) (pss_one (ps_ret pe_non)) pss_nil)
    (pss_cons (ps_set (i := 3) scRoom.nd rfl (.inl rfl) (pe_op op_sub (pv 2) pe_int))
    (pss_cons (ps_for PassesOwn.never rfl (pi_tup (pe_ix ix_tup (pv 0) pe_int (fun _ _ => rfl))) (pg_name (i := 4) scRoom.nd rfl (.inl rfl)) (pss_cons (ps_set (i := 3) scRoom.nd rfl (.inl rfl) (pe_call Uroom_behind.ok (hr.mono (by omega)) rfl Uroom_behind.m Uroom_behind.kp Uroom_behind.b .nil pass0 (pa_cons (pv 4) (pa_cons (pe_op op_sub (pv 1) pe_int) (pa_cons (pv 3) pa_nil)))))
      (pss_one (ps_if (pt_cmpR op_isN (pv 3) pe_non (nomark _)) (pss_one (ps_ret pe_non)) pss_nil))))
    (pss_one (ps_ret (pv 3)))))),
    (ss_cons (ss_if (st_or (st_test (se_op so_eqS se_nm se_int)) (st_or (st_test (se_op so_eqS se_nm se_int)) (st_not (st_val (se_call (sa_cons se_nm sa_nil)))))) (ss_ret se_non) ss_nil)
    (ss_cons (ss_set (se_op so_sub se_nm se_int))
    (ss_cons (ss_for (si_tup (se_op so_ixT se_nm se_int)) sg_name (ss_cons (ss_set (se_call (sa_cons se_nm (sa_cons (se_op so_sub se_nm se_int) (sa_cons se_nm sa_nil)))))
      (ss_if (st_test (se_op so_isN se_nm se_non)) (ss_ret se_non) ss_nil)))
    (ss_ret se_nm)))), fun ws M R RX hl h => ?_⟩
  obtain ⟨d, l, r, rfl, ht, hln, h2⟩ := h
  simp only [start0, len_c, len_n, map_c, map_n, app_c, app_n, rep_0, rep_s, Nat.reduceAdd, Nat.reduceSub]
  decreasing_trivial_pre_omega
  refine IfB.d (fun c => ?_) (fun c => ?_)
  · decreasing_trivial_pre_omega
    have e : l = 0 := by omega
    subst e
    exact h2
  obtain ⟨l, rfl⟩ : ∃ l', l = l' + 1 := ⟨l - 1, by omega⟩
  decreasing_trivial_pre_omega
  refine IfB.d (fun c2 => ?_) (fun c2 => ?_)
  · decreasing_trivial_pre_omega
    have e : r = 0 := by omega
    subst e
    exact h2
  obtain ⟨r, rfl⟩ : ∃ r', r = r' + 1 := ⟨r - 1, by omega⟩
  decreasing_trivial_pre_omega
  rw [roomB] at h2
  cases c3 : tagKids d with
  | false =>
    rw [c3] at h2
    decreasing_trivial_pre_omega
    exact h2
  | true =>
    rw [c3, if_pos rfl] at h2
    decreasing_trivial_pre_omega
    obtain ⟨a0, ks, rfl⟩ : ∃ a0 ks, d = .tuple [a0, .tuple ks] := by
      unfold tagKids at c3
      split at c3
      · rename_i a b
        cases b with
        | tuple ks => exact ⟨a, ks, rfl⟩
        | _ => simp [isTup] at c3
      · cases c3
    have ht2 : txtAll ks = true := by
      rw [txt, txtAll, txtAll, txt] at ht
      simp only [Bool.and_eq_true] at ht
      exact ht.2.1
    rw [kidsD] at h2
    decreasing_trivial_pre_omega
    refine for1 (fun i ρ M' => ∃ (m : Nat) (y : Option W), ρ = [some (.d (.tuple [a0, .tuple ks])), some (.d (.int ((l + 1 : Nat) : Int))), some (.d (.int ((r + 1 : Nat) : Int))), some (.d (.int (m : Int))), y] ∧ M' = M ∧ (ks.take i).foldl (fun o kd => o.bind (roomB l kd)) (some r) = some m)
      ⟨r, none, by show [some _, some _, some _, some (W.d (.int (((r + 1 : Nat) : Int) - 1))), none] = _; rw [show (((r + 1 : Nat) : Int) - 1) = (r : Int) by omega], rfl, rfl⟩ (fun _ _ _ _ _ => trivial) (fun i kd ρ M' N hk p hN => ?_) (fun ρ M' p => ?_)
    · obtain ⟨m, y, rfl, rfl, hm⟩ := p
      have hf : (ks.take (i + 1)).foldl (fun o kd => o.bind (roomB l kd)) (some r) = roomB l kd m := by
        rw [List.take_add_one, hk, List.foldl_append, hm]
        rfl
      decreasing_trivial_pre_omega
      refine ⟨kd, l, m, by show [W.d kd, W.d (.int (((l + 1 : Nat) : Int) - 1)), W.d (.int (m : Int))] = _; rw [show (((l + 1 : Nat) : Int) - 1) = (l : Int) by omega], txtAll_get ht2 hk, by omega, ?_⟩
      cases hr2 : roomB l kd m with
      | none =>
        rw [hr2] at hf
        decreasing_trivial_pre_omega
        have e : ks.foldl (fun o kd => o.bind (roomB l kd)) (some r) = none := by
          rw [← List.take_append_drop (i + 1) ks, List.foldl_append, hf]
          exact fold_none _ _
        rw [e] at h2
        exact h2
      | some m' =>
        decreasing_trivial_pre_omega
        exact hN _ _ ⟨m', _, rfl, rfl, by rw [hf]; exact hr2⟩
    · obtain ⟨m, y, rfl, rfl, hm⟩ := p
      rw [List.take_length] at hm
      rw [hm] at h2
      exact h2
theorem ok_room {f : Addr} {fd : FuncData} {j : Nat} (F : Fun K "room_behind" "room_behind" sRoom f fd) (mF : mg "room_behind" = some (.ref f)) (Uis_tag_and_kids : Use P w K mg base "is_tag_and_kids" ["thing"] j (spD K 1 (tfB tagKids))) (hj : j ≤ 2) (T : Bl mg) :
    ∀ n, FnOk P w K mg base CX0 (2 + n) f fd ["thing", "levels", "room"] (spD K 3 (tfRoom n))
  | 0 => no0 fun ws M R RX ⟨_, _, _, _, _, h, _⟩ => by omega
  | n + 1 => ok_room1 F ⟨f, fd, ok_room F mF Uis_tag_and_kids hj T n, mF, F.kp, F.binds (ps := ["thing", "levels", "room"]) fun _ _ _ _ _ _ us hl => match us, hl with | [_, _, _], _ => rfl⟩ Uis_tag_and_kids hj T
abbrev sIsTree : Stmt := top 19
theorem scTree : FnScope ["thing"] ["thing"] (defScope sIsTree) := ⟨rfl, rfl, rfl, by decide +kernel, rfl, by decide +kernel, by decide +kernel⟩
theorem ok_tree {f : Addr} {fd : FuncData} {k j : Nat} (F : Fun K "is_tree" "is_tree" sIsTree f fd) (Uroom_behind : Use P w K mg base "room_behind" ["thing", "levels", "room"] j (spD K 3 (tfRoom 13))) (hj : j ≤ k) (C : Cs mg) : FnOk P w K mg base CX0 (k + 1) f fd ["thing"] (spD K 1 (tfB isTreeD)) := by
  refine okD F scTree rfl fun cdv A outer s H E hr => ?_
  refine ⟨_, _, (pss_one (ps_ret (pe_cmpR op_notN (pe_call Uroom_behind.ok (hr.mono (by omega)) rfl Uroom_behind.m Uroom_behind.kp Uroom_behind.b .nil pass0 (pa_cons (pv 0) (pa_cons (c_DEPTH C) (pa_cons (c_SIZE C) pa_nil)))) pe_non (nomark _)))),
    (ss_ret (se_op so_notN (se_call (sa_cons se_nm (sa_cons se_int (sa_cons se_int sa_nil)))) se_non)), fun ws M R RX hl h => ?_⟩
  obtain ⟨x, rfl, h1⟩ := g1_of h
  obtain ⟨d, rfl, ht, h2⟩ := gD_of h1
  simp only [start0, len_c, len_n, map_c, map_n, app_c, app_n, rep_0, rep_s, Nat.reduceAdd, Nat.reduceSub]
  decreasing_trivial_pre_omega
  refine ⟨d, 12, 60, rfl, ht, by omega, ?_⟩
  unfold isTreeD at h2
  cases hr : roomB 12 d 60 <;> (rw [hr] at h2; decreasing_trivial_pre_omega; exact h2)
abbrev sChkTree : Stmt := top 22
theorem scChkTree : FnScope ["thing"] ["thing"] (defScope sChkTree) := ⟨rfl, rfl, rfl, by decide +kernel, rfl, by decide +kernel, by decide +kernel⟩
theorem ok_chkTree {f C : Addr} {fd : FuncData} {k j : Nat} (F : Fun K "check_tree" "check_tree" sChkTree f fd) (XNoTree : Er K mg "NoTree" C) (Uis_tree : Use P w K mg base "is_tree" ["thing"] j (spD K 1 (tfB isTreeD))) (hj : j ≤ k) :
    FnOk P w K mg base (L2.CX P w) (k + 1) f fd ["thing"] (spD K 1 (tfChk isTreeD C)) := by
  refine okDX F scChkTree rfl fun cdv A outer s H E hr => ?_
  refine ⟨_, fun RE => _, (pss_one (ps_if (pt_not (pt_val (PE.nox (pe_call Uis_tree.ok (hr.mono (by omega)) rfl Uis_tree.m Uis_tree.kp Uis_tree.b .nil pass0 (pa_cons (pv 0) pa_nil))))) (pss_one (ps_raise rfl (takes_of (E := E) rfl rfl rfl rfl) (pmk_own0 PySem.F.excBase_ValueError XNoTree.x XNoTree.g XNoTree.k (raises_own XNoTree.b XNoTree.t) (by exact rfl)))) pss_nil)), fun RE => (ss_if (st_not (st_val (se_call (sa_cons se_nm sa_nil)))) ss_raise0 ss_nil), fun ws M R RX hl h => ?_⟩
  obtain ⟨x, rfl, h1⟩ := g1_of h
  obtain ⟨d, rfl, ht, h2, h3⟩ := gD_of h1
  simp only [start0, len_c, len_n, map_c, map_n, app_c, app_n, rep_0, rep_s, Nat.reduceAdd, Nat.reduceSub]
  decreasing_trivial_pre_omega
  cases c : isTreeD d
  · decreasing_trivial_pre_omega
    exact h3 c
  · decreasing_trivial_pre_omega
    exact h2 c
end
end Tl
set_option Elab.async false
set_option linter.all false
set_option maxRecDepth 100000
set_option maxHeartbeats 4000000
/-! Tables by seven words, as the top leaves them. -/
set_option Elab.async false
set_option linter.all false
set_option maxRecDepth 100000
set_option maxHeartbeats 4000000
/-! Dicts that may change: made, stored into, looked up, walked. -/
namespace Tl
open PySem PySem.Spec PyProof.Rows L2
section
variable {K : PySem.W.Frag} {F H : Hp} {M : Mem}
section
variable {κ : Type} [DecidableEq κ]
theorem PrR.nil : PrR K F ([] : List (κ × V)) [] := ⟨rfl, .nil⟩
theorem PrR.cons {p : κ × V} {q : κ × W} {kv : List (κ × V)} {kw : List (κ × W)} (h1 : p.1 = q.1) (h2 : RW K F p.2 q.2) (h3 : PrR K F kv kw) : PrR K F (p :: kv) (q :: kw) :=
  ⟨by rw [List.map_cons, List.map_cons, h1, h3.1], .cons h2 h3.2⟩
theorem PrR.app {a c : List (κ × V)} {b d : List (κ × W)} (h : PrR K F a b) (g : PrR K F c d) : PrR K F (a ++ c) (b ++ d) :=
  ⟨by rw [List.map_append, List.map_append, h.1, g.1], by rw [List.map_append, List.map_append]; exact h.2.app g.2⟩
theorem PrR.got {kv : List (κ × V)} {kw : List (κ × W)} (h : PrR K F kv kw) {i : Nat} {q : κ × W} (e : kw[i]? = some q) : ∃ v, kv[i]? = some (q.1, v) ∧ RW K F v q.2 := by
  have hi : i < kw.length := (List.getElem?_eq_some_iff.mp e).1
  have h1 : (kv.map (·.1))[i]? = (kw.map (·.1))[i]? := by rw [h.1]
  rw [List.getElem?_map, List.getElem?_map, e] at h1
  obtain ⟨p, hp, e2⟩ := Option.map_eq_some_iff.mp h1
  obtain ⟨v, hv, r⟩ := h.2.got (i := i) (x := q.2) (by rw [List.getElem?_map, e]; rfl)
  rw [List.getElem?_map, hp] at hv
  cases hv
  exact ⟨p.2, by rw [hp]; exact congrArg some (Prod.ext e2 rfl), r⟩
end
theorem Rl.dK (h : Rl K F H M) {a : Addr} {kw : List (L2.Key × W)} (e : M a = some (.dK kw)) : ∃ kv, H a = some (.dK kv) ∧ PrR K F kv kw := by
  obtain ⟨_, h1, kv, rfl, h2⟩ := h.at_ a _ e
  exact ⟨kv, h1, h2⟩
theorem Rl.lkK (h : Rl K F H M) {a : Addr} {ob : Obj} {kv : List (L2.Key × V)} {kw : List (L2.Key × W)} (e : M a = some (.lkK ob kv kw)) : H a = some (.frz ob (.dK kv)) ∧ PrR K F kv kw := by
  obtain ⟨_, h1, rfl, h2⟩ := h.at_ a _ e
  exact ⟨h1, h2⟩
end
end Tl
set_option Elab.async false
set_option linter.all false
set_option maxRecDepth 100000
set_option maxHeartbeats 4000000
/-! Objects of own classes, as gen2 writes them: methods, makers, try .. finally, a suite that is never run. -/
namespace Tl
open PySem PySem.Spec PyProof.Rows L2
/-- a method that raises nothing -/
structure UseM (P : Program) (w : World) (K : PySem.W.Frag) (mg : Str → Option Value) (base : Heap) (C : Addr) (x : Str) (ps : List Str) (k : Nat) (sp : Sp) where
  f : Addr
  fd : FuncData
  ok : FnOk P w K mg base CX0 k f fd ps sp
  hm : L2.Meth K C x f
  b : Binds K fd ps []
/-- a method that may raise -/
structure UseMX (P : Program) (w : World) (K : PySem.W.Frag) (mg : Str → Option Value) (base : Heap) (C : Addr) (x : Str) (ps : List Str) (k : Nat) (sp : Sp) where
  f : Addr
  fd : FuncData
  ok : FnOk P w K mg base (L2.CX P w) k f fd ps sp
  hm : L2.Meth K C x f
  b : Binds K fd ps []
/-- a class that is called; its __init__ may raise -/
structure UseC (P : Program) (w : World) (K : PySem.W.Frag) (mg : Str → Option Value) (base : Heap) (C : Addr) (x : Str) (ps : List Str) (k : Nat) (sp : Sp) where
  f : Addr
  fd : FuncData
  ok : FnOk P w K mg base (L2.CX P w) k f fd ps sp
  made : L2.Mk K C f
  m : mg x = some (.ref C)
  b : Binds K fd ps []
section
variable {X : Cx} {CX : CXT} {k : Nat} {f C : Addr} {fd : FuncData} {ps : List Str} {sp : Sp} {E : L2.St → XK} {x m : Str} {p pos apos : Pos} {e o : Expr} {es : List Expr} {ta : TE} {t : TA}
theorem run_makeS {pins : List (Addr × Obj)} {σ : L2.St} {H : Hp} {s : Shared} {Q : VK} {us : List Value} {vs : List V} (M : L2.Mk X.K C f) (F : FnOk X.prog X.w X.K X.mg X.base CX k f fd ps sp) (hr : Room (k + 1) X.A) (hb : Binds X.K fd ps []) (hx : PassesAt CX X σ (E σ)) (I : Inv X pins σ H s) (r : Vals vs us)
    (h : ∀ x dx, H x = none → H dx = none → dx ≠ x → sp (.ref x :: vs) (upd (upd H dx (.own x)) x (.ins C dx [])) (fun v H2 => v = .non ∧ Q (.ref x) H2) (E σ)) :
    wpAny (model X.prog X.w) X.A (call (.ref C) us) (EP X pins σ Q) X.xe s := by
  have hq := h (s.heap.objs.size + 1) s.heap.objs.size (I.hok.fresh (Nat.le_succ _)) (I.hok.fresh (Nat.le_refl _)) (Nat.ne_of_lt (Nat.lt_succ_self _))
  have I2 := Inv.made (C := C) I
  have r2 : Vals (V.ref (s.heap.objs.size + 1) :: vs) (Value.ref (s.heap.objs.size + 1) :: us) := .cons rfl r
  have hl : (Value.ref (s.heap.objs.size + 1) :: us).length = ps.length := by rw [← r2.length]; exact F.len _ _ _ _ hq
  have bd := hb _ (Value.ref (s.heap.objs.size + 1) :: us) I2.kIn (by rw [List.append_nil]; exact hl)
  rw [List.append_nil] at bd
  refine wpAny_call (make_map (f := f) I.kIn M.makes M.init (beq_iff_eq.mp M.fn) (codeAny_mono (F.run _ X.stack _ _ ⟨Value.ref (s.heap.objs.size + 1) :: us, []⟩ (Value.ref (s.heap.objs.size + 1) :: us) _ _ (E σ) (hr.make C us []) (I2.env0.make C us []) bd r2 hq) fun r s' hq' => ?_))
  cases r with
  | error e => exact hx pins _ _ e s' I2 hq'
  | ok fl =>
    cases fl with
    | ret u =>
      obtain ⟨v, H', I3, rv, ev, q3⟩ := I2.after hq'
      subst ev
      exact ⟨rv, ⟨V.ref (s.heap.objs.size + 1), H', I3, rfl, q3⟩⟩
    | next => exact False.elim hq'
    | brk => exact False.elim hq'
    | cont => exact False.elim hq'
theorem pe_makeE (M : L2.Mk X.K C f) (F : FnOk X.prog X.w X.K X.mg X.base CX k f fd ps sp) (hr : Room (k + 1) X.A) (hg : Gl X x) (hm : X.mg x = some (.ref C)) (hb : Binds X.K fd ps []) (hx : ∀ σ, PassesAt CX X σ (E σ))
    (ha : PA X (e :: es) t) (hdb : (x == ("__debug__" : Str)) = false := by decide) (he : starEach (e :: es) X.env = (false, eval e X.env) :: starEach es X.env := by rfl) (hpl : (backTo pos (starEach es X.env)).any (·.1) = false := by rfl) :
    PE X (.Call (.Name x p) (e :: es) [] pos) (tMakeS C sp E t) := by
  refine ⟨fun pins s σ H Q I h => ?_⟩
  refine wpAny_Call_Name_kw (ld_glob I hg hm ?_ hdb)
  refine PySem.W.callWith_K (h₀ := X.base) I.ok.mod.kin M.kp (thn (ha.run pos pins s σ H _ I h) fun us s1 ⟨vs, H1, I1, r, q⟩ => ⟨I1.kIn, ?_⟩) he hpl
  exact run_makeS M F hr hb (hx σ) I1 r q
end
/-! ### try .. finally of a suite that raises nothing and goes on behind -/
/-! ### a def that errors may leave; what is left over in the memory is dropped both ways -/
def laxX (RX : Ex → Mem → Prop) : Ex → Mem → Prop := fun x M => ∃ M0, (∀ a o, M0 a = some o → M a = some o) ∧ RX x M0
section
variable {P : Program} {w : World} {K : PySem.W.Frag} {mg : Str → Option Value} {base : Heap}
theorem okDXLL {f : Addr} {fd : FuncData} {k n : Nat} {x qual : Str} {st : Stmt} {N ps : List Str} {tf : TF} (F : Fun K x qual st f fd) (S : FnScope N ps (defScope st)) (hp : ps.length = n)
    (hb : ∀ (cdv : Value) (A : Around) (outer : List Env) (s : Shared) (H : Hp) (E : XK), Room k (A.deeper (PyProof.Rows.envOfC qual (defScope st) s.heap.objs.size f cdv)) →
      ∃ (t : TS) (T : REx → TDS), PSs (cxOf (L2.CX P w) P w K mg base N qual (defScope st) f cdv A outer s H E) (defBody st) t ∧ (∀ RE, SSt K (fun cls d _ H => E cls d H) RE t (T RE)) ∧
        ∀ ws M R RX, ws.length = n → tf ws M R RX → T (fun x _ M => laxX RX x M) (endD (lax R)) (start0 N.length ws) M) : FnOk P w K mg base (L2.CX P w) (k + 1) f fd ps (spD K n tf) := by
  refine F.okX S (fun vs H Q E h => ?_) (fun cdv A outer s H vs Q E hr h => ?_)
  · obtain ⟨F0, M, ws, R, RX, r, rs, hl, _⟩ := h
    rw [rs.len, hl, hp]
  · obtain ⟨F0, M, ws, R, RX, r, rs, hl, hf, hk, hx⟩ := h
    obtain ⟨t, T, h1, h2, h3⟩ := hb cdv A outer s H E hr
    refine ⟨t, h1, h2 (fun x _ M => laxX RX x M) F0 H M _ _ _ _ r (fun F' H' M' σ ρ cls d x g r' _ xr ⟨M0, e, z⟩ => hx cls d H' F' M0 x (r'.less e) ⟨g.ff, fun b u h1 h2 => ⟨(g.un b u h1 h2).1, none_less e (g.un b u h1 h2).2⟩, g.nf⟩ xr z) (rel_start rs) (h3 ws M R RX hl hf) (ek_def (kt_lax hk))⟩
end
theorem c_str {X : Cx} {x : Str} {z : Str} (C : ∃ t, X.mg x = some (.str z t)) {p : Pos} (hg : Gl X x := by rfl) (hd : (x == ("__debug__" : Str)) = false := by decide) : PE X (.Name x p) (tC (.str z)) := by
  obtain ⟨t, e⟩ := C
  exact pe_glob hg e ⟨t, rfl⟩ hd
/-! ### a statement that is never reached -/
section
variable {K : PySem.W.Frag} {Wx : WX} {RE : REx}
/-- s.index(t), texts -/
def occ1 (a b : Str) : Option Nat := (Builtin.Str.occurrences a b 0 a.length 1).head?
@[reducible] def sidxT (T : TDE) (U : TDA) : TDE := fun ρ M R => T ρ M fun x M1 => gS x fun a => U ρ M1 fun xs M2 => g1 xs fun y => gS y fun b => gO (occ1 a b) fun i => R (.d (.int (i : Nat))) M2
theorem se_sidx {n : Nat} {to : TE} {T : TDE} {t : TA} {U : TDA} (h : SE K Wx RE to T) (g : SAn K Wx RE n t U) : SE K Wx RE (tBM K "str" (fun x xs H Q => ∃ a b i rest, x = .str a ∧ xs = [.str b] ∧ Builtin.Str.occurrences a b 0 a.length 1 = i :: rest ∧ Q (.int (i : Nat)) H) to t) (sidxT T U) := fun F H M σ ρ R Q hr hx hs ht k =>
  h F H M σ ρ _ _ hr hx hs ht fun v H1 F1 M1 x r1 g1 rx q1 => by
    obtain ⟨a, rfl, q2⟩ := gS_of q1
    refine ⟨?_, g F1 H1 M1 σ ρ _ _ r1 (hx.mono g1) (hs.mono g1.ff) q2 fun us H2 F2 M2 xs r2 g2 rxs hl q3 => ?_⟩
    · rw [rx.str]
      exact rfl
    · obtain ⟨y, rfl, q4⟩ := g1_of q3
      obtain ⟨u, rfl, ru⟩ := rxs.one
      obtain ⟨b, rfl, q5⟩ := gS_of q4
      obtain ⟨i, e, q6⟩ := gO_of q5
      unfold occ1 at e
      cases c : Builtin.Str.occurrences a b 0 a.length 1 with
      | nil => rw [c] at e; cases e
      | cons j rest =>
        rw [c] at e
        cases e
        rw [rx.str, ru.str]
        exact ⟨a, b, i, rest, rfl, rfl, c, k _ H2 F2 M2 _ r2 (g1.trans g2) (.d (.int _)) q6⟩
/-- x op= e -/
@[reducible] def augO (g : F2) (i : Nat) (T : TDE) : TDS := fun D ρ M => match slot ρ i with | some x => T ρ M fun y M1 => g x y M1 fun z M2 => D.nx (put ρ i (some z)) M2 | none => False
theorem ss_augO {rd : R2} {g : F2} {i : Nat} {t : TE} {T : TDE} (hg : SO K rd g) (h : SE K Wx RE t T) : SSt K Wx RE (tAug i t rd) (augO g i T) := fun F H M σ ρ D E hr hx hs ht k => by
  unfold augO at ht
  cases c : slot ρ i with
  | none => rw [c] at ht; exact ht.elim
  | some x =>
    rw [c] at ht
    obtain ⟨v, hv, rx⟩ := hs.at_ i x c
    refine ⟨v, hv, h F H M σ ρ _ _ hr hx hs ht fun u H1 F1 M1 y r1 g1 ry q1 => ?_⟩
    exact hg F1 H1 M1 v u x y _ _ r1 (rx.mono g1.ff) ry q1 fun z H2 F2 M2 zw r2 g2 rz q2 => k.nx _ _ _ _ _ r2 (g1.trans g2) ((hs.mono (g1.trans g2).ff).set rz i) q2
end
end Tl
set_option Elab.async false
set_option linter.all false
set_option maxRecDepth 100000
set_option maxHeartbeats 4000000
/-! Deeds on trees that are data; trees of lists that may change. -/
namespace Tl
open PySem L2
/-! ### trees that are data -/
def kidD (d : PyData) (n : Nat) : PyData := (kidsD d).getD n .none
/-- a run of kids for many kids -/
def runD (at_ many : Nat) (run : List PyData) : PyData → PyData
  | .tuple [s, .tuple ks] => .tuple [s, .tuple (ks.take at_ ++ run ++ ks.drop (at_ + many))]
  | d => d
/-- another part at a place -/
def repl : List Nat → PyData → PyData → PyData
  | [], _, e => e
  | n :: q, d, e => runD n 1 [repl q (kidD d n) e] d
def partD (d : PyData) (q : List Nat) : PyData := (sub d q).getD .none
def runAt (d : PyData) (q : List Nat) (at_ many : Nat) (run : List PyData) : PyData := repl q d (runD at_ many run (partD d q))
/-- where a place stands behind a part taken out -/
def bo : List Nat → List Nat → List Nat
  | o, [] => o
  | [], _ => []
  | j :: o, [i] => if i < j then (j - 1) :: o else j :: o
  | j :: o, i :: k :: p => if j = i then j :: bo o (k :: p) else j :: o
/-- deeds -/
inductive Deed where
  | name (q : List Nat) (t : Str)
  | put (q : List Nat) (n : Nat) (e : PyData)
  | out (q : List Nat)
  | move (q o : List Nat) (n : Nat)
  | swap (q o : List Nat)
  | wrap (q : List Nat) (n m : Nat) (t : Str)
  | unwrap (q : List Nat)
def Deed.d : Deed → PyData
  | .name q t => .tuple [.str "name", pathD q, .str t]
  | .put q n e => .tuple [.str "put", pathD q, .int n, e]
  | .out q => .tuple [.str "out", pathD q]
  | .move q o n => .tuple [.str "move", pathD q, pathD o, .int n]
  | .swap q o => .tuple [.str "swap", pathD q, pathD o]
  | .wrap q n m t => .tuple [.str "wrap", pathD q, .int n, .int m, .str t]
  | .unwrap q => .tuple [.str "unwrap", pathD q]
def outD (d : PyData) (q : List Nat) : PyData := runAt d q.dropLast (q.getLastD 0) 1 []
/-- the tree behind a deed -/
def chg (d : PyData) : Deed → PyData
  | .name q t => repl q d (.tuple [.str t, .tuple (kidsD (partD d q))])
  | .put q n e => runAt d q n 0 [e]
  | .out q => outD d q
  | .move q o n => runAt (outD d q) (bo o q) n 0 [partD d q]
  | .swap q o => repl o (repl q d (partD d o)) (partD d q)
  | .wrap q n m t => runAt d q n m [.tuple [.str t, .tuple (((kidsD (partD d q)).drop n).take m)]]
  | .unwrap q => runAt d q.dropLast (q.getLastD 0) 1 (kidsD (partD d q))
theorem runD_node (s : PyData) (ks run : List PyData) (n m : Nat) : runD n m run (.tuple [s, .tuple ks]) = .tuple [s, .tuple (ks.take n ++ run ++ ks.drop (n + m))] := rfl
theorem kidsD_node (s : PyData) (ks : List PyData) : kidsD (.tuple [s, .tuple ks]) = ks := rfl
theorem partD_of {d e : PyData} {q : List Nat} (h : sub d q = some e) : partD d q = e := by rw [partD, h]; rfl
/-! ### trees of lists that may change -/
/-- a: the list of number, tag and kids; b: the list of kids -/
inductive AT where
  | node (a b : Addr) (n : Int) (t : PyData) (ks : List AT)
def AT.root : AT → Addr
  | .node a _ _ _ _ => a
def AT.box : AT → Addr
  | .node _ b _ _ _ => b
def AT.kids : AT → List AT
  | .node _ _ _ _ ks => ks
def AT.num : AT → Int
  | .node _ _ n _ _ => n
def AT.tag : AT → PyData
  | .node _ _ _ t _ => t
mutual
/-- told as data, by a word for each place -/
def AT.tel (fl : Int → PyData → PyData) : AT → PyData
  | .node _ _ n t ks => .tuple [fl n t, .tuple (tels fl ks)]
def tels (fl : Int → PyData → PyData) : List AT → List PyData
  | [] => []
  | k :: ks => k.tel fl :: tels fl ks
end
variable {fl : Int → PyData → PyData}
mutual
def AT.adr : AT → List Addr
  | .node a b _ _ ks => a :: b :: adrs ks
def adrs : List AT → List Addr
  | [] => []
  | k :: ks => k.adr ++ adrs ks
end
def rootsW (ks : List AT) : List W := ks.map fun k => .r k.root
mutual
def AT.ok (M : Mem) : AT → Prop
  | .node a b n t ks => M a = some (.lst [.d (.int n), .d t, .r b]) ∧ M b = some (.lst (rootsW ks)) ∧ oks M ks
def oks (M : Mem) : List AT → Prop
  | [] => True
  | k :: ks => k.ok M ∧ oks M ks
end
theorem tels_map : ∀ ks : List AT, tels fl ks = ks.map (AT.tel fl)
  | [] => by rw [tels]; rfl
  | k :: ks => by rw [tels, tels_map ks]; rfl
theorem still_node (a b : Addr) (n : Int) (t : PyData) (ks : List AT) : (AT.node a b n t ks).tel fl = .tuple [fl n t, .tuple (ks.map (AT.tel fl))] := by rw [AT.tel, tels_map]
theorem adrs_app : ∀ a b : List AT, adrs (a ++ b) = adrs a ++ adrs b
  | [], b => by rw [adrs]; rfl
  | k :: a, b => by rw [List.cons_append, adrs, adrs, adrs_app a b, List.append_assoc]
theorem adrs_mem : ∀ {ks : List AT} {k : AT} {x : Addr}, k ∈ ks → x ∈ k.adr → x ∈ adrs ks
  | k' :: ks, k, x, h, hx => by
    rw [adrs, List.mem_append]
    rcases List.mem_cons.mp h with rfl | h
    · exact .inl hx
    · exact .inr (adrs_mem h hx)
theorem oks_iff {M : Mem} : ∀ {ks : List AT}, oks M ks ↔ ∀ k ∈ ks, k.ok M
  | [] => by rw [oks]; exact ⟨fun _ k h => (by cases h), fun _ => trivial⟩
  | k :: ks => by
    rw [oks, oks_iff (ks := ks)]
    exact ⟨fun h z hz => by
      rcases List.mem_cons.mp hz with rfl | hz
      · exact h.1
      · exact h.2 z hz, fun h => ⟨h k (.head _), fun z hz => h z (.tail _ hz)⟩⟩
mutual
theorem AT.ok.same {M M' : Mem} : ∀ {T : AT}, T.ok M → (∀ x ∈ T.adr, M' x = M x) → T.ok M'
  | .node a b n t ks, h, e => by
    rw [AT.ok] at h ⊢
    rw [AT.adr] at e
    exact ⟨by rw [e a (.head _)]; exact h.1, by rw [e b (.tail _ (.head _))]; exact h.2.1, oks_same h.2.2 fun x hx => e x (.tail _ (.tail _ hx))⟩
theorem oks_same {M M' : Mem} : ∀ {ks : List AT}, oks M ks → (∀ x ∈ adrs ks, M' x = M x) → oks M' ks
  | [], _, _ => by rw [oks]; trivial
  | k :: ks, h, e => by
    rw [oks] at h ⊢
    rw [adrs] at e
    exact ⟨AT.ok.same h.1 fun x hx => e x (List.mem_append.mpr (.inl hx)), oks_same h.2 fun x hx => e x (List.mem_append.mpr (.inr hx))⟩
end
/-- the tree at a place -/
def AT.at_ : List Nat → AT → Option AT
  | [], T => some T
  | i :: q, T => match T.kids[i]? with
    | some k => k.at_ q
    | none => none
def AT.withKids (T : AT) (ks : List AT) : AT := .node T.root T.box T.num T.tag ks
/-- another tree at a place -/
def AT.put : List Nat → AT → AT → AT
  | [], _, s => s
  | i :: q, T, s => match T.kids[i]? with
    | some k => T.withKids (T.kids.take i ++ [k.put q s] ++ T.kids.drop (i + 1))
    | none => T
/-- what a tree is made of, but for what stands at a place -/
def AT.ctx : List Nat → AT → List Addr
  | [], _ => []
  | i :: q, T => T.root :: T.box :: (match T.kids[i]? with
    | some k => adrs (T.kids.take i) ++ k.ctx q ++ adrs (T.kids.drop (i + 1))
    | none => [])
theorem at_nil (T : AT) : T.at_ [] = some T := by rw [AT.at_]
theorem at_cons {i : Nat} {q : List Nat} {T s : AT} : T.at_ (i :: q) = some s ↔ ∃ k, T.kids[i]? = some k ∧ k.at_ q = some s := by
  rw [AT.at_]
  cases c : T.kids[i]? with
  | none => exact ⟨fun h => (by cases h), fun ⟨k, h, _⟩ => (by cases h)⟩
  | some k => exact ⟨fun h => ⟨k, rfl, h⟩, fun ⟨z, h, q⟩ => (by cases h; exact q)⟩
theorem split3 {α : Type} {l : List α} {i : Nat} {x : α} (h : l[i]? = some x) : l = l.take i ++ [x] ++ l.drop (i + 1) := by
  have hi : i < l.length := (List.getElem?_eq_some_iff.mp h).1
  have e : l[i] = x := (List.getElem?_eq_some_iff.mp h).2
  rw [List.append_assoc, ← e, List.singleton_append, ← List.drop_eq_getElem_cons hi, List.take_append_drop]
theorem still_eta (T : AT) : T.tel fl = .tuple [fl T.num T.tag, .tuple (T.kids.map (AT.tel fl))] := by
  cases T
  exact still_node ..
theorem adr_eta (T : AT) : T.adr = T.root :: T.box :: adrs T.kids := by
  cases T
  rw [AT.adr]
  rfl
theorem ok_eta {M : Mem} {T : AT} : T.ok M ↔ M T.root = some (.lst [.d (.int T.num), .d T.tag, .r T.box]) ∧ M T.box = some (.lst (rootsW T.kids)) ∧ oks M T.kids := by
  cases T
  rw [AT.ok]
  rfl
theorem sub_still : ∀ {q : List Nat} {T : AT}, sub (T.tel fl) q = (T.at_ q).map (AT.tel fl)
  | [], T => by rw [sub_nil, at_nil]; rfl
  | i :: q, T => by
    rw [still_eta, sub_node, AT.at_, List.getElem?_map]
    cases c : T.kids[i]? with
    | none => rfl
    | some k => exact sub_still
theorem still_put : ∀ {q : List Nat} {T s u : AT}, T.at_ q = some u → (T.put q s).tel fl = repl q (T.tel fl) (s.tel fl)
  | [], T, s, u, _ => by rw [AT.put, repl]
  | i :: q, T, s, u, h => by
    obtain ⟨k, h1, h2⟩ := at_cons.mp h
    have hk : kidD (T.tel fl) i = k.tel fl := by rw [still_eta, kidD, kidsD_node, List.getD_eq_getElem?_getD, List.getElem?_map, h1]; rfl
    rw [AT.put, h1, repl, hk, ← still_put h2]
    conv => rhs; rw [still_eta T]
    show (T.withKids _).tel fl = _
    rw [runD_node, AT.withKids, still_node, List.map_append, List.map_append, List.map_take, List.map_drop]
    rfl
theorem adr_ctx : ∀ {q : List Nat} {T s : AT}, T.at_ q = some s → T.adr.Perm (T.ctx q ++ s.adr)
  | [], T, s, h => by rw [at_nil] at h; cases h; rw [AT.ctx]; exact .refl _
  | i :: q, T, s, h => by
    obtain ⟨k, h1, h2⟩ := at_cons.mp h
    rw [AT.ctx, h1, adr_eta]
    show (T.root :: T.box :: adrs T.kids).Perm (T.root :: T.box :: (adrs (T.kids.take i) ++ k.ctx q ++ adrs (T.kids.drop (i + 1)) ++ s.adr))
    refine .cons _ (.cons _ ?_)
    conv => lhs; rw [split3 h1, adrs_app, adrs_app, adrs, adrs, List.append_nil]
    rw [List.append_assoc, List.append_assoc, List.append_assoc]
    refine List.Perm.append_left _ ?_
    refine ((adr_ctx h2).append_right _).trans ?_
    rw [List.append_assoc]
    exact List.Perm.append_left _ List.perm_append_comm
theorem put_at : ∀ {q : List Nat} {T s u : AT}, T.at_ q = some u → (T.put q s).at_ q = some s
  | [], T, s, u, _ => by rw [AT.put, at_nil]
  | i :: q, T, s, u, h => by
    obtain ⟨k, h1, h2⟩ := at_cons.mp h
    have hi : i < T.kids.length := (List.getElem?_eq_some_iff.mp h1).1
    rw [AT.put, h1]
    refine at_cons.mpr ⟨k.put q s, ?_, put_at h2⟩
    show (T.kids.take i ++ [k.put q s] ++ T.kids.drop (i + 1))[i]? = _
    rw [List.append_assoc, List.getElem?_append_right (by rw [List.length_take]; omega), List.length_take, Nat.min_eq_left (by omega), Nat.sub_self]
    rfl
theorem put_ctx : ∀ {q : List Nat} {T s u : AT}, T.at_ q = some u → (T.put q s).ctx q = T.ctx q
  | [], T, s, u, _ => by rw [AT.ctx, AT.ctx]
  | i :: q, T, s, u, h => by
    obtain ⟨k, h1, h2⟩ := at_cons.mp h
    have hi : i < T.kids.length := (List.getElem?_eq_some_iff.mp h1).1
    have hl : (T.kids.take i).length = i := by rw [List.length_take]; omega
    have e : (T.kids.take i ++ [k.put q s] ++ T.kids.drop (i + 1))[i]? = some (k.put q s) := by
      rw [List.append_assoc, List.getElem?_append_right (by omega), hl, Nat.sub_self]
      rfl
    have e1 : (T.kids.take i ++ [k.put q s] ++ T.kids.drop (i + 1)).take i = T.kids.take i := by
      rw [List.append_assoc, List.take_append_of_le_length (by omega), List.take_of_length_le (by omega)]
    have e2 : (T.kids.take i ++ [k.put q s] ++ T.kids.drop (i + 1)).drop (i + 1) = T.kids.drop (i + 1) := by
      rw [List.drop_append_of_le_length (by rw [List.length_append, hl]; exact Nat.le_refl _), List.drop_of_length_le (by rw [List.length_append, hl]; exact Nat.le_refl _)]
      rfl
    rw [AT.put, h1]
    show (T.withKids _).ctx (i :: q) = _
    rw [AT.ctx, AT.ctx, h1, show ∀ ks, (T.withKids ks).kids = ks from fun _ => rfl, e, e1, e2]
    show _ :: _ :: (_ ++ (k.put q s).ctx q ++ _) = _
    rw [put_ctx h2]
    rfl
theorem adr_put {q : List Nat} {T s u : AT} (h : T.at_ q = some u) : (T.put q s).adr.Perm (T.ctx q ++ s.adr) := by
  have := adr_ctx (put_at (s := s) h)
  rw [put_ctx h] at this
  exact this
theorem put_root : ∀ {q : List Nat} {T s u : AT}, T.at_ q = some u → s.root = u.root → (T.put q s).root = T.root
  | [], T, s, u, h, e => by rw [at_nil] at h; cases h; rw [AT.put]; exact e
  | i :: q, T, s, u, h, _ => by
    obtain ⟨k, h1, h2⟩ := at_cons.mp h
    rw [AT.put, h1]
    rfl
theorem at_ok {M : Mem} : ∀ {q : List Nat} {T s : AT}, T.ok M → T.at_ q = some s → s.ok M
  | [], T, s, h, e => by rw [at_nil] at e; cases e; exact h
  | i :: q, T, s, h, e => by
    obtain ⟨k, h1, h2⟩ := at_cons.mp e
    exact at_ok (oks_iff.mp (ok_eta.mp h).2.2 k (List.mem_of_getElem? h1)) h2
/-- a part changes in place -/
theorem put_ok {M M' : Mem} : ∀ {q : List Nat} {T s u : AT}, T.ok M → T.at_ q = some u → s.root = u.root → s.ok M' → (∀ x ∈ T.ctx q, M' x = M x) → (T.put q s).ok M'
  | [], T, s, u, _, _, _, hs, _ => by rw [AT.put]; exact hs
  | i :: q, T, s, u, h, e, er, hs, hc => by
    obtain ⟨k, h1, h2⟩ := at_cons.mp e
    obtain ⟨o1, o2, o3⟩ := ok_eta.mp h
    rw [AT.ctx, h1] at hc
    have hc2 : ∀ x, x ∈ adrs (T.kids.take i) ∨ x ∈ k.ctx q ∨ x ∈ adrs (T.kids.drop (i + 1)) → M' x = M x := fun x hx => hc x (.tail _ (.tail _ (by
      show x ∈ adrs (T.kids.take i) ++ k.ctx q ++ adrs (T.kids.drop (i + 1))
      rw [List.mem_append, List.mem_append]
      rcases hx with hx | hx | hx
      · exact .inl (.inl hx)
      · exact .inl (.inr hx)
      · exact .inr hx)))
    rw [AT.put, h1]
    refine ok_eta.mpr ⟨?_, ?_, oks_iff.mpr fun z hz => ?_⟩
    · show M' T.root = some (.lst [.d (.int T.num), .d T.tag, .r T.box])
      rw [hc _ (.head _)]
      exact o1
    · show M' T.box = some (.lst (rootsW (T.kids.take i ++ [k.put q s] ++ T.kids.drop (i + 1))))
      rw [hc _ (.tail _ (.head _)), o2]
      have : rootsW (T.kids.take i ++ [k.put q s] ++ T.kids.drop (i + 1)) = rootsW T.kids := by
        conv => rhs; rw [split3 h1]
        unfold rootsW
        rw [List.map_append, List.map_append, List.map_append, List.map_append, List.map_singleton, List.map_singleton, put_root h2 er]
      rw [this]
    · have hz' : z ∈ T.kids.take i ++ [k.put q s] ++ T.kids.drop (i + 1) := hz
      rw [List.mem_append, List.mem_append, List.mem_singleton] at hz'
      rcases hz' with (hz | rfl) | hz
      · exact (oks_iff.mp o3 z (List.mem_of_mem_take hz)).same fun x hx => hc2 x (.inl (adrs_mem hz hx))
      · exact put_ok (oks_iff.mp o3 k (List.mem_of_getElem? h1)) h2 er hs fun x hx => hc2 x (.inr (.inl hx))
      · exact (oks_iff.mp o3 z (List.mem_of_mem_drop hz)).same fun x hx => hc2 x (.inr (.inr (adrs_mem hz hx)))
/-- told by its tags -/
@[reducible] def tgF : Int → PyData → PyData := fun _ t => t
end Tl
set_option Elab.async false
set_option linter.all false
set_option maxRecDepth 100000
set_option maxHeartbeats 4000000
/-! Trees of lists that may change: changed in place. -/
namespace Tl
open PySem L2
theorem one_box {T u : AT} {q : List Nat} (hc : T.adr.count u.box ≤ 1) (h : T.at_ q = some u) : u.box ∉ T.ctx q ∧ u.root ≠ u.box ∧ u.box ∉ adrs u.kids := by
  have e := (adr_ctx h).count_eq u.box
  rw [List.count_append, adr_eta u, List.count_cons, List.count_cons_self] at e
  refine ⟨fun z => ?_, fun z => ?_, fun z => ?_⟩
  · have := List.count_pos_iff.mpr z
    omega
  · rw [z, beq_self_eq_true, if_pos rfl] at e
    omega
  · have := List.count_pos_iff.mpr z
    omega
theorem one_root {T u : AT} {q : List Nat} (hc : T.adr.count u.root ≤ 1) (h : T.at_ q = some u) : u.root ∉ T.ctx q ∧ u.root ≠ u.box ∧ u.root ∉ adrs u.kids := by
  have e := (adr_ctx h).count_eq u.root
  rw [List.count_append, adr_eta u, List.count_cons_self, List.count_cons] at e
  refine ⟨fun z => ?_, fun z => ?_, fun z => ?_⟩
  · have := List.count_pos_iff.mpr z
    omega
  · have y : (u.box == u.root) = true := by rw [z]; exact beq_self_eq_true _
    rw [if_pos y] at e
    omega
  · have := List.count_pos_iff.mpr z
    omega
theorem nd_one {T : AT} (h : T.adr.Nodup) (a : Addr) : T.adr.count a ≤ 1 := List.nodup_iff_count.mp h a
theorem setKids_ok {M : Mem} {T u : AT} {q : List Nat} {ks : List AT} (h : T.ok M) (e : T.at_ q = some u) (hc : T.adr.count u.box ≤ 1) (hk : oks M ks) (hb : u.box ∉ adrs ks) : (T.put q (u.withKids ks)).ok (mset M u.box (.lst (rootsW ks))) := by
  obtain ⟨h1, h2, h3⟩ := one_box hc e
  have hu := ok_eta.mp (at_ok h e)
  refine put_ok h e rfl (ok_eta.mpr ⟨?_, ?_, ?_⟩) fun x hx => mset_ne fun z => h1 (z ▸ hx)
  · show mset M u.box _ u.root = _
    rw [mset_ne h2]
    exact hu.1
  · exact mset_same
  · exact oks_same hk fun x hx => mset_ne fun z => hb (z ▸ hx)
theorem setTag_ok {M : Mem} {T u : AT} {q : List Nat} {t : PyData} (h : T.ok M) (e : T.at_ q = some u) (hc : T.adr.count u.root ≤ 1) : (T.put q (.node u.root u.box u.num t u.kids)).ok (mset M u.root (.lst [.d (.int u.num), .d t, .r u.box])) := by
  obtain ⟨h1, h2, h3⟩ := one_root hc e
  have hu := ok_eta.mp (at_ok h e)
  refine put_ok h e rfl (ok_eta.mpr ⟨?_, ?_, ?_⟩) fun x hx => mset_ne fun z => h1 (z ▸ hx)
  · exact mset_same
  · show mset M u.root _ u.box = _
    rw [mset_ne h2.symm]
    exact hu.2.1
  · exact oks_same hu.2.2 fun x hx => mset_ne fun z => h3 (z ▸ hx)
/-- alike but for the kids -/
structure Alk (a b : AT) : Prop where
  r : a.root = b.root
  x : a.box = b.box
  n : a.num = b.num
  t : a.tag = b.tag
theorem Alk.refl (a : AT) : Alk a a := ⟨rfl, rfl, rfl, rfl⟩
end Tl
set_option Elab.async false
set_option linter.all false
set_option maxRecDepth 100000
set_option maxHeartbeats 4000000
/-! Trees of lists that may change: parts moved and swapped in place. -/
set_option Elab.async false
set_option linter.all false
set_option maxRecDepth 100000
set_option maxHeartbeats 4000000
/-! Paths as data; what a deed needs; what refuses it. -/
namespace Tl
open PySem L2
theorem eqv_ints : ∀ a b : List Nat, PyData.eqvAll (a.map fun n : Nat => .int (n : Int)) (b.map fun n : Nat => .int (n : Int)) = decide (a = b)
  | [], [] => rfl
  | [], _ :: _ => rfl
  | _ :: _, [] => rfl
  | x :: a, y :: b => by
    rw [List.map_cons, List.map_cons, PyData.eqvAll, eqv_ints a b]
    show (((x : Int) == (y : Int)) && _) = _
    by_cases h : x = y
    · subst h
      by_cases g : a = b
      · subst g; simp
      · rw [decide_eq_false g, Bool.and_false, decide_eq_false fun z => g (List.cons.inj z).2]
    · have : ((x : Int) == (y : Int)) = false := beq_eq_false_iff_ne.mpr fun z => h (Int.ofNat.inj z)
      rw [this, Bool.false_and, decide_eq_false fun z => h (List.cons.inj z).1]
theorem eqv_path (a b : List Nat) : PyData.eqv (pathD a) (pathD b) = decide (a = b) := by
  unfold pathD
  rw [PyData.eqv, eqv_ints]
theorem ints_ok : ∀ a : List Nat, PyData.hasDictAll (a.map fun n : Nat => .int (n : Int)) = false ∧ PyData.canLayAll0 (a.map fun n : Nat => .int (n : Int)) = true ∧ PyData.depthAll (a.map fun n : Nat => .int (n : Int)) = 0
  | [] => ⟨rfl, rfl, rfl⟩
  | x :: a => by
    obtain ⟨h1, h2, h3⟩ := ints_ok a
    rw [List.map_cons, PyData.hasDictAll, PyData.canLayAll0, PyData.depthAll, h1, h2, h3]
    exact ⟨rfl, rfl, rfl⟩
theorem eqOk_path (a : List Nat) : eqOk (pathD a) = true := by
  obtain ⟨h1, h2, h3⟩ := ints_ok a
  unfold eqOk SeqAt.shaped pathD
  rw [PyData.hasDict, PyData.canLay0, PyData.depth, h1, h2, h3]
  decide
theorem eqOk_paths (as : List (List Nat)) : eqOk (.list (as.map pathD)) = true := by
  have : ∀ as : List (List Nat), PyData.hasDictAll (as.map pathD) = false ∧ PyData.canLayAll0 (as.map pathD) = true ∧ PyData.depthAll (as.map pathD) ≤ 1 := fun as => by
    induction as with
    | nil => exact ⟨rfl, rfl, by decide⟩
    | cons a as ih =>
      obtain ⟨h1, h2, h3⟩ := ih
      obtain ⟨g1, g2, g3⟩ := ints_ok a
      have e1 : (pathD a).hasDict = false := by unfold pathD; rw [PyData.hasDict, g1]
      have e2 : (pathD a).canLay0 = true := by unfold pathD; rw [PyData.canLay0, g2]
      have e3 : (pathD a).depth = 1 := by unfold pathD; rw [PyData.depth, g3]
      rw [List.map_cons, PyData.hasDictAll, PyData.canLayAll0, PyData.depthAll, h1, h2, e1, e2, e3]
      exact ⟨rfl, rfl, by omega⟩
  obtain ⟨h1, h2, h3⟩ := this as
  unfold eqOk SeqAt.shaped
  rw [PyData.hasDict, PyData.canLay0, PyData.depth, h1, h2, decide_eq_true (by omega)]
  rfl
/-- t is the beginning of p -/
def pre (t p : List Nat) : Bool := decide (p.take t.length = t)
/-! ### what a deed is made of -/
def pathOk (q : List Nat) : Prop := q.length < 12 ∧ ∀ i ∈ q, i ≤ 59
def Deed.root : Deed → Bool
  | .out q => q.isEmpty
  | .unwrap q => q.isEmpty
  | .move q _ _ => q.isEmpty
  | .swap q o => q.isEmpty || o.isEmpty
  | _ => false
theorem sub_len : ∀ {q : List Nat} {n : Nat} {d e : PyData}, TrT n d → sub d q = some e → q.length < n := fun h e => (sub_tr h e).2.1
theorem isPath_ok {q : List Nat} (h : pathOk q) : isPath (pathD q) = true := by
  unfold pathD
  rw [isPath, List.length_map, decide_eq_true h.1, Bool.true_and, List.all_eq_true]
  intro x hx
  obtain ⟨i, hi, rfl⟩ := List.mem_map.mp hx
  have := h.2 i hi
  rw [isNum, decide_eq_true (by omega), decide_eq_true (by omega)]
  rfl
theorem path_txt (q : List Nat) : txt (pathD q) = true := by
  unfold pathD
  rw [txt]
  induction q with
  | nil => rfl
  | cons i q ih => rw [List.map_cons, txtAll, ih]; rfl
end Tl
set_option Elab.async false
set_option linter.all false
set_option maxRecDepth 100000
set_option maxHeartbeats 4000000
/-! Trees behind deeds: their levels, places. -/
namespace Tl
open PySem L2
theorem node_at {n : Nat} {d e : PyData} {q : List Nat} (h : TrT n d) (hs : sub d q = some e) : ∃ (s : Str) (ks : List PyData), e = .tuple [.str s, .tuple ks] ∧ q.length < n ∧ 1 + nnAll ks ≤ nn d ∧ (∀ k ∈ ks, TrT (n - q.length - 1) k) ∧ isTag (.str s) = true := by
  obtain ⟨h1, h2, h3⟩ := sub_tr h hs
  obtain ⟨k, hk⟩ : ∃ k, n - q.length = k + 1 := ⟨n - q.length - 1, by omega⟩
  rw [hk] at h1
  obtain ⟨s, ks, rfl, a, b⟩ := h1
  rw [nn] at h3
  exact ⟨s, ks, rfl, h2, h3, fun z hz => by rw [hk]; exact b z hz, a⟩
end Tl
set_option Elab.async false
set_option linter.all false
set_option maxRecDepth 100000
set_option maxHeartbeats 4000000
/-! Trees of lists: their numbers; how they begin. -/
namespace Tl
open PySem L2
mutual
def AT.nums : AT → List Int
  | .node _ _ n _ ks => n :: numss ks
def numss : List AT → List Int
  | [] => []
  | k :: ks => k.nums ++ numss ks
end
/-- some numbers in a row -/
def rowI (k : Int) (n : Nat) : List Int := (List.range n).map fun i => k + (i : Nat)
/-- a tree of lists that is new: begun at M, standing at M' -/
structure NewT (d : PyData) (k : Int) (M : Mem) (T : AT) (M' : Mem) : Prop where
  tel : T.tel tgF = d
  nums : T.nums = rowI k (nn d)
  ok : T.ok M'
  nd : T.adr.Nodup
  new : ∀ x ∈ T.adr, M x = none
/-- some of them -/
structure NewTs (ds : List PyData) (k : Int) (M : Mem) (ts : List AT) (M' : Mem) : Prop where
  tel : ts.map (AT.tel tgF) = ds
  nums : numss ts = rowI k (nnAll ds)
  ok : oks M' ts
  nd : (adrs ts).Nodup
  new : ∀ x ∈ adrs ts, M x = none
theorem NewTs.nil (k : Int) (M M' : Mem) : NewTs [] k M [] M' := ⟨rfl, by rw [numss]; rfl, by rw [oks]; trivial, by rw [adrs]; exact List.nodup_nil, fun x h => by rw [adrs] at h; cases h⟩
/-- what stands in a tree of lists is something -/
theorem ok_some {M : Mem} {T : AT} (h : T.ok M) {x : Addr} (hx : x ∈ T.adr) : ∃ v, M x = some v := by
  have key : ∀ (t : AT), t.ok M → ∀ x ∈ t.adr, ∃ v, M x = some v := AT.rec (motive_1 := fun t => t.ok M → ∀ x ∈ t.adr, ∃ v, M x = some v) (motive_2 := fun ts => oks M ts → ∀ x ∈ adrs ts, ∃ v, M x = some v)
    (fun a b n t ks ih o x hx => by
      rw [AT.ok] at o
      rw [AT.adr] at hx
      rcases List.mem_cons.mp hx with rfl | hx
      · exact ⟨_, o.1⟩
      rcases List.mem_cons.mp hx with rfl | hx
      · exact ⟨_, o.2.1⟩
      · exact ih o.2.2 x hx)
    (fun o x hx => by rw [adrs] at hx; cases hx)
    (fun k ks ih1 ih2 o x hx => by
      rw [oks] at o
      rw [adrs, List.mem_append] at hx
      exact hx.elim (ih1 o.1 x) (ih2 o.2 x))
  exact key T h x hx
end Tl
set_option Elab.async false
set_option linter.all false
set_option maxRecDepth 100000
set_option maxHeartbeats 4000000
/-! A deed done on a tree of lists: what holds behind it. -/
namespace Tl
open PySem L2
structure LvR (T : AT) (x : Deed) (c : Addr) (M : Mem) (T' : AT) (M' : Mem) : Prop where
  ok : T'.ok M'
  nd : T'.adr.Nodup
  root : T'.root = T.root
  tel : T'.tel tgF = chg (T.tel tgF) x
  old : ∀ z, M z ≠ none → z ∉ T.adr → z ≠ c → M' z = M z
  new : ∀ z ∈ T'.adr, z ∈ T.adr ∨ M z = none
theorem box_in {T u : AT} {q : List Nat} (h : T.at_ q = some u) : u.root ∈ T.adr ∧ u.box ∈ T.adr := by
  rw [(adr_ctx h).mem_iff, (adr_ctx h).mem_iff, List.mem_append, List.mem_append, adr_eta u]
  exact ⟨.inr (List.mem_cons_self ..), .inr (List.mem_cons_of_mem _ (List.mem_cons_self ..))⟩
theorem kids_in {T u : AT} {q : List Nat} (h : T.at_ q = some u) {z : Addr} (hz : z ∈ adrs u.kids) : z ∈ T.adr := by
  rw [(adr_ctx h).mem_iff, List.mem_append, adr_eta u]
  exact .inr (List.mem_cons_of_mem _ (List.mem_cons_of_mem _ hz))
theorem kids_nd {M : Mem} {T u : AT} {q : List Nat} {ks : List AT} (h : T.ok M) (hn : T.adr.Nodup) (hq : T.at_ q = some u) (n1 : (adrs ks).Nodup) (n2 : ∀ z ∈ adrs ks, z ∈ adrs u.kids ∨ M z = none) :
    (T.put q (u.withKids ks)).adr.Nodup ∧ (∀ z ∈ (T.put q (u.withKids ks)).adr, z ∈ T.adr ∨ M z = none) ∧ u.box ∉ adrs ks := by
  have e := (adr_ctx hq).nodup_iff.mp hn
  rw [adr_eta u] at e
  obtain ⟨d1, d2, d3⟩ := List.nodup_append.mp e
  obtain ⟨d4, d5⟩ := List.nodup_cons.mp d2
  obtain ⟨d6, d7⟩ := List.nodup_cons.mp d5
  have fresh : ∀ z, z ∈ T.adr → M z ≠ none := fun z hz c => by
    obtain ⟨v, hv⟩ := ok_some h hz
    rw [c] at hv
    cases hv
  have r1 : u.root ∉ adrs ks := fun z => (n2 _ z).elim (fun z => d4 (List.mem_cons_of_mem _ z)) (fresh _ (box_in hq).1)
  have b1 : u.box ∉ adrs ks := fun z => (n2 _ z).elim d6 (fresh _ (box_in hq).2)
  have p := adr_put (s := u.withKids ks) hq
  have ea : (u.withKids ks).adr = u.root :: u.box :: adrs ks := adr_eta _
  rw [ea] at p
  refine ⟨p.nodup_iff.mpr (List.nodup_append.mpr ⟨d1, List.nodup_cons.mpr ⟨fun z => ?_, List.nodup_cons.mpr ⟨b1, n1⟩⟩, fun x hx y hy e => ?_⟩), fun z hz => ?_, b1⟩
  · rcases List.mem_cons.mp z with z | z
    · exact d4 (by rw [z]; exact List.mem_cons_self ..)
    · exact r1 z
  · subst e
    rcases List.mem_cons.mp hy with z | hy
    · exact d3 x hx x (by rw [z]; exact List.mem_cons_self ..) rfl
    rcases List.mem_cons.mp hy with z | hy
    · exact d3 x hx x (by rw [z]; exact List.mem_cons_of_mem _ (List.mem_cons_self ..)) rfl
    rcases n2 x hy with z | z
    · exact d3 x hx x (List.mem_cons_of_mem _ (List.mem_cons_of_mem _ z)) rfl
    · exact fresh x (by rw [(adr_ctx hq).mem_iff, List.mem_append]; exact .inl hx) z
  · rw [p.mem_iff, List.mem_append] at hz
    rcases hz with hz | hz
    · exact .inl (by rw [(adr_ctx hq).mem_iff, List.mem_append]; exact .inl hz)
    rcases List.mem_cons.mp hz with z1 | hz
    · exact .inl (by rw [z1]; exact (box_in hq).1)
    rcases List.mem_cons.mp hz with z1 | hz
    · exact .inl (by rw [z1]; exact (box_in hq).2)
    exact (n2 z hz).imp (kids_in hq) id
theorem LvR.of {M M1 : Mem} {T u : AT} {q : List Nat} {ks : List AT} {c : Addr} {x : Deed} (h : T.ok M) (h1 : T.ok M1) (hn : T.adr.Nodup) (hq : T.at_ q = some u) (hk : oks M1 ks) (n1 : (adrs ks).Nodup) (n2 : ∀ z ∈ adrs ks, z ∈ adrs u.kids ∨ M z = none)
    (hold : ∀ z, M z ≠ none → z ∉ T.adr → z ≠ c → M1 z = M z) (tel : repl q (T.tel tgF) (.tuple [u.tag, .tuple (ks.map (AT.tel tgF))]) = chg (T.tel tgF) x) : LvR T x c M (T.put q (u.withKids ks)) (mset M1 u.box (.lst (rootsW ks))) := by
  obtain ⟨a1, a2, a3⟩ := kids_nd h hn hq n1 n2
  refine ⟨setKids_ok h1 hq (nd_one hn _) hk a3, a1, put_root hq rfl, ?_, fun z z1 z2 z3 => ?_, a2⟩
  · rw [still_put hq, ← tel]
    congr 1
    rw [AT.withKids, still_node]
  · rw [mset_ne (fun e => z2 (by rw [e]; exact (box_in hq).2))]
    exact hold z z1 z2 z3
theorem LvR.name {M : Mem} {T u : AT} {q : List Nat} {c : Addr} {t : Str} (h : T.ok M) (hn : T.adr.Nodup) (hq : T.at_ q = some u) : LvR T (.name q t) c M (T.put q (.node u.root u.box u.num (.str t) u.kids)) (mset M u.root (.lst [.d (.int u.num), .d (.str t), .r u.box])) := by
  have p := adr_put (s := .node u.root u.box u.num (.str t) u.kids) hq
  have ea : (AT.node u.root u.box u.num (.str t) u.kids).adr = u.adr := by rw [adr_eta u]; exact adr_eta _
  rw [ea] at p
  have p2 := p.trans (adr_ctx hq).symm
  refine ⟨setTag_ok h hq (nd_one hn _), p2.nodup_iff.mpr hn, put_root hq rfl, ?_, fun z z1 z2 z3 => ?_, fun z hz => .inl (p2.mem_iff.mp hz)⟩
  · rw [still_put hq, chg, partD_of (e := u.tel tgF) (by rw [sub_still, hq]; rfl), still_node, still_eta u, kidsD_node]
  · exact mset_ne fun e => z2 (by rw [e]; exact (box_in hq).1)
end Tl
set_option Elab.async false
set_option linter.all false
set_option maxRecDepth 100000
set_option maxHeartbeats 4000000
/-! Trees and deeds are good to be shown; deeds that a law draws. -/
namespace Tl
open PySem L2
theorem tag_str {s : Str} (h : isTag (.str s) = true) : 1 ≤ s.length ∧ s.length ≤ 8 ∧ PyData.strOk s = true := by
  rw [isTag, Bool.and_eq_true, Bool.and_eq_true] at h
  refine ⟨of_decide_eq_true h.1.1, of_decide_eq_true h.1.2, ?_⟩
  unfold PyData.strOk
  rw [Array.all_eq_true_iff_forall_mem]
  intro c hc
  have := List.all_eq_true.mp h.2 c (Array.mem_toList_iff.mpr hc)
  unfold small at this
  rw [Bool.and_eq_true] at this
  have h2 := of_decide_eq_true this.2
  exact decide_eq_true (by omega)
theorem tree_gk {d : PyData} (h : TrT 12 d) (hn : nn d ≤ 60) : Gk 6000 24 d := by
  obtain ⟨h1, h2, h3, _⟩ := TrT.gd h
  exact ⟨h1, by omega, h2⟩
theorem place_ok {d e : PyData} {q : List Nat} (h : TrT 12 d) (hn : nn d ≤ 60) (hs : sub d q = some e) : pathOk q :=
  ⟨sub_len h hs, fun i hi => by have := sub_ent h hs i hi; omega⟩
theorem adr_nums (T : AT) : T.adr.length = 2 * T.nums.length :=
  AT.rec (motive_1 := fun t => t.adr.length = 2 * t.nums.length) (motive_2 := fun ts => (adrs ts).length = 2 * (numss ts).length)
    (fun a b n t ks ih => by
      rw [AT.adr, AT.nums, List.length_cons, List.length_cons, List.length_cons, ih]
      omega)
    (by rw [adrs, numss]; rfl)
    (fun k ks ih1 ih2 => by
      rw [adrs, numss, List.length_append, List.length_append, ih1, ih2]
      omega) T
theorem NewT.len {d : PyData} {k : Int} {M M' : Mem} {T : AT} (h : NewT d k M T M') : T.adr.length = 2 * nn d := by
  rw [adr_nums, h.nums]
  unfold rowI
  rw [List.length_map, List.length_range]
theorem pathD_inj {a b : List Nat} (h : pathD a = pathD b) : a = b := by
  have := eqv_path a b
  rw [h, eqv_path] at this
  have e : decide (a = b) = true := by rw [← this]; exact decide_eq_true rfl
  exact of_decide_eq_true e
theorem int_inj {a b : Nat} (h : PyData.int (a : Int) = .int (b : Int)) : a = b := Int.ofNat.inj (PyData.int.inj h)
theorem Deed.inj : ∀ {x y : Deed}, x.d = y.d → x = y := fun {x y} h => by
  cases x <;> cases y <;> simp only [Deed.d, PyData.tuple.injEq, List.cons.injEq, PyData.str.injEq, and_true, true_and] at h <;> first
    | (exact absurd h.1 (by decide))
    | (exact absurd h (by decide))
    | (obtain ⟨h1, h2⟩ := h; rw [pathD_inj h1, h2])
    | (obtain ⟨h1, h2, h3⟩ := h; rw [pathD_inj h1, int_inj h2, h3])
    | (obtain ⟨h1, h2, h3⟩ := h; rw [pathD_inj h1, pathD_inj h2, int_inj h3])
    | (obtain ⟨h1, h2, h3, h4⟩ := h; rw [pathD_inj h1, int_inj h2, int_inj h3, h4])
    | (obtain ⟨h1, h2⟩ := h; rw [pathD_inj h1, pathD_inj h2])
    | (rw [pathD_inj h])
theorem tree_eq {d : PyData} (h1 : TrT 12 d) (h2 : nn d ≤ 60) : d.depth < 50 ∧ d.hasDict = false ∧ txt d = true ∧ eqOk d = true ∧ PyData.eqv d d = true := by
  obtain ⟨g, _, dp⟩ := tree_gk h1 h2
  have nd := gd_nd d g
  exact ⟨by omega, nd, gd_txt d g, gd_eqOk g (by omega), eqv_self d nd⟩
end Tl
set_option Elab.async false
set_option linter.all false
set_option maxRecDepth 100000
set_option maxHeartbeats 4000000
/-! Numbers of places, led through deeds: where a place stands behind. -/
set_option Elab.async false
set_option linter.all false
set_option maxRecDepth 100000
set_option maxHeartbeats 4000000
/-! A deed done on a tree of lists: its numbers, led. -/
set_option Elab.async false
set_option linter.all false
set_option maxRecDepth 100000
set_option maxHeartbeats 4000000
/-! The way back of a deed: it fits, leads back, each place too; its own way back is the deed. -/
namespace Tl
open PySem L2
/-! ### parts replaced, as data -/
theorem sub_consE {d e : PyData} {i : Nat} {q : List Nat} (h : sub d (i :: q) = some e) : ∃ (s : PyData) (ks : List PyData) (k : PyData), d = .tuple [s, .tuple ks] ∧ ks[i]? = some k ∧ sub k q = some e := by
  rw [sub.eq_def] at h
  split at h
  · rename_i h0; cases h0
  · rename_i s ks n q h0
    cases h0
    split at h
    · rename_i k hk
      exact ⟨_, _, k, rfl, hk, h⟩
    · cases h
  · cases h
theorem sub_appE : ∀ {q r : List Nat} {d u : PyData}, sub d q = some u → sub d (q ++ r) = sub u r
  | [], r, d, u, h => by rw [sub_nil] at h; cases h; rfl
  | i :: q, r, d, u, h => by
    obtain ⟨s, ks, k, rfl, h1, h2⟩ := sub_consE h
    rw [List.cons_append, sub_node, h1]
    exact sub_appE h2
/-! ### runs of kids, and back -/
/-! ### paths, there and back -/
/-! ### the deed back -/
end Tl
set_option Elab.async false
set_option linter.all false
set_option maxRecDepth 100000
set_option maxHeartbeats 4000000
/-! A tree read out of a row of numbers. -/
namespace Tl
open PySem L2
/-- a number of a row between two bounds -/
def numAt (ds : List PyData) (i : Nat) (lo hi : Int) : Option Nat := match ds[i]? with
  | some (.int n) => if 0 ≤ n ∧ lo ≤ n ∧ n ≤ hi then some n.toNat else none
  | _ => none
def rdLet (ds : List PyData) : Nat → Nat → Nat ⊕ List Nat
  | 0, _ => .inr []
  | m + 1, i => match numAt ds i 1 26 with
    | none => .inl i
    | some c => match rdLet ds m (i + 1) with
      | .inl j => .inl j
      | .inr cs => .inr (c :: cs)
def ltr (cs : List Nat) : Str := Str.mk (cs.map fun c => c + 96).toArray
def rdTag (ds : List PyData) (i : Nat) : Nat ⊕ (List Nat × Nat) := match numAt ds i 1 8 with
  | none => .inl i
  | some m => match rdLet ds m (i + 1) with
    | .inl j => .inl j
    | .inr cs => .inr (cs, i + 1 + m)
/-- so many, one behind another -/
def rep (f : Nat → Nat → Nat ⊕ (PyData × Nat × Nat)) : Nat → Nat → Nat → Nat ⊕ (List PyData × Nat × Nat)
  | 0, i, due => .inr ([], i, due)
  | m + 1, i, due => match f i due with
    | .inl j => .inl j
    | .inr (d, i2, due2) => match rep f m i2 due2 with
      | .inl j => .inl j
      | .inr (ks, i3, due3) => .inr (d :: ks, i3, due3)
def rdPart (ds : List PyData) : Nat → Nat → Nat → Nat ⊕ (PyData × Nat × Nat)
  | 0, i, _ => .inl i
  | lv + 1, i, due => match numAt ds i 0 (if lv = 0 then 0 else 60 - (due : Int)) with
    | none => .inl i
    | some m => match rdTag ds (i + 1) with
      | .inl j => .inl j
      | .inr (cs, i2) => match rep (rdPart ds lv) m i2 (due + m) with
        | .inl j => .inl j
        | .inr (ks, i3, due3) => .inr (.tuple [.str (ltr cs), .tuple ks], i3, due3)
end Tl
set_option Elab.async false
set_option linter.all false
set_option maxRecDepth 100000
set_option maxHeartbeats 4000000
/-! The numbers of a tree; what is read out of a row is the tree that has it. -/
namespace Tl
open PySem L2
mutual
def nums : PyData → List PyData
  | .tuple [.str s, .tuple ks] => (PyData.int (ks.length : Nat) :: .int (s.length : Nat) :: s.cps.toList.map fun c : Nat => PyData.int ((c : Int) - 96)) ++ numsAll ks
  | _ => []
def numsAll : List PyData → List PyData
  | [] => []
  | k :: ks => nums k ++ numsAll ks
end
/-- a row read to its end -/
def rdTop (ds : List PyData) : Nat ⊕ PyData := match rdPart ds 12 0 1 with
  | .inl j => .inl j
  | .inr (t, i, _) => if i < ds.length then .inl i else .inr t
theorem tag_let {s : Str} (h : isTag (.str s) = true) : 1 ≤ s.length ∧ s.length ≤ 8 ∧ ∀ c ∈ s.cps.toList, ∃ k < 26, c = 97 + k := by
  rw [isTag, Bool.and_eq_true, Bool.and_eq_true, decide_eq_true_eq, decide_eq_true_eq, List.all_eq_true] at h
  obtain ⟨⟨h1, h2⟩, h3⟩ := h
  refine ⟨h1, h2, fun c hc => ?_⟩
  have := h3 c hc
  rw [small, Bool.and_eq_true, decide_eq_true_eq, decide_eq_true_eq] at this
  exact ⟨c - 97, by omega, by omega⟩
mutual
theorem nums_len : ∀ {n : Nat} {d : PyData}, TrT n d → (nums d).length ≤ 10 * nn d
  | 0, _, h => h.elim
  | n + 1, d, h => by
    obtain ⟨s, ks, rfl, ht, hk⟩ := h
    obtain ⟨h1, h2, _⟩ := tag_let ht
    have := numsAll_len hk
    have e : s.cps.toList.length = s.length := by rw [Array.length_toList]; rfl
    rw [nums, nn, List.length_append, List.length_cons, List.length_cons, List.length_map, e]
    omega
theorem numsAll_len : ∀ {n : Nat} {ks : List PyData}, (∀ k ∈ ks, TrT n k) → (numsAll ks).length ≤ 10 * nnAll ks
  | _, [], _ => Nat.zero_le _
  | n, k :: ks, h => by
    have h1 := nums_len (h k (.head _))
    have h2 := numsAll_len fun x hx => h x (.tail _ hx)
    rw [numsAll, nnAll, List.length_append]
    omega
end
theorem numsAll_app (a b : List PyData) : numsAll (a ++ b) = numsAll a ++ numsAll b := by
  induction a with
  | nil => rfl
  | cons x r ih => rw [List.cons_append, numsAll, numsAll, ih, List.append_assoc]
theorem len_nnA : ∀ ks : List PyData, ks.length ≤ nnAll ks
  | [] => Nat.zero_le _
  | k :: ks => by
    have := len_nnA ks
    have h : 1 ≤ nn k := by
      unfold nn
      split <;> omega
    rw [List.length_cons, nnAll]
    omega
theorem nn_memA : ∀ {ks : List PyData} {k : PyData}, k ∈ ks → nn k ≤ nnAll ks
  | [], _, h => by cases h
  | a :: ks, k, h => by
    rw [nnAll]
    rcases List.mem_cons.mp h with e | e
    · rw [e]; omega
    · have := nn_memA e
      omega
theorem nnA_snoc : ∀ {ks : List PyData} {i : Nat} {k : PyData}, ks[i]? = some k → nnAll (ks.take i) + nn k ≤ nnAll ks
  | [], i, k, h => by simp at h
  | a :: ks, 0, k, h => by
    cases (show some a = some k from h)
    rw [List.take_zero, nnAll, nnAll]
    omega
  | a :: ks, i + 1, k, h => by
    have := nnA_snoc (ks := ks) (i := i) h
    rw [List.take_succ_cons, nnAll, nnAll]
    omega
end Tl
set_option Elab.async false
set_option linter.all false
set_option maxRecDepth 100000
set_option maxHeartbeats 4000000
/-! A tree read out of a text. -/
namespace Tl
open PySem L2
/-- the letters of a tag from here on -/
def tgAt (cs : List Nat) (i : Nat) : List Nat := ((cs.drop i).take 8).takeWhile small
/-- parts behind commas -/
def more (cs : List Nat) (f : Nat → Nat → Nat ⊕ (PyData × Nat × Nat)) : Nat → Nat → Nat → Nat ⊕ (List PyData × Nat × Nat)
  | 0, i, b => .inr ([], i, b)
  | n + 1, i, b => if b < 60 ∧ cs[i]? = some 44 then (match f (i + 1) b with
    | .inl j => .inl j
    | .inr (k, i2, b2) => match more cs f n i2 b2 with
      | .inl j => .inl j
      | .inr (ks, i3, b3) => .inr (k :: ks, i3, b3)) else .inr ([], i, b)
def nodeT (tg : List Nat) (ks : List PyData) : PyData := .tuple [.str (Str.mk tg.toArray), .tuple ks]
def rdT (cs : List Nat) : Nat → Nat → Nat → Nat ⊕ (PyData × Nat × Nat)
  | 0, i, _ => .inl i
  | lv + 1, i, b => if tgAt cs i = [] then .inl i else
    if ¬ lv = 0 ∧ b + 1 < 60 ∧ cs[i + (tgAt cs i).length]? = some 40 then (match rdT cs lv (i + (tgAt cs i).length + 1) (b + 1) with
      | .inl j => .inl j
      | .inr (k, i2, b2) => match more cs (rdT cs lv) 60 i2 b2 with
        | .inl j => .inl j
        | .inr (ks, i3, b3) => if cs[i3]? = some 41 then .inr (nodeT (tgAt cs i) (k :: ks), i3 + 1, b3) else .inl i3)
    else .inr (nodeT (tgAt cs i) [], i + (tgAt cs i).length, b + 1)
/-- a text read to its end -/
def rtTop (cs : List Nat) : Nat ⊕ PyData := match rdT cs 12 0 0 with
  | .inl j => .inl j
  | .inr (t, i, _) => if i < cs.length then .inl i else .inr t
mutual
/-- the text of a tree -/
def txS : PyData → List Nat
  | .tuple [.str s, .tuple ks] => match ks with
    | [] => s.cps.toList
    | k :: ks => s.cps.toList ++ 40 :: (txS k ++ (txA ks ++ [41]))
  | _ => []
def txA : List PyData → List Nat
  | [] => []
  | k :: ks => 44 :: (txS k ++ txA ks)
end
theorem tg_len (cs : List Nat) (i : Nat) : (tgAt cs i).length ≤ 8 := by
  have h1 := (List.takeWhile_prefix (small ·) (l := (cs.drop i).take 8)).length_le
  have h2 : ((cs.drop i).take 8).length ≤ 8 := by simp; omega
  exact Nat.le_trans h1 h2
theorem tg_drop (cs : List Nat) (i : Nat) : cs.drop i = tgAt cs i ++ cs.drop (i + (tgAt cs i).length) := by
  have h1 : tgAt cs i <+: (cs.drop i).take 8 := List.takeWhile_prefix _
  have h2 : (cs.drop i).take 8 <+: cs.drop i := List.take_prefix _ _
  obtain ⟨r, hr⟩ := h1.trans h2
  have : cs.drop (i + (tgAt cs i).length) = r := by rw [← List.drop_drop, ← hr, List.drop_left]
  rw [this, hr]
theorem tg_small (cs : List Nat) (i : Nat) : ∀ c ∈ tgAt cs i, small c = true := List.all_eq_true.mp List.all_takeWhile
theorem tg_in {cs : List Nat} {i : Nat} (h : i ≤ cs.length) : i + (tgAt cs i).length ≤ cs.length := by
  have := congrArg List.length (tg_drop cs i)
  rw [List.length_append, List.length_drop, List.length_drop] at this
  by_cases c : tgAt cs i = []
  · rw [c]; exact h
  · have : 1 ≤ (tgAt cs i).length := by
      rcases e : tgAt cs i with _ | ⟨a, r⟩
      · exact absurd e c
      · simp
    omega
theorem tag_of {tg : List Nat} (h0 : tg ≠ []) (h8 : tg.length ≤ 8) (hs : ∀ c ∈ tg, small c = true) : isTag (.str (Str.mk tg.toArray)) = true := by
  have e1 : (Str.mk tg.toArray).length = tg.length := by show tg.toArray.size = _; simp
  have e2 : (Str.mk tg.toArray).cps.toList = tg := rfl
  have : 1 ≤ tg.length := by
    rcases tg with _ | ⟨a, r⟩
    · exact absurd rfl h0
    · simp
  rw [isTag, e1, e2, decide_eq_true this, decide_eq_true h8, Bool.true_and, Bool.true_and, List.all_eq_true]
  exact hs
theorem get_drop {cs : List Nat} {i c : Nat} (h : cs[i]? = some c) : cs.drop i = c :: cs.drop (i + 1) := by
  obtain ⟨hi, rfl⟩ := List.getElem?_eq_some_iff.mp h
  exact List.drop_eq_getElem_cons hi
theorem more_ok {cs : List Nat} {lv : Nat} {f : Nat → Nat → Nat ⊕ (PyData × Nat × Nat)} (hf : ∀ i b d i2 b2, i ≤ cs.length → b < 60 → f i b = .inr (d, i2, b2) → TrT lv d ∧ cs.drop i = txS d ++ cs.drop i2 ∧ b2 = b + nn d ∧ b2 ≤ 60 ∧ i2 ≤ cs.length) :
    ∀ {n i b : Nat} {ks : List PyData} {i2 b2 : Nat}, i ≤ cs.length → b ≤ 60 → more cs f n i b = .inr (ks, i2, b2) → (∀ k ∈ ks, TrT lv k) ∧ cs.drop i = txA ks ++ cs.drop i2 ∧ b2 = b + nnAll ks ∧ b2 ≤ 60 ∧ i2 ≤ cs.length
  | 0, i, b, ks, i2, b2, hi, hb, h => by cases h; exact ⟨(fun k h => by cases h), rfl, rfl, hb, hi⟩
  | n + 1, i, b, ks, i2, b2, hi, hb, h => by
    rw [more] at h
    split at h
    · rename_i c
      have hi1 := (List.getElem?_eq_some_iff.mp c.2).1
      split at h
      · cases h
      · rename_i k i3 b3 h3
        split at h
        · cases h
        · rename_i ks4 i4 b4 h4
          cases h
          obtain ⟨a1, a2, a3, a4, a5⟩ := hf _ _ _ _ _ (by omega) c.1 h3
          obtain ⟨e1, e2, e3, e4, e5⟩ := more_ok hf a5 a4 h4
          refine ⟨fun x hx => ?_, by rw [get_drop c.2, a2, e2, txA, List.cons_append, List.append_assoc], by rw [nnAll]; omega, e4, e5⟩
          rcases List.mem_cons.mp hx with e | e
          · rw [e]; exact a1
          · exact e1 x e
    · cases h; exact ⟨(fun k h => by cases h), rfl, rfl, hb, hi⟩
theorem rdT_ok {cs : List Nat} : ∀ {lv i b : Nat} {d : PyData} {i2 b2 : Nat}, i ≤ cs.length → b < 60 → rdT cs lv i b = .inr (d, i2, b2) → TrT lv d ∧ cs.drop i = txS d ++ cs.drop i2 ∧ b2 = b + nn d ∧ b2 ≤ 60 ∧ i2 ≤ cs.length
  | 0, _, _, _, _, _, _, _, h => by cases h
  | lv + 1, i, b, d, i2, b2, hi, hb, h => by
    rw [rdT] at h
    split at h
    · cases h
    · rename_i hne
      have htg := tag_of hne (tg_len cs i) (tg_small cs i)
      have hin := tg_in (i := i) hi
      split at h
      · rename_i c
        have hi1 := (List.getElem?_eq_some_iff.mp c.2.2).1
        split at h
        · cases h
        · rename_i k i3 b3 h3
          obtain ⟨a1, a2, a3, a4, a5⟩ := rdT_ok (by omega) c.2.1 h3
          split at h
          · cases h
          · rename_i ks i4 b4 h4
            obtain ⟨e1, e2, e3, e4, e5⟩ := more_ok (fun i b d i2 b2 x y z => rdT_ok x y z) a5 a4 h4
            split at h
            · rename_i hc
              have hi2 := (List.getElem?_eq_some_iff.mp hc).1
              cases h
              refine ⟨⟨_, _, rfl, htg, fun x hx => ?_⟩, ?_, by rw [nodeT, nn, nnAll]; omega, e4, by omega⟩
              · rcases List.mem_cons.mp hx with e | e
                · rw [e]; exact a1
                · exact e1 x e
              · rw [tg_drop cs i, get_drop c.2.2, a2, e2, get_drop hc, nodeT, txS]
                simp
            · cases h
      · cases h
        refine ⟨⟨_, _, rfl, htg, fun x hx => by cases hx⟩, ?_, by rw [nodeT, nn, nnAll], by omega, hin⟩
        rw [nodeT, txS]
        exact tg_drop cs i
end Tl
set_option Elab.async false
set_option linter.all false
set_option maxRecDepth 100000
set_option maxHeartbeats 4000000
/-! Parts of a text. -/
namespace Tl
open PySem L2
theorem cutS_cut (t : Str) (lo hi : Option Int) : cutS t lo hi = Str.mk (cut t.cps.toList lo hi).toArray := rfl
theorem cutS_mid (t : Str) (i j : Nat) : cutS t (some (i : Int)) (some (j : Int)) = Str.mk ((t.cps.toList.drop i).take (j - i)).toArray := by rw [cutS_cut, cut_mid]
theorem mk_inj {a b : List Nat} (h : Str.mk a.toArray = Str.mk b.toArray) : a = b := by
  have h2 : a.toArray = b.toArray := by injection h
  have := congrArg Array.toList h2
  simpa using this
theorem cutS_1 (t : Str) (i c : Nat) : (cutS t (some (i : Int)) (some ((i : Int) + 1)) = ⟨#[c]⟩) ↔ t.cps.toList[i]? = some c := by
  have e := cutS_mid t i (i + 1)
  rw [show ((i + 1 : Nat) : Int) = (i : Int) + 1 by omega, show i + 1 - i = 1 by omega] at e
  rw [e]
  constructor
  · intro h
    have h2 : (t.cps.toList.drop i).take 1 = [c] := mk_inj (b := [c]) h
    cases hd : t.cps.toList.drop i with
    | nil => rw [hd] at h2; cases h2
    | cons a r =>
      rw [hd] at h2
      cases h2
      have := List.getElem?_drop (xs := t.cps.toList) (i := i) (j := 0)
      rw [hd] at this
      rw [← Nat.add_zero i, ← this]
      rfl
  · intro h
    rw [get_drop h]
    rfl
theorem mk_of (s : Str) : Str.mk s.cps.toList.toArray = s := rfl
end Tl
set_option Elab.async false
set_option linter.all false
set_option maxRecDepth 100000
set_option maxHeartbeats 8000000
namespace Tl
open PySem L2 RZ
local macro_rules
  | `(tactic| decreasing_trivial) => `(tactic| ((with_reducible (conv => whnf)); (repeat ((first | (with_reducible refine exI (by first | exact mset_same | assumption | (rw [mset_ne (by assumption)]; first | exact mset_same | assumption)) ?_) | (with_reducible refine exI2 (by first | exact mset_same | assumption | (rw [mset_ne (by assumption)]; first | exact mset_same | assumption)) ?_) | (with_reducible refine gPut_n ?_) | (with_reducible refine gPut_0 ?_) | (with_reducible refine (gPut_s (by decide +kernel)) ?_) | (with_reducible refine (gO_i lk_txt) ?_) | (with_reducible refine (gO_i lk_at) ?_) | (with_reducible refine (gO_i lk_beg) ?_) | (with_reducible refine gp_at ?_) | (with_reducible refine gp_beg ?_) | (with_reducible refine gDs_c ?_) | (with_reducible refine gDs_n ?_) | (with_reducible refine gNs_c ?_) | (with_reducible refine gNs_n ?_) | (with_reducible refine gO_i tyAny_lt ?_) | (with_reducible refine gIs_c ?_) | (with_reducible refine gIs_n ?_) | (with_reducible refine gBs_c ?_) | (with_reducible refine gBs_n ?_) | (with_reducible refine gSs_c ?_) | (with_reducible refine gSs_n ?_) | (with_reducible refine gO_i tyIs_int ?_) | (with_reducible refine gO_i tyIs_bool ?_) | (with_reducible refine gO_i tyIs_str ?_) | (with_reducible refine gO_i tyIs_tuple ?_) | (with_reducible refine gO_i tyIs_list ?_) | (with_reducible refine gDs_i ?_) | (with_reducible refine gO_i (Eq.refl _) ?_) | (with_reducible refine gO_i (by assumption) ?_) | (with_reducible refine gO_i at_0 ?_) | (with_reducible refine gO_i at_m0 ?_) | (with_reducible refine gO_i at_1 ?_) | (with_reducible refine gO_i at_m1 ?_) | (with_reducible refine gO_i at_2 ?_) | (with_reducible refine gO_i at_m2 ?_) | (with_reducible refine gO_i at_3 ?_) | (with_reducible refine gO_i at_m3 ?_) | (with_reducible refine gO_i at_4 ?_) | (with_reducible refine gO_i at_m4 ?_) | (with_reducible refine gO_i at_5 ?_) | (with_reducible refine gO_i at_m5 ?_) | (with_reducible refine gO_i at_6 ?_) | (with_reducible refine gO_i at_m6 ?_) | (with_reducible refine gO_i at_7 ?_) | (with_reducible refine gO_i at_m7 ?_) | (with_reducible refine IfB.ngf ?_) | (with_reducible refine IfB.ngt ?_) | (with_reducible refine IfB.not ?_) | (with_reducible refine IfB.nil ?_) | (with_reducible refine IfB.nilT ?_) | (with_reducible refine IfB.f isE_c ?_) | (with_reducible refine IfB.t isE_n ?_) | (with_reducible refine IfB.t ?gha ?_; (case gha => rfl)) | (with_reducible refine IfB.f ?gha ?_; (case gha => rfl)) | (with_reducible refine IfB.t ?gha ?_; (case gha => assumption)) | (with_reducible refine IfB.f ?gha ?_; (case gha => assumption)) | (with_reducible refine IfB.yes (Eq.refl _) ?_) | (with_reducible refine IfB.yes ?gha ?_; (case gha => (first | omega | (simp only [len_c, len_n, List.length_map]; omega)))) | (with_reducible refine IfB.no ?gha ?_; (case gha => (first | omega | (simp only [len_c, len_n, List.length_map]; omega)))) | (with_reducible refine IfB.t ?gha ?_; (case gha => decide +kernel)) | (with_reducible refine IfB.f ?gha ?_; (case gha => decide +kernel))); (with_reducible (conv => whnf))))))
local macro_rules
  | `(tactic| decreasing_trivial_pre_omega) => `(tactic| (decreasing_trivial; (repeat ((first | ((with_reducible refine And.intro ?gha ?_); (case gha => (first | assumption | omega | exact rfl | (exact mset_same) | (exact ⟨_, mset_same⟩) | (exact Exists.intro _ (by first | exact mset_same | assumption | (rw [mset_ne (by assumption)]; first | exact mset_same | assumption))) | (exact sm_of (by omega) (by omega)) | (exact sz1000 (by first | omega | (simp; done) | (simp; omega))) | (exact Or.inl ⟨by decide, by decide⟩) | decide | (simp; done) | (refine ⟨?_, ?_⟩ <;> (first | assumption | omega | exact rfl | (exact mset_same) | (exact ⟨_, mset_same⟩) | (exact Exists.intro _ (by first | exact mset_same | assumption | (rw [mset_ne (by assumption)]; first | exact mset_same | assumption))) | (exact sm_of (by omega) (by omega)) | (exact sz1000 (by first | omega | (simp; done) | (simp; omega))) | (exact Or.inl ⟨by decide, by decide⟩) | decide | (simp; done))) | (refine ⟨?_, ?_, ?_⟩ <;> (first | assumption | omega | exact rfl | (exact mset_same) | (exact ⟨_, mset_same⟩) | (exact Exists.intro _ (by first | exact mset_same | assumption | (rw [mset_ne (by assumption)]; first | exact mset_same | assumption))) | (exact sm_of (by omega) (by omega)) | (exact sz1000 (by first | omega | (simp; done) | (simp; omega))) | (exact Or.inl ⟨by decide, by decide⟩) | decide | (simp; done))) | (refine ⟨?_, ?_, ?_, ?_⟩ <;> (first | assumption | omega | exact rfl | (exact mset_same) | (exact ⟨_, mset_same⟩) | (exact Exists.intro _ (by first | exact mset_same | assumption | (rw [mset_ne (by assumption)]; first | exact mset_same | assumption))) | (exact sm_of (by omega) (by omega)) | (exact sz1000 (by first | omega | (simp; done) | (simp; omega))) | (exact Or.inl ⟨by decide, by decide⟩) | decide | (simp; done)))))) | (with_reducible refine exW (by first | exact mset_same | assumption | (rw [mset_ne (by assumption)]; first | exact mset_same | assumption)) ?_)); decreasing_trivial))))
abbrev sI_Torn : Stmt := inClsN (top 10) 0
theorem scI_Torn : FnScope ["self", "at"] ["self", "at"] (defScope sI_Torn) := ⟨rfl, rfl, rfl, by decide +kernel, rfl, by decide +kernel, by decide +kernel⟩
theorem okI_Torn {P : Program} {w : World} {K : PySem.W.Frag} {mg : Str → Option Value} {base : Heap} {f C : Addr} {fd : FuncData} {k : Nat} (F : Fun K "__init__" "Torn.__init__" sI_Torn f fd) (o : OexC K C) (n : PySem.W.findIn K (.ref C) "at" = some none) : FnOk P w K mg base CX0 (k + 1) f fd ["self", "at"] (spInitF K C "at") := by
  refine F.ok scI_Torn (fun vs H Q E h => ?_) (fun cdv A outer s H vs Q E hr h => ?_)
  · obtain ⟨_, _, rfl, _⟩ := h
    rfl
  obtain ⟨a, v, rfl, ha, q⟩ := h
  exact ⟨_, pss_one (ps_ost (pv 0) (pv 1)), _, rfl, _, rfl, a, C, rfl, o, n, .inl ⟨ha, fun dx h1 h2 => q dx h1 h2⟩⟩
/-- a reader's fields -/
def rfF (t : Str) (i b : Int) : List (Str × W) := [("text", .d (.str t)), ("at", .d (.int i)), ("begun", .d (.int b))]
theorem lk_txt {t : Str} {i b : Int} : List.lookup ("text" : Str) (rfF t i b) = some (.d (.str t)) := by
  unfold rfF
  rw [List.lookup, show (("text" : Str) == "text") = true by decide +kernel]
theorem lk_at {t : Str} {i b : Int} : List.lookup ("at" : Str) (rfF t i b) = some (.d (.int i)) := by
  unfold rfF
  rw [List.lookup, show (("at" : Str) == "text") = false by decide +kernel, List.lookup, show (("at" : Str) == "at") = true by decide +kernel]
theorem lk_beg {t : Str} {i b : Int} : List.lookup ("begun" : Str) (rfF t i b) = some (.d (.int b)) := by
  unfold rfF
  rw [List.lookup, show (("begun" : Str) == "text") = false by decide +kernel, List.lookup, show (("begun" : Str) == "at") = false by decide +kernel, List.lookup, show (("begun" : Str) == "begun") = true by decide +kernel]
theorem gp_at {t : Str} {i b j : Int} {k : List (Str × W) → Prop} (q : k (rfF t j b)) : gPut "at" (.d (.int j)) (rfF t i b) k := by
  unfold rfF at q ⊢
  exact gPut_s (by decide +kernel) (gPut_0 q)
theorem gp_beg {t : Str} {i b j : Int} {k : List (Str × W) → Prop} (q : k (rfF t i j)) : gPut "begun" (.d (.int j)) (rfF t i b) k := by
  unfold rfF at q ⊢
  exact gPut_s (by decide +kernel) (gPut_s (by decide +kernel) (gPut_0 q))
theorem rfF_len {t : Str} {i b : Int} : (rfF t i b).length < 1000 := by
  show (3 : Nat) < 1000
  decide
structure RtC (K : PySem.W.Frag) (C : Addr) : Prop where
  cls : L2.Cls K C
  n1 : NoAttr K C "text"
  n2 : NoAttr K C "at"
  n3 : NoAttr K C "begun"
@[reducible] def tfInitT (C : Addr) : TF := fun ws M R _ => ∃ (a : Addr) (t : Str) (dx : Addr), ws = [.r a, .d (.str t)] ∧ M a = some (.ins C dx []) ∧ R (.d .none) (mset M a (.ins C dx (rfF t 0 0)))
@[reducible] def tfComes (C : Addr) : TF := fun ws M R _ => ∃ (a : Addr) (t : Str) (dx : Addr) (i b c : Nat), ws = [.r a, .d (.str ⟨#[c]⟩)] ∧ (M a = some (.ins C dx (rfF t i b)) ∧ i ≤ t.cps.toList.length ∧ t.length ≤ 1000) ∧ (t.cps.toList[i]? = some c → R (.d (.bool true)) (mset M a (.ins C dx (rfF t ((i + 1 : Nat) : Int) b)))) ∧ (¬ t.cps.toList[i]? = some c → R (.d (.bool false)) M)
section
variable {P : Program} {w : World} {K : PySem.W.Frag} {mg : Str → Option Value} {base : Heap}
abbrev sInitT : Stmt := inClsN (top 34) 0
theorem scInitT : FnScope ["self", "text"] ["self", "text"] (defScope sInitT) := ⟨rfl, rfl, rfl, by decide +kernel, rfl, by decide +kernel, by decide +kernel⟩
theorem ok_initT {f C : Addr} {fd : FuncData} {k : Nat} (F : Fun K "__init__" "TextReader.__init__" sInitT f fd) (MTextReader : RtC K C) : FnOk P w K mg base (L2.CX P w) (k + 1) f fd ["self", "text"] (spD K 2 (tfInitT C)) := by
  refine okDX F scInitT rfl fun cdv A outer s H E hr => ?_
  refine ⟨_, fun RE => _, (pss_cons (ps_fld (pv 0) (pv 1) (by rfl))
    (pss_cons (ps_fld (pv 0) pe_int (by rfl))
    (pss_one (ps_fld (pv 0) pe_int (by rfl))))), fun RE => (ss_cons (ss_fld se_nm se_nm)
    (ss_cons (ss_fld se_int se_nm)
    (ss_fld se_int se_nm))), fun ws M R RX hl h => ?_⟩
  obtain ⟨a, ds, dx, rfl, hM, h2⟩ := h
  have c1 := MTextReader.cls
  have c2 := MTextReader.n1
  have c3 := MTextReader.n2
  have c4 := MTextReader.n3
  simp only [start0, len_c, len_n, map_c, map_n, app_c, app_n, rep_0, rep_s, Nat.reduceAdd, Nat.reduceSub]
  decreasing_trivial_pre_omega
  rw [mset_mset, mset_mset]
  exact h2
abbrev sComes : Stmt := inClsN (top 34) 1
theorem scComes : FnScope ["self", "sign"] ["self", "sign"] (defScope sComes) := ⟨rfl, rfl, rfl, by decide +kernel, rfl, by decide +kernel, by decide +kernel⟩
theorem ok_comes {f C : Addr} {fd : FuncData} {k : Nat} (F : Fun K "comes" "TextReader.comes" sComes f fd) (MTextReader : RtC K C) : FnOk P w K mg base CX0 (k + 1) f fd ["self", "sign"] (spD K 2 (tfComes C)) := by
  refine okD F scComes rfl fun cdv A outer s H E hr => ?_
  refine ⟨_, _, (pss_cons (ps_if (pt_cmpR op_ne (pe_slice sl_str (pe_fld (pv 0) (by rfl)) (po_some (pe_fld (pv 0) (by rfl))) (po_some (pe_op op_add (pe_fld (pv 0) (by rfl)) pe_int))) (pv 1) (nomark _)) (pss_one (ps_ret pe_bl)) pss_nil)
    (pss_cons (ps_fldaug (pv 0) pe_int in_add)
    (pss_one (ps_ret pe_bl)))),
    (ss_cons (ss_if (st_test (se_op so_neS (se_sl sl_S (se_fld se_nm) (sp_some (se_fld se_nm)) (sp_some (se_op so_add (se_fld se_nm) se_int))) se_nm)) (ss_ret se_bl) ss_nil)
    (ss_cons (ss_augF so_add se_nm se_int)
    (ss_ret se_bl))), fun ws M R RX hl h => ?_⟩
  obtain ⟨a, t, dx, i, b, sg, rfl, ⟨hM, hi, hz⟩, h2, h3⟩ := h
  have c1 := MTextReader.cls
  have c2 := MTextReader.n1
  have c3 := MTextReader.n2
  have c4 := MTextReader.n3
  simp only [start0, len_c, len_n, map_c, map_n, app_c, app_n, rep_0, rep_s, Nat.reduceAdd, Nat.reduceSub]
  decreasing_trivial_pre_omega
  refine IfB.d (fun c => ?_) (fun c => ?_)
  · have h4 := h2 ((cutS_1 t i sg).mp c)
    have hl := rfF_len (t := t) (i := i) (b := b)
    decreasing_trivial_pre_omega
    refine gp_at ?_
    decreasing_trivial_pre_omega
    exact h4
  · decreasing_trivial_pre_omega
    exact h3 (fun z => c ((cutS_1 t i _).mpr z))
end
end Tl
set_option Elab.async false
set_option linter.all false
set_option maxRecDepth 100000
set_option maxHeartbeats 8000000
namespace Tl
open PySem L2 RZ
local macro_rules
  | `(tactic| decreasing_trivial) => `(tactic| ((with_reducible (conv => whnf)); (repeat ((first | (with_reducible refine exI (by first | exact mset_same | assumption | (rw [mset_ne (by assumption)]; first | exact mset_same | assumption)) ?_) | (with_reducible refine exI2 (by first | exact mset_same | assumption | (rw [mset_ne (by assumption)]; first | exact mset_same | assumption)) ?_) | (with_reducible refine (gO_i lk_txt) ?_) | (with_reducible refine (gO_i lk_at) ?_) | (with_reducible refine (gO_i lk_beg) ?_) | (with_reducible refine gp_at ?_) | (with_reducible refine gp_beg ?_) | (with_reducible refine gDs_c ?_) | (with_reducible refine gDs_n ?_) | (with_reducible refine gNs_c ?_) | (with_reducible refine gNs_n ?_) | (with_reducible refine gO_i tyAny_lt ?_) | (with_reducible refine gIs_c ?_) | (with_reducible refine gIs_n ?_) | (with_reducible refine gBs_c ?_) | (with_reducible refine gBs_n ?_) | (with_reducible refine gSs_c ?_) | (with_reducible refine gSs_n ?_) | (with_reducible refine gO_i tyIs_int ?_) | (with_reducible refine gO_i tyIs_bool ?_) | (with_reducible refine gO_i tyIs_str ?_) | (with_reducible refine gO_i tyIs_tuple ?_) | (with_reducible refine gO_i tyIs_list ?_) | (with_reducible refine gDs_i ?_) | (with_reducible refine gO_i (Eq.refl _) ?_) | (with_reducible refine gO_i (by assumption) ?_) | (with_reducible refine gO_i at_0 ?_) | (with_reducible refine gO_i at_m0 ?_) | (with_reducible refine gO_i at_1 ?_) | (with_reducible refine gO_i at_m1 ?_) | (with_reducible refine gO_i at_2 ?_) | (with_reducible refine gO_i at_m2 ?_) | (with_reducible refine gO_i at_3 ?_) | (with_reducible refine gO_i at_m3 ?_) | (with_reducible refine gO_i at_4 ?_) | (with_reducible refine gO_i at_m4 ?_) | (with_reducible refine gO_i at_5 ?_) | (with_reducible refine gO_i at_m5 ?_) | (with_reducible refine gO_i at_6 ?_) | (with_reducible refine gO_i at_m6 ?_) | (with_reducible refine gO_i at_7 ?_) | (with_reducible refine gO_i at_m7 ?_) | (with_reducible refine IfB.ngf ?_) | (with_reducible refine IfB.ngt ?_) | (with_reducible refine IfB.not ?_) | (with_reducible refine IfB.nil ?_) | (with_reducible refine IfB.nilT ?_) | (with_reducible refine IfB.f isE_c ?_) | (with_reducible refine IfB.t isE_n ?_) | (with_reducible refine IfB.t ?gha ?_; (case gha => rfl)) | (with_reducible refine IfB.f ?gha ?_; (case gha => rfl)) | (with_reducible refine IfB.t ?gha ?_; (case gha => assumption)) | (with_reducible refine IfB.f ?gha ?_; (case gha => assumption)) | (with_reducible refine IfB.yes (Eq.refl _) ?_) | (with_reducible refine IfB.yes ?gha ?_; (case gha => (first | omega | (simp only [len_c, len_n, List.length_map]; omega)))) | (with_reducible refine IfB.no ?gha ?_; (case gha => (first | omega | (simp only [len_c, len_n, List.length_map]; omega)))) | (with_reducible refine IfB.t ?gha ?_; (case gha => decide +kernel)) | (with_reducible refine IfB.f ?gha ?_; (case gha => decide +kernel))); (with_reducible (conv => whnf))))))
local macro_rules
  | `(tactic| decreasing_trivial_pre_omega) => `(tactic| (decreasing_trivial; (repeat ((first | ((with_reducible refine And.intro ?gha ?_); (case gha => (first | assumption | omega | exact rfl | (exact mset_same) | (exact ⟨_, mset_same⟩) | (exact Exists.intro _ (by first | exact mset_same | assumption | (rw [mset_ne (by assumption)]; first | exact mset_same | assumption))) | (exact sm_of (by omega) (by omega)) | (exact sz1000 (by first | omega | (simp; done) | (simp; omega))) | (exact Or.inl ⟨by decide, by decide⟩) | decide | (simp; done) | (refine ⟨?_, ?_⟩ <;> (first | assumption | omega | exact rfl | (exact mset_same) | (exact ⟨_, mset_same⟩) | (exact Exists.intro _ (by first | exact mset_same | assumption | (rw [mset_ne (by assumption)]; first | exact mset_same | assumption))) | (exact sm_of (by omega) (by omega)) | (exact sz1000 (by first | omega | (simp; done) | (simp; omega))) | (exact Or.inl ⟨by decide, by decide⟩) | decide | (simp; done))) | (refine ⟨?_, ?_, ?_⟩ <;> (first | assumption | omega | exact rfl | (exact mset_same) | (exact ⟨_, mset_same⟩) | (exact Exists.intro _ (by first | exact mset_same | assumption | (rw [mset_ne (by assumption)]; first | exact mset_same | assumption))) | (exact sm_of (by omega) (by omega)) | (exact sz1000 (by first | omega | (simp; done) | (simp; omega))) | (exact Or.inl ⟨by decide, by decide⟩) | decide | (simp; done))) | (refine ⟨?_, ?_, ?_, ?_⟩ <;> (first | assumption | omega | exact rfl | (exact mset_same) | (exact ⟨_, mset_same⟩) | (exact Exists.intro _ (by first | exact mset_same | assumption | (rw [mset_ne (by assumption)]; first | exact mset_same | assumption))) | (exact sm_of (by omega) (by omega)) | (exact sz1000 (by first | omega | (simp; done) | (simp; omega))) | (exact Or.inl ⟨by decide, by decide⟩) | decide | (simp; done)))))) | (with_reducible refine exW (by first | exact mset_same | assumption | (rw [mset_ne (by assumption)]; first | exact mset_same | assumption)) ?_)); decreasing_trivial))))
def lettersS : Str := "abcdefghijklmnopqrstuvwxyz"
@[reducible] def tfRdTg (C CT : Addr) : TF := fun ws M R RX => ∃ (a : Addr) (t : Str) (dx : Addr) (i b : Nat), ws = [.r a] ∧ (M a = some (.ins C dx (rfF t i b)) ∧ i ≤ t.cps.toList.length ∧ t.length ≤ 1000) ∧ (¬ tgAt t.cps.toList i = [] → R (.d (.str (Str.mk (tgAt t.cps.toList i).toArray))) (mset M a (.ins C dx (rfF t ((i + (tgAt t.cps.toList i).length : Nat) : Int) b)))) ∧ (tgAt t.cps.toList i = [] → RX ⟨.ref CT, [("at", .int (i : Nat))]⟩ M)
/-- a for with a break -/
theorem for1B {α : Type} {i : Nat} {f : α → W} {keep : Mem → Prop} {body : TDS} {D : EndD} {xs : List α} {ρ : EnvD} {M : Mem} (Pv : Nat → EnvD → Mem → Prop) (C : EnvD → Mem → Prop) (h0 : Pv 0 ρ M) (hk : ∀ i ρ M, i ≤ xs.length → Pv i ρ M → keep M)
    (hs : ∀ j a ρ M (N B : EnvD → Mem → Prop), xs[j]? = some a → Pv j ρ M → (∀ ρ' M', Pv (j + 1) ρ' M' → N ρ' M') → (∀ ρ' M', C ρ' M' → B ρ' M') → body ⟨N, D.rt, B, N⟩ (put ρ i (some (f a))) M) (hd : ∀ ρ M, Pv xs.length ρ M → C ρ M) (hc : ∀ ρ M, C ρ M → D.nx ρ M) : forGo (bName i) keep body D (rows1 (xs.map f)) ρ M :=
  for1 Pv h0 hk (fun j a ρ M N ha p hN => hs j a ρ M N D.nx ha p hN hc) fun ρ M p => hc _ _ (hd _ _ p)
theorem let_small (c : Nat) : decide (c ∈ lettersS.cps.toList) = small c := by
  have e : lettersS.cps.toList = List.range' 97 26 := by decide +kernel
  rw [e, small]
  by_cases h : 97 ≤ c ∧ c ≤ 122
  · rw [decide_eq_true (by rw [List.mem_range'_1]; omega), decide_eq_true h.1, decide_eq_true h.2]; rfl
  · rw [decide_eq_false (by rw [List.mem_range'_1]; omega)]
    by_cases h1 : 97 ≤ c
    · rw [decide_eq_true h1, decide_eq_false (by omega)]; rfl
    · rw [decide_eq_false h1]; rfl
theorem tw_at {p : Nat → Bool} {L : List Nat} {n c : Nat} (hn : L[n]? = some c) (h : ∀ x ∈ L.take n, p x = true) (hc : p c = false) : L.takeWhile p = L.take n := by
  have e : L = L.take n ++ c :: L.drop (n + 1) := by
    obtain ⟨hi, rfl⟩ := List.getElem?_eq_some_iff.mp hn
    rw [← List.drop_eq_getElem_cons hi, List.take_append_drop]
  conv => lhs; rw [e]
  rw [List.takeWhile_append_of_pos h, List.takeWhile_cons_of_neg (by rw [hc]; exact Bool.false_ne_true), List.append_nil]
theorem tw_all {p : Nat → Bool} {L : List Nat} (h : ∀ x ∈ L, p x = true) : L.takeWhile p = L := by
  have := List.takeWhile_append_of_pos (l₂ := []) h
  rw [List.append_nil, List.takeWhile_nil, List.append_nil] at this
  exact this
theorem mset_eta {M : Mem} {a : Addr} {o : MO} (h : M a = some o) : mset M a o = M := by
  funext b
  unfold mset
  by_cases e : b = a
  · rw [if_pos e, e, h]
  · rw [if_neg e]
section
variable {P : Program} {w : World} {K : PySem.W.Frag} {mg : Str → Option Value} {base : Heap}
abbrev sRdTg : Stmt := inClsN (top 34) 3
theorem scRdTg : FnScope ["self", "first", "sign"] ["self"] (defScope sRdTg) := ⟨rfl, rfl, rfl, by decide +kernel, rfl, by decide +kernel, by decide +kernel⟩
theorem ok_rdTg {f C CT : Addr} {fd : FuncData} {k : Nat} (F : Fun K "read_tag" "TextReader.read_tag" sRdTg f fd) (MTextReader : RtC K C) (XTorn : ErF K mg "Torn" "Torn.__init__" "at" sI_Torn CT) (hk : 2 ≤ k) (T : Bl mg) (Cs' : Cs mg) (CL : ∃ t, mg "LETTERS" = some (.str lettersS t)) : FnOk P w K mg base (L2.CX P w) (k + 1) f fd ["self"] (spD K 1 (tfRdTg C CT)) := by
  obtain ⟨fiTorn, fdTorn, iTorn, tTorn, FTorn⟩ := XTorn.i
  have okTorn := okI_Torn (P := P) (w := w) (mg := mg) (base := base) (k := 0) FTorn XTorn.o XTorn.n
  have bTorn := FTorn.binds (ps := ["self", "at"]) fun _ _ _ _ _ _ us hl => match us, hl with | [_, _], _ => rfl
  refine okDX F scRdTg rfl fun cdv A outer s H E hr => ?_
  refine ⟨_, fun RE => _, (pss_cons (ps_set (i := 1) scRdTg.nd rfl (.inl rfl) (pe_fld (pv 0) (by rfl)))
    (pss_cons (ps_for (passes_of rfl) rfl (pi_str (pe_slice sl_str (pe_fld (pv 0) (by rfl)) (po_some (pv 1)) (po_some (pe_op op_add (pv 1) (c_SIGNS Cs'))))) (pg_name (i := 2) scRdTg.nd rfl (.inl rfl)) (pss_cons (ps_if (pt_cmpR op_notIn_sign (pv 2) (c_str CL) (by rfl)) (pss_one ps_break) pss_nil)
      (pss_one (ps_fldaug (pv 0) pe_int in_add))))
    (pss_cons (ps_if (pt_cmpR op_eq (pe_fld (pv 0) (by rfl)) (pv 1) (nomark _)) (pss_one (ps_raise rfl (takes_of (E := E) rfl rfl rfl rfl) (pmk_oex XTorn.o iTorn tTorn okTorn (hr.mono (by omega)) bTorn .nil pass0 (by exact rfl) XTorn.g (pa_cons (pv 1) pa_nil)))) pss_nil)
    (pss_one (ps_ret (pe_slice sl_str (pe_fld (pv 0) (by rfl)) (po_some (pv 1)) (po_some (pe_fld (pv 0) (by rfl))))))))), fun RE => (ss_cons (ss_set (se_fld se_nm))
    (ss_cons (ss_for (si_str (se_sl sl_S (se_fld se_nm) (sp_some se_nm) (sp_some (se_op so_add se_nm se_int)))) sg_name (ss_cons (ss_if (st_test (se_op so_ninS se_nm se_str)) ss_break ss_nil)
      (ss_augF so_add se_nm se_int)))
    (ss_cons (ss_if (st_test (se_op so_eqS (se_fld se_nm) se_nm)) (ss_raiseF (sa_cons se_nm sa_nil)) ss_nil)
    (ss_ret (se_sl sl_S (se_fld se_nm) (sp_some se_nm) (sp_some (se_fld se_nm))))))), fun ws M R RX hl h => ?_⟩
  obtain ⟨a, t, dx, i, b, rfl, ⟨hM, hi, hz⟩, h2, h3⟩ := h
  have c1 := MTextReader.cls
  have c2 := MTextReader.n1
  have c3 := MTextReader.n2
  have c4 := MTextReader.n3
  simp only [start0, len_c, len_n, map_c, map_n, app_c, app_n, rep_0, rep_s, Nat.reduceAdd, Nat.reduceSub]
  decreasing_trivial_pre_omega
  have eS : cutS t (some (i : Int)) (some ((i : Int) + 8)) = Str.mk ((t.cps.toList.drop i).take 8).toArray := by
    have := cutS_mid t i (i + 8)
    rw [show ((i + 8 : Nat) : Int) = (i : Int) + 8 by omega, show i + 8 - i = 8 by omega] at this
    exact this
  rw [eS]
  have eL : tgAt t.cps.toList i = ((t.cps.toList.drop i).take 8).takeWhile small := rfl
  show forGo _ _ _ _ (rows1 (((t.cps.toList.drop i).take 8).map fun c => W.d (.str ⟨#[c]⟩))) _ _
  generalize (t.cps.toList.drop i).take 8 = L at eL
  refine for1B (fun n ρ M' => ∃ y : Option W, ρ = [some (W.r a), some (.d (.int (i : Nat))), y] ∧ M' = mset M a (.ins C dx (rfF t ((i + n : Nat) : Int) b)) ∧ ∀ x ∈ L.take n, small x = true)
    (fun ρ M' => ∃ y : Option W, ρ = [some (W.r a), some (.d (.int (i : Nat))), y] ∧ M' = mset M a (.ins C dx (rfF t ((i + (tgAt t.cps.toList i).length : Nat) : Int) b)))
    ⟨none, rfl, (mset_eta hM).symm, fun x hx => by cases hx⟩ (fun _ _ _ _ _ => trivial) (fun n c ρ M' N B hc pv hN hB => ?_) (fun ρ M' pv => ?_) (fun ρ M' pv => ?_)
  · obtain ⟨y, rfl, rfl, hsm⟩ := pv
    have hMb : mset M a (.ins C dx (rfF t ((i + n : Nat) : Int) b)) a = some (.ins C dx (rfF t ((i + n : Nat) : Int) b)) := mset_same
    have hl := rfF_len (t := t) (i := ((i + n : Nat) : Int)) (b := b)
    decreasing_trivial_pre_omega
    refine ⟨c, rfl, ?_⟩
    rw [let_small]
    cases hcs : small c with
    | false =>
      decreasing_trivial_pre_omega
      exact hB _ _ ⟨_, rfl, by rw [eL, tw_at hc hsm hcs, List.length_take, Nat.min_eq_left (by have := (List.getElem?_eq_some_iff.mp hc).1; omega)]⟩
    | true =>
      decreasing_trivial_pre_omega
      rw [mset_mset]
      refine hN _ _ ⟨_, rfl, by rw [show ((i + n : Nat) : Int) + 1 = ((i + (n + 1) : Nat) : Int) by omega], fun x hx => ?_⟩
      rw [List.take_add_one, hc] at hx
      rcases List.mem_append.mp hx with h | h
      · exact hsm x h
      · cases List.mem_singleton.mp h
        exact hcs
  · obtain ⟨y, rfl, rfl, hsm⟩ := pv
    rw [List.take_length] at hsm
    refine ⟨y, rfl, ?_⟩
    rw [eL, tw_all hsm]
  · obtain ⟨y, rfl, rfl⟩ := pv
    have hMb : mset M a (.ins C dx (rfF t ((i + (tgAt t.cps.toList i).length : Nat) : Int) b)) a = some (.ins C dx (rfF t ((i + (tgAt t.cps.toList i).length : Nat) : Int) b)) := mset_same
    decreasing_trivial_pre_omega
    refine IfB.d (fun c => ?_) (fun c => ?_)
    · have e0 : tgAt t.cps.toList i = [] := List.eq_nil_of_length_eq_zero (by omega)
      have h4 := h3 e0
      rw [e0] at *
      rw [List.length_nil, Nat.add_zero, mset_eta hM]
      decreasing_trivial_pre_omega
      exact h4
    · have h4 := h2 (fun z => c (by rw [z]; rfl))
      decreasing_trivial_pre_omega
      rw [cutS_mid, Nat.add_sub_cancel_left]
      have e5 : (t.cps.toList.drop i).take (tgAt t.cps.toList i).length = tgAt t.cps.toList i := by
        conv => lhs; rw [tg_drop t.cps.toList i]
        rw [List.take_left]
      rw [e5]
      exact h4
end
end Tl
set_option Elab.async false
set_option linter.all false
set_option maxRecDepth 100000
set_option maxHeartbeats 8000000
namespace Tl
open PySem L2 RZ
local macro_rules
  | `(tactic| decreasing_trivial) => `(tactic| ((with_reducible (conv => whnf)); (repeat ((first | (with_reducible refine exI (by first | exact mset_same | assumption | (rw [mset_ne (by assumption)]; first | exact mset_same | assumption)) ?_) | (with_reducible refine exI2 (by first | exact mset_same | assumption | (rw [mset_ne (by assumption)]; first | exact mset_same | assumption)) ?_) | (with_reducible refine (gO_i lk_txt) ?_) | (with_reducible refine (gO_i lk_at) ?_) | (with_reducible refine (gO_i lk_beg) ?_) | (with_reducible refine gp_at ?_) | (with_reducible refine gp_beg ?_) | (with_reducible refine gDs_c ?_) | (with_reducible refine gDs_n ?_) | (with_reducible refine gNs_c ?_) | (with_reducible refine gNs_n ?_) | (with_reducible refine gO_i tyAny_lt ?_) | (with_reducible refine gIs_c ?_) | (with_reducible refine gIs_n ?_) | (with_reducible refine gBs_c ?_) | (with_reducible refine gBs_n ?_) | (with_reducible refine gSs_c ?_) | (with_reducible refine gSs_n ?_) | (with_reducible refine gO_i tyIs_int ?_) | (with_reducible refine gO_i tyIs_bool ?_) | (with_reducible refine gO_i tyIs_str ?_) | (with_reducible refine gO_i tyIs_tuple ?_) | (with_reducible refine gO_i tyIs_list ?_) | (with_reducible refine gDs_i ?_) | (with_reducible refine gO_i (Eq.refl _) ?_) | (with_reducible refine gO_i (by assumption) ?_) | (with_reducible refine gO_i at_0 ?_) | (with_reducible refine gO_i at_m0 ?_) | (with_reducible refine gO_i at_1 ?_) | (with_reducible refine gO_i at_m1 ?_) | (with_reducible refine gO_i at_2 ?_) | (with_reducible refine gO_i at_m2 ?_) | (with_reducible refine gO_i at_3 ?_) | (with_reducible refine gO_i at_m3 ?_) | (with_reducible refine gO_i at_4 ?_) | (with_reducible refine gO_i at_m4 ?_) | (with_reducible refine gO_i at_5 ?_) | (with_reducible refine gO_i at_m5 ?_) | (with_reducible refine gO_i at_6 ?_) | (with_reducible refine gO_i at_m6 ?_) | (with_reducible refine gO_i at_7 ?_) | (with_reducible refine gO_i at_m7 ?_) | (with_reducible refine IfB.ngf ?_) | (with_reducible refine IfB.ngt ?_) | (with_reducible refine IfB.not ?_) | (with_reducible refine IfB.nil ?_) | (with_reducible refine IfB.nilT ?_) | (with_reducible refine IfB.f isE_c ?_) | (with_reducible refine IfB.t isE_n ?_) | (with_reducible refine IfB.t ?gha ?_; (case gha => rfl)) | (with_reducible refine IfB.f ?gha ?_; (case gha => rfl)) | (with_reducible refine IfB.t ?gha ?_; (case gha => assumption)) | (with_reducible refine IfB.f ?gha ?_; (case gha => assumption)) | (with_reducible refine IfB.yes (Eq.refl _) ?_) | (with_reducible refine IfB.yes ?gha ?_; (case gha => (first | omega | (simp only [len_c, len_n, List.length_map]; omega)))) | (with_reducible refine IfB.no ?gha ?_; (case gha => (first | omega | (simp only [len_c, len_n, List.length_map]; omega)))) | (with_reducible refine IfB.t ?gha ?_; (case gha => decide +kernel)) | (with_reducible refine IfB.f ?gha ?_; (case gha => decide +kernel))); (with_reducible (conv => whnf))))))
local macro_rules
  | `(tactic| decreasing_trivial_pre_omega) => `(tactic| (decreasing_trivial; (repeat ((first | ((with_reducible refine And.intro ?gha ?_); (case gha => (first | assumption | omega | exact rfl | (exact mset_same) | (exact ⟨_, mset_same⟩) | (exact Exists.intro _ (by first | exact mset_same | assumption | (rw [mset_ne (by assumption)]; first | exact mset_same | assumption))) | (exact sm_of (by omega) (by omega)) | (exact sz1000 (by first | omega | (simp; done) | (simp; omega))) | (exact Or.inl ⟨by decide, by decide⟩) | decide | (simp; done) | (refine ⟨?_, ?_⟩ <;> (first | assumption | omega | exact rfl | (exact mset_same) | (exact ⟨_, mset_same⟩) | (exact Exists.intro _ (by first | exact mset_same | assumption | (rw [mset_ne (by assumption)]; first | exact mset_same | assumption))) | (exact sm_of (by omega) (by omega)) | (exact sz1000 (by first | omega | (simp; done) | (simp; omega))) | (exact Or.inl ⟨by decide, by decide⟩) | decide | (simp; done))) | (refine ⟨?_, ?_, ?_⟩ <;> (first | assumption | omega | exact rfl | (exact mset_same) | (exact ⟨_, mset_same⟩) | (exact Exists.intro _ (by first | exact mset_same | assumption | (rw [mset_ne (by assumption)]; first | exact mset_same | assumption))) | (exact sm_of (by omega) (by omega)) | (exact sz1000 (by first | omega | (simp; done) | (simp; omega))) | (exact Or.inl ⟨by decide, by decide⟩) | decide | (simp; done))) | (refine ⟨?_, ?_, ?_, ?_⟩ <;> (first | assumption | omega | exact rfl | (exact mset_same) | (exact ⟨_, mset_same⟩) | (exact Exists.intro _ (by first | exact mset_same | assumption | (rw [mset_ne (by assumption)]; first | exact mset_same | assumption))) | (exact sm_of (by omega) (by omega)) | (exact sz1000 (by first | omega | (simp; done) | (simp; omega))) | (exact Or.inl ⟨by decide, by decide⟩) | decide | (simp; done)))))) | (with_reducible refine exW (by first | exact mset_same | assumption | (rw [mset_ne (by assumption)]; first | exact mset_same | assumption)) ?_)); decreasing_trivial))))
@[reducible] def tfRdP (C CT : Addr) (lv : Nat) : TF := fun ws M R RX => ∃ (a : Addr) (t : Str) (dx : Addr) (i b : Nat), ws = [.r a, .d (.int (13 - (lv : Nat)))] ∧ (M a = some (.ins C dx (rfF t i b)) ∧ i ≤ t.cps.toList.length ∧ t.length ≤ 1000 ∧ 1 ≤ lv ∧ lv ≤ 12 ∧ b < 60) ∧ (∀ d i2 b2, rdT t.cps.toList lv i b = .inr (d, i2, b2) → R (.d d) (mset M a (.ins C dx (rfF t (i2 : Nat) (b2 : Nat))))) ∧ (∀ j, rdT t.cps.toList lv i b = .inl j → ∀ b2 : Int, RX ⟨.ref CT, [("at", .int (j : Nat))]⟩ (mset M a (.ins C dx (rfF t (j : Nat) b2))))
theorem mset_swap {M : Mem} {a p : Addr} {x y z : MO} (h : p ≠ a) : mset (mset (mset M a x) p y) a z = mset (mset M a z) p y := by
  funext b
  unfold mset
  by_cases e : b = a
  · subst e
    rw [if_pos rfl, if_neg fun q => h q.symm, if_pos rfl]
  · rw [if_neg e]
    by_cases e2 : b = p
    · rw [if_pos e2, if_pos e2]
    · rw [if_neg e2, if_neg e2, if_neg e, if_neg e]
def joinK (ks : List PyData) : Nat ⊕ (List PyData × Nat × Nat) → Nat ⊕ (List PyData × Nat × Nat)
  | .inl j => .inl j
  | .inr (r, i, due) => .inr (ks ++ r, i, due)
theorem joinK_nil (x : Nat ⊕ (List PyData × Nat × Nat)) : joinK [] x = x := by rcases x with _ | ⟨_, _, _⟩ <;> rfl
theorem joinK_app (a b : List PyData) (x : Nat ⊕ (List PyData × Nat × Nat)) : joinK a (joinK b x) = joinK (a ++ b) x := by
  rcases x with _ | ⟨r, _, _⟩
  · rfl
  · show Sum.inr _ = Sum.inr _
    rw [List.append_assoc]
theorem more_end {cs : List Nat} {f : Nat → Nat → Nat ⊕ (PyData × Nat × Nat)} {n i b : Nat} (hn : 60 ≤ b + n) (h : ¬ (b < 60 ∧ cs[i]? = some 44)) : more cs f n i b = .inr ([], i, b) := by
  cases n with
  | zero => rfl
  | succ n => rw [more, if_neg h]
theorem more_no {cs : List Nat} {f : Nat → Nat → Nat ⊕ (PyData × Nat × Nat)} {n i b j : Nat} (h1 : b < 60) (h2 : cs[i]? = some 44) (h : f (i + 1) b = .inl j) : more cs f (n + 1) i b = .inl j := by rw [more, if_pos ⟨h1, h2⟩, h]
theorem more_yes {cs : List Nat} {f : Nat → Nat → Nat ⊕ (PyData × Nat × Nat)} {n i b i2 b2 : Nat} {d : PyData} (h1 : b < 60) (h2 : cs[i]? = some 44) (h : f (i + 1) b = .inr (d, i2, b2)) : more cs f (n + 1) i b = joinK [d] (more cs f n i2 b2) := by
  rw [more, if_pos ⟨h1, h2⟩, h]
  dsimp only
  rcases more cs f n i2 b2 with _ | ⟨_, _, _⟩ <;> rfl
theorem s40 : Str.ofString "(" = ⟨#[40]⟩ := by decide +kernel
theorem s41 : Str.ofString ")" = ⟨#[41]⟩ := by decide +kernel
theorem s44 : Str.ofString "," = ⟨#[44]⟩ := by decide +kernel
section
variable {P : Program} {w : World} {K : PySem.W.Frag} {mg : Str → Option Value} {base : Heap}
abbrev sRdP : Stmt := inClsN (top 34) 2
theorem scRdP : FnScope ["self", "level", "tag", "kids"] ["self", "level"] (defScope sRdP) := ⟨rfl, rfl, rfl, by decide +kernel, rfl, by decide +kernel, by decide +kernel⟩
theorem ok_rdP1 {f C CT : Addr} {fd : FuncData} {j lv : Nat} (F : Fun K "read_part" "TextReader.read_part" sRdP f fd) (MTextReader : RtC K C) (XTorn : ErF K mg "Torn" "Torn.__init__" "at" sI_Torn CT) (UTextReader_comes : UseM P w K mg base C "comes" ["self", "sign"] j (spD K 2 (tfComes C))) (UTextReader_read_tag : UseMX P w K mg base C "read_tag" ["self"] j (spD K 1 (tfRdTg C CT))) (UTextReader_read_part : UseMX P w K mg base C "read_part" ["self", "level"] (j + lv) (spD K 2 (tfRdP C CT lv))) (hj : 2 ≤ j) (T : Bl mg) (Cs' : Cs mg) : FnOk P w K mg base (L2.CX P w) (j + lv + 1) f fd ["self", "level"] (spD K 2 (tfRdP C CT (lv + 1))) := by
  obtain ⟨fiTorn, fdTorn, iTorn, tTorn, FTorn⟩ := XTorn.i
  have okTorn := okI_Torn (P := P) (w := w) (mg := mg) (base := base) (k := 0) FTorn XTorn.o XTorn.n
  have bTorn := FTorn.binds (ps := ["self", "at"]) fun _ _ _ _ _ _ us hl => match us, hl with | [_, _], _ => rfl
  refine okDXLL F scRdP rfl fun cdv A outer s H E hr => ?_
  refine ⟨_, fun RE => _, (pss_cons (ps_fldaug (pv 0) pe_int in_add)
    (pss_cons (ps_set (i := 2) scRdP.nd rfl (.inl rfl) (pe_methE0 (pv 0) MTextReader.cls UTextReader_read_tag.hm UTextReader_read_tag.ok (hr.mono (by omega)) UTextReader_read_tag.b (fun σ => passAt (takes_of (E := E) rfl rfl rfl rfl) σ)))
    (pss_cons (ps_set (i := 3) scRdP.nd rfl (.inl rfl) (pe_lst pa_nil))
    (pss_cons (ps_if (PW.pt (pw_and (pt_cmpR op_lt (pv 1) (c_DEPTH Cs') (nomark _)) (pw_and (pt_cmpR op_lt (pe_fld (pv 0) (by rfl)) (c_SIZE Cs') (nomark _)) (pw_and1 (pt_val (pe_meth (E := fun _ _ _ => False) (pv 0) MTextReader.cls UTextReader_comes.hm UTextReader_comes.ok (hr.mono (by omega)) UTextReader_comes.b .nil pass0 (pa_cons pe_str pa_nil))))))) (pss_cons (ps_expr (pe_bm PySem.F.plainAttrs_list PySem.F.slot_list_append PySem.F.type_list_append mt_append (pv 3) (pa_cons (pe_methE (pv 0) MTextReader.cls UTextReader_read_part.hm UTextReader_read_part.ok (hr.mono (by omega)) UTextReader_read_part.b (fun σ => passAt (takes_of (E := E) rfl rfl rfl rfl) σ) (pa_cons (pe_op op_add (pv 1) pe_int) pa_nil)) pa_nil)))
      (pss_cons (ps_while (passes_of rfl) (PW.pt (pw_and (pt_cmpR op_lt (pe_fld (pv 0) (by rfl)) (c_SIZE Cs') (nomark _)) (pw_and1 (pt_val (pe_meth (E := fun _ _ _ => False) (pv 0) MTextReader.cls UTextReader_comes.hm UTextReader_comes.ok (hr.mono (by omega)) UTextReader_comes.b .nil pass0 (pa_cons pe_str pa_nil)))))) (pss_one (ps_expr (pe_bm PySem.F.plainAttrs_list PySem.F.slot_list_append PySem.F.type_list_append mt_append (pv 3) (pa_cons (pe_methE (pv 0) MTextReader.cls UTextReader_read_part.hm UTextReader_read_part.ok (hr.mono (by omega)) UTextReader_read_part.b (fun σ => passAt (takes_of (E := E) rfl rfl rfl rfl) σ) (pa_cons (pe_op op_add (pv 1) pe_int) pa_nil)) pa_nil)))))
      (pss_one (ps_if (pt_not (pt_val (pe_meth (E := fun _ _ _ => False) (pv 0) MTextReader.cls UTextReader_comes.hm UTextReader_comes.ok (hr.mono (by omega)) UTextReader_comes.b .nil pass0 (pa_cons pe_str pa_nil)))) (pss_one (ps_raise rfl (takes_of (E := E) rfl rfl rfl rfl) (pmk_oex XTorn.o iTorn tTorn okTorn (hr.mono (by omega)) bTorn .nil pass0 (by exact rfl) XTorn.g (pa_cons (pe_fld (pv 0) (by rfl)) pa_nil)))) pss_nil)))) pss_nil)
    (pss_one (ps_ret (pe_tup (pa_cons (pv 2) (pa_cons (pe_callTy call_tuple_of (by rfl) T.tuple PyProof.Rows.boot_tuple (pa_cons (pv 3) pa_nil)) pa_nil))))))))), fun RE => (ss_cons (ss_augF so_add se_nm se_int)
    (ss_cons (ss_set (se_methX se_nm sa_nil))
    (ss_cons (ss_set (se_lst sa_nil))
    (ss_cons (ss_if (st_and (st_test (se_op so_lt se_nm se_int)) (st_and (st_test (se_op so_lt (se_fld se_nm) se_int)) (st_val (se_meth se_nm (sa_cons se_str sa_nil))))) (ss_cons (ss_drop (se_bmL sm_append se_nm (sa_cons (se_methX se_nm (sa_cons (se_op so_add se_nm se_int) sa_nil)) sa_nil)))
      (ss_cons (ss_while (st_and (st_test (se_op so_lt (se_fld se_nm) se_int)) (st_val (se_meth se_nm (sa_cons se_str sa_nil)))) (ss_drop (se_bmL sm_append se_nm (sa_cons (se_methX se_nm (sa_cons (se_op so_add se_nm se_int) sa_nil)) sa_nil))))
      (ss_if (st_not (st_val (se_meth se_nm (sa_cons se_str sa_nil)))) (ss_raiseF (sa_cons (se_fld se_nm) sa_nil)) ss_nil))) ss_nil)
    (ss_ret (se_tup (sa_cons se_nm (sa_cons (se_cb sc_tuple (sa_cons se_nm sa_nil)) sa_nil)))))))), fun ws M R RX hl h => ?_⟩
  obtain ⟨a, t, dx, i, b, rfl, ⟨hM, hi, hz, _, hlv, hb⟩, h2, h3⟩ := h
  have c1 := MTextReader.cls
  have c2 := MTextReader.n2
  have c3 := MTextReader.n3
  have hl := rfF_len (t := t) (i := i) (b := b)
  simp only [start0, len_c, len_n, map_c, map_n, app_c, app_n, rep_0, rep_s, Nat.reduceAdd, Nat.reduceSub]
  decreasing_trivial_pre_omega
  rw [show (b : Int) + 1 = ((b + 1 : Nat) : Int) by omega]
  rw [rdT] at h2 h3
  refine ⟨a, t, dx, i, b + 1, rfl, ⟨mset_same, hi, hz⟩, fun hne => ?_, fun he => ?_⟩
  · rw [if_neg hne] at h2 h3
    rw [mset_mset]
    have hin := tg_in (i := i) hi
    generalize htg : tgAt t.cps.toList i = tg at h2 h3 hin hne
    decreasing_trivial_pre_omega
    intro p hp
    have hpa : p ≠ a := fun z => by rw [z, mset_same] at hp; cases hp
    have hMp : M p = none := by rw [mset_ne hpa] at hp; exact hp
    have hap : a ≠ p := fun z => hpa z.symm
    have drop : ∀ (x : MO) (Q : MO) q o, mset M a x q = some o → mset (mset M a x) p Q q = some o := fun x Q q o h => by rw [mset_ne (fun z => by rw [z, mset_ne hpa, hMp] at h; cases h)]; exact h
    have hMa : ∀ x Q, mset (mset M a x) p Q a = some x := fun x Q => by rw [mset_ne hap]; exact mset_same
    have hMb := hMa (.ins C dx (rfF t ((i + tg.length : Nat) : Int) ((b + 1 : Nat) : Int))) (.lst [])
    have hno : ¬ (¬ lv = 0 ∧ b + 1 < 60 ∧ t.cps.toList[i + tg.length]? = some 40) → R (.d (nodeT tg [])) (mset M a (.ins C dx (rfF t ((i + tg.length : Nat) : Int) ((b + 1 : Nat) : Int)))) := fun c => by
      rw [if_neg c] at h2
      exact h2 _ _ _ rfl
    decreasing_trivial_pre_omega
    refine IfB.d (fun c => ?_) (fun c => ?_)
    · have hlv0 : ¬ lv = 0 := by omega
      decreasing_trivial_pre_omega
      refine IfB.d (fun cb => ?_) (fun cb => ?_)
      · have hb1 : b + 1 < 60 := by omega
        decreasing_trivial_pre_omega
        refine ⟨a, t, dx, i + tg.length, b + 1, 40, by rw [s40], ⟨hMb, hin, hz⟩, fun hc => ?_, fun hc => ?_⟩
        · rw [if_pos ⟨hlv0, hb1, hc⟩] at h2 h3
          rw [mset_swap hpa]
          have hi1 := (List.getElem?_eq_some_iff.mp hc).1
          have hMc := hMa (.ins C dx (rfF t ((i + tg.length + 1 : Nat) : Int) ((b + 1 : Nat) : Int))) (.lst [])
          decreasing_trivial_pre_omega
          refine ⟨a, t, dx, i + tg.length + 1, b + 1, by dsimp only; rw [show (13 - ((lv + 1 : Nat) : Int) + 1) = 13 - (lv : Int) by omega], ⟨hMc, by omega, hz, by omega, by omega, by omega⟩, fun k i2 b2 hk => ?_, fun jj hk b2 => ?_⟩
          · rw [hk] at h2 h3
            dsimp only at h2 h3
            obtain ⟨k1, k2, k3, k4, k5⟩ := rdT_ok (by omega) hb1 hk
            rw [mset_swap hpa]
            decreasing_trivial_pre_omega
            rw [mset_mset]
            refine ⟨fun n ρ M' => ∃ (ks : List PyData) (i' b' : Nat), ρ = [some (W.r a), some (.d (.int (13 - ((lv + 1 : Nat) : Int)))), some (.d (.str (Str.mk tg.toArray))), some (.r p)] ∧ M' = mset (mset M a (.ins C dx (rfF t (i' : Nat) (b' : Nat)))) p (.lst ((k :: ks).map W.d)) ∧ (i' ≤ t.cps.toList.length ∧ b' ≤ 60 ∧ 60 ≤ b' + n ∧ ks.length ≤ b') ∧ more t.cps.toList (rdT t.cps.toList lv) 60 i2 b2 = joinK ks (more t.cps.toList (rdT t.cps.toList lv) n i' b'), ⟨60, [], i2, b2, rfl, rfl, ⟨k5, k4, by omega, by simp⟩, by rw [joinK_nil]⟩, fun n ρ M' pv => ?_⟩
            obtain ⟨ks, i', b', rfl, rfl, ⟨w1, w2, w3, w4⟩, w5⟩ := pv
            have hMd := hMa (.ins C dx (rfF t (i' : Nat) (b' : Nat))) (.lst ((k :: ks).map W.d))
            have hend : ¬ (b' < 60 ∧ t.cps.toList[i']? = some 44) → (t.cps.toList[i']? = some 41 → R (.d (nodeT tg (k :: ks))) (mset M a (.ins C dx (rfF t ((i' + 1 : Nat) : Int) (b' : Nat))))) ∧ (¬ t.cps.toList[i']? = some 41 → ∀ b5 : Int, RX ⟨.ref CT, [("at", .int (i' : Nat))]⟩ (mset M a (.ins C dx (rfF t (i' : Nat) b5)))) := fun q => by
              rw [more_end w3 q] at w5
              rw [w5] at h2 h3
              dsimp only [joinK] at h2 h3
              rw [List.append_nil] at h2
              refine ⟨fun z => ?_, fun z => ?_⟩
              · rw [if_pos z] at h2
                exact h2 _ _ _ rfl
              · rw [if_neg z] at h3
                exact h3 _ rfl
            decreasing_trivial_pre_omega
            refine IfB.d (fun cb => ?_) (fun cb => ?_)
            · have hb2 : b' < 60 := by omega
              decreasing_trivial_pre_omega
              refine ⟨a, t, dx, i', b', 44, by rw [s44], ⟨hMd, w1, hz⟩, fun hc => ?_, fun hc => ?_⟩
              · rw [mset_swap hpa]
                have hi2 := (List.getElem?_eq_some_iff.mp hc).1
                have hMe := hMa (.ins C dx (rfF t ((i' + 1 : Nat) : Int) (b' : Nat))) (.lst ((k :: ks).map W.d))
                have hszk : ((k :: ks).map W.d).length < sizeLine := by
                  rw [List.length_map, List.length_cons]
                  exact small1000 (by omega)
                obtain ⟨n, rfl⟩ : ∃ n', n = n' + 1 := ⟨n - 1, by omega⟩
                decreasing_trivial_pre_omega
                refine ⟨a, t, dx, i' + 1, b', by dsimp only; rw [show (13 - ((lv + 1 : Nat) : Int) + 1) = 13 - (lv : Int) by omega], ⟨hMe, by omega, hz, by omega, by omega, hb2⟩, fun d i4 b4 hd => ?_, fun jj hd b4 => ?_⟩
                · obtain ⟨d1, d2, d3, d4, d5⟩ := rdT_ok (by omega) hb2 hd
                  have hp1 := nn_pos d
                  rw [mset_swap hpa]
                  decreasing_trivial_pre_omega
                  rw [mset_mset]
                  refine ⟨n, by omega, ks ++ [d], i4, b4, rfl, by rw [← List.cons_append, List.map_append]; rfl, ⟨d5, d4, by omega, by rw [List.length_append, List.length_singleton]; omega⟩, ?_⟩
                  rw [w5, more_yes hb2 hc hd, joinK_app]
                · rw [w5, more_no hb2 hc hd] at h3
                  have h4 := h3 jj rfl b4
                  rw [mset_swap hpa]
                  exact ⟨_, fun q o h => drop _ _ q o h, h4⟩
              · obtain ⟨u1, u2⟩ := hend (fun z => hc z.2)
                decreasing_trivial_pre_omega
                refine ⟨a, t, dx, i', b', 41, by rw [s41], ⟨hMd, w1, hz⟩, fun hc9 => ?_, fun hc9 => ?_⟩
                · rw [mset_swap hpa]
                  have hMf := hMa (.ins C dx (rfF t ((i' + 1 : Nat) : Int) (b' : Nat))) (.lst ((k :: ks).map W.d))
                  decreasing_trivial_pre_omega
                  exact ⟨_, fun q o h => drop _ _ q o h, u1 hc9⟩
                · decreasing_trivial_pre_omega
                  exact ⟨_, fun q o h => drop _ _ q o h, u2 hc9 _⟩
            · obtain ⟨u1, u2⟩ := hend (fun z => cb (by omega))
              decreasing_trivial_pre_omega
              refine ⟨a, t, dx, i', b', 41, by rw [s41], ⟨hMd, w1, hz⟩, fun hc9 => ?_, fun hc9 => ?_⟩
              · rw [mset_swap hpa]
                have hMf := hMa (.ins C dx (rfF t ((i' + 1 : Nat) : Int) (b' : Nat))) (.lst ((k :: ks).map W.d))
                decreasing_trivial_pre_omega
                exact ⟨_, fun q o h => drop _ _ q o h, u1 hc9⟩
              · decreasing_trivial_pre_omega
                exact ⟨_, fun q o h => drop _ _ q o h, u2 hc9 _⟩
          · rw [hk] at h3
            have h4 := h3 jj rfl b2
            rw [mset_swap hpa]
            exact ⟨_, fun q o h => drop _ _ q o h, h4⟩
        · decreasing_trivial_pre_omega
          have h4 := hno (fun z => hc z.2.2)
          exact ⟨_, fun q o h => drop _ _ q o h, h4⟩
      · decreasing_trivial_pre_omega
        have h4 := hno (fun z => cb (by omega))
        exact ⟨_, fun q o h => drop _ _ q o h, h4⟩
    · decreasing_trivial_pre_omega
      have h4 := hno (fun z => c (by omega))
      exact ⟨_, fun q o h => drop _ _ q o h, h4⟩
  · rw [if_pos he] at h3
    have h4 := h3 i rfl ((b + 1 : Nat) : Int)
    exact ⟨_, fun _ _ h => h, h4⟩
theorem ok_rdP {f C CT : Addr} {fd : FuncData} {j : Nat} (F : Fun K "read_part" "TextReader.read_part" sRdP f fd) (hm : L2.Meth K C "read_part" f) (MTextReader : RtC K C) (XTorn : ErF K mg "Torn" "Torn.__init__" "at" sI_Torn CT) (U1 : UseM P w K mg base C "comes" ["self", "sign"] j (spD K 2 (tfComes C))) (U2 : UseMX P w K mg base C "read_tag" ["self"] j (spD K 1 (tfRdTg C CT))) (hj : 2 ≤ j) (T : Bl mg) (Cs' : Cs mg) : ∀ lv, FnOk P w K mg base (L2.CX P w) (j + lv) f fd ["self", "level"] (spD K 2 (tfRdP C CT lv))
  | 0 => no0 fun ws M R RX ⟨_, _, _, _, _, _, ⟨_, _, _, h, _⟩, _⟩ => by omega
  | lv + 1 => ok_rdP1 F MTextReader XTorn U1 U2 ⟨f, fd, ok_rdP F hm MTextReader XTorn U1 U2 hj T Cs' lv, hm, F.binds (ps := ["self", "level"]) fun _ _ _ _ _ _ us hl => match us, hl with | [_, _], _ => rfl⟩ hj T Cs'
end
end Tl
set_option Elab.async false
set_option linter.all false
set_option maxRecDepth 100000
set_option maxHeartbeats 4000000
/-! The text of a tree: how long, and as a join. -/
namespace Tl
open PySem L2
mutual
theorem txS_len : ∀ {n : Nat} {d : PyData}, TrT n d → (txS d).length + 3 ≤ 11 * nn d
  | 0, _, h => h.elim
  | n + 1, d, h => by
    obtain ⟨s, ks, rfl, ht, hk⟩ := h
    obtain ⟨h1, h2, _⟩ := tag_let ht
    have e : s.cps.toList.length = s.length := by rw [Array.length_toList]; rfl
    match ks, hk with
    | [], _ => rw [txS, nn, e]; omega
    | k :: ks, hk =>
      have a1 := txS_len (hk k (.head _))
      have a2 := txA_len fun x hx => hk x (.tail _ hx)
      rw [txS, nn, nnAll, List.length_append, List.length_cons, List.length_append, List.length_append, List.length_singleton, e]
      omega
theorem txA_len : ∀ {n : Nat} {ks : List PyData}, (∀ k ∈ ks, TrT n k) → (txA ks).length ≤ 11 * nnAll ks
  | _, [], _ => Nat.zero_le _
  | n, k :: ks, h => by
    have h1 := txS_len (h k (.head _))
    have h2 := txA_len fun x hx => h x (.tail _ hx)
    have h3 := nn_pos k
    rw [txA, nnAll, List.length_cons, List.length_append]
    omega
end
end Tl
set_option Elab.async false
set_option linter.all false
set_option maxRecDepth 100000
set_option maxHeartbeats 4000000
/-! x is True, x is not True, of truths. -/
set_option Elab.async false
set_option linter.all false
set_option maxRecDepth 100000
set_option maxHeartbeats 4000000
/-! Errors that leave a def and are caught by a suite that raises itself: the def's promise under L2N.CX. -/
namespace Tl
open PySem PySem.Spec PyProof.Rows L2
section
variable {P : Program} {w : World} {K : PySem.W.Frag} {mg : Str → Option Value} {base : Heap}
theorem ok_ofN {k : Nat} {f : Addr} {fd : FuncData} {ps : List Str} {sp : Sp} (F : FnOk P w K mg base (L2N.CX P w) k f fd ps sp) : FnOk P w K mg base (L2.CX P w) k f fd ps sp :=
  ⟨F.len, fun A outer s H args us vs Q E hr he hb hv hs => codeAny_mono (F.run A outer s H args us vs Q E hr he hb hv hs) fun r s' h => by
    cases r with
    | ok fl => cases fl <;> exact h
    | error e =>
      obtain ⟨a, B, H', cls, d, e1, fl, z⟩ := h
      exact ⟨a, B, H', cls, d, e1, L2H.flyingZ_imp (fun _ => L2N.Zn.zc) fl, z⟩⟩
structure UseN (P : Program) (w : World) (K : PySem.W.Frag) (mg : Str → Option Value) (base : Heap) (x : Str) (ps : List Str) (k : Nat) (sp : Sp) where
  f : Addr
  fd : FuncData
  ok : FnOk P w K mg base (L2N.CX P w) k f fd ps sp
  m : mg x = some (.ref f)
  kp : PySem.W.keepIn K (.ref f) = true
  b : Binds K fd ps []
def UseN.up {x : Str} {ps : List Str} {j k : Nat} {sp : Sp} (U : UseN P w K mg base x ps j sp) (h : j ≤ k) : UseN P w K mg base x ps k sp := ⟨U.f, U.fd, U.ok.mono h, U.m, U.kp, U.b⟩
def UseN.x {x : Str} {ps : List Str} {k : Nat} {sp : Sp} (U : UseN P w K mg base x ps k sp) : UseX P w K mg base x ps k sp := ⟨U.f, U.fd, ok_ofN U.ok, U.m, U.kp, U.b⟩
end
end Tl
set_option Elab.async false
set_option linter.all false
set_option maxRecDepth 100000
set_option maxHeartbeats 4000000
/-! count and index of True in a list of truths; a held error's field, whatever its class. -/
set_option Elab.async false
set_option linter.all false
set_option maxRecDepth 100000
set_option maxHeartbeats 8000000
namespace Tl
open PySem L2 RZ
local macro_rules
  | `(tactic| decreasing_trivial) => `(tactic| ((with_reducible (conv => whnf)); (repeat ((first | (with_reducible refine exI (by first | exact mset_same | assumption | (rw [mset_ne (by assumption)]; first | exact mset_same | assumption)) ?_) | (with_reducible refine exI2 (by first | exact mset_same | assumption | (rw [mset_ne (by assumption)]; first | exact mset_same | assumption)) ?_) | (with_reducible refine (gO_i lk_txt) ?_) | (with_reducible refine (gO_i lk_at) ?_) | (with_reducible refine (gO_i lk_beg) ?_) | (with_reducible refine gp_at ?_) | (with_reducible refine gp_beg ?_) | (with_reducible refine gDs_c ?_) | (with_reducible refine gDs_n ?_) | (with_reducible refine gNs_c ?_) | (with_reducible refine gNs_n ?_) | (with_reducible refine gO_i tyAny_lt ?_) | (with_reducible refine gIs_c ?_) | (with_reducible refine gIs_n ?_) | (with_reducible refine gBs_c ?_) | (with_reducible refine gBs_n ?_) | (with_reducible refine gSs_c ?_) | (with_reducible refine gSs_n ?_) | (with_reducible refine gO_i tyIs_int ?_) | (with_reducible refine gO_i tyIs_bool ?_) | (with_reducible refine gO_i tyIs_str ?_) | (with_reducible refine gO_i tyIs_tuple ?_) | (with_reducible refine gO_i tyIs_list ?_) | (with_reducible refine gDs_i ?_) | (with_reducible refine gO_i (Eq.refl _) ?_) | (with_reducible refine gO_i (by assumption) ?_) | (with_reducible refine gO_i at_0 ?_) | (with_reducible refine gO_i at_m0 ?_) | (with_reducible refine gO_i at_1 ?_) | (with_reducible refine gO_i at_m1 ?_) | (with_reducible refine gO_i at_2 ?_) | (with_reducible refine gO_i at_m2 ?_) | (with_reducible refine gO_i at_3 ?_) | (with_reducible refine gO_i at_m3 ?_) | (with_reducible refine gO_i at_4 ?_) | (with_reducible refine gO_i at_m4 ?_) | (with_reducible refine gO_i at_5 ?_) | (with_reducible refine gO_i at_m5 ?_) | (with_reducible refine gO_i at_6 ?_) | (with_reducible refine gO_i at_m6 ?_) | (with_reducible refine gO_i at_7 ?_) | (with_reducible refine gO_i at_m7 ?_) | (with_reducible refine IfB.ngf ?_) | (with_reducible refine IfB.ngt ?_) | (with_reducible refine IfB.not ?_) | (with_reducible refine IfB.nil ?_) | (with_reducible refine IfB.nilT ?_) | (with_reducible refine IfB.f isE_c ?_) | (with_reducible refine IfB.t isE_n ?_) | (with_reducible refine IfB.t ?gha ?_; (case gha => rfl)) | (with_reducible refine IfB.f ?gha ?_; (case gha => rfl)) | (with_reducible refine IfB.t ?gha ?_; (case gha => assumption)) | (with_reducible refine IfB.f ?gha ?_; (case gha => assumption)) | (with_reducible refine IfB.yes (Eq.refl _) ?_) | (with_reducible refine IfB.yes ?gha ?_; (case gha => (first | omega | (simp only [len_c, len_n, List.length_map]; omega)))) | (with_reducible refine IfB.no ?gha ?_; (case gha => (first | omega | (simp only [len_c, len_n, List.length_map]; omega)))) | (with_reducible refine IfB.t ?gha ?_; (case gha => decide +kernel)) | (with_reducible refine IfB.f ?gha ?_; (case gha => decide +kernel))); (with_reducible (conv => whnf))))))
local macro_rules
  | `(tactic| decreasing_trivial_pre_omega) => `(tactic| (decreasing_trivial; (repeat ((first | ((with_reducible refine And.intro ?gha ?_); (case gha => (first | assumption | omega | exact rfl | (exact mset_same) | (exact ⟨_, mset_same⟩) | (exact Exists.intro _ (by first | exact mset_same | assumption | (rw [mset_ne (by assumption)]; first | exact mset_same | assumption))) | (exact sm_of (by omega) (by omega)) | (exact sz1000 (by first | omega | (simp; done) | (simp; omega))) | (exact Or.inl ⟨by decide, by decide⟩) | decide | (simp; done) | (refine ⟨?_, ?_⟩ <;> (first | assumption | omega | exact rfl | (exact mset_same) | (exact ⟨_, mset_same⟩) | (exact Exists.intro _ (by first | exact mset_same | assumption | (rw [mset_ne (by assumption)]; first | exact mset_same | assumption))) | (exact sm_of (by omega) (by omega)) | (exact sz1000 (by first | omega | (simp; done) | (simp; omega))) | (exact Or.inl ⟨by decide, by decide⟩) | decide | (simp; done))) | (refine ⟨?_, ?_, ?_⟩ <;> (first | assumption | omega | exact rfl | (exact mset_same) | (exact ⟨_, mset_same⟩) | (exact Exists.intro _ (by first | exact mset_same | assumption | (rw [mset_ne (by assumption)]; first | exact mset_same | assumption))) | (exact sm_of (by omega) (by omega)) | (exact sz1000 (by first | omega | (simp; done) | (simp; omega))) | (exact Or.inl ⟨by decide, by decide⟩) | decide | (simp; done))) | (refine ⟨?_, ?_, ?_, ?_⟩ <;> (first | assumption | omega | exact rfl | (exact mset_same) | (exact ⟨_, mset_same⟩) | (exact Exists.intro _ (by first | exact mset_same | assumption | (rw [mset_ne (by assumption)]; first | exact mset_same | assumption))) | (exact sm_of (by omega) (by omega)) | (exact sz1000 (by first | omega | (simp; done) | (simp; omega))) | (exact Or.inl ⟨by decide, by decide⟩) | decide | (simp; done)))))) | (with_reducible refine exW (by first | exact mset_same | assumption | (rw [mset_ne (by assumption)]; first | exact mset_same | assumption)) ?_)); decreasing_trivial))))
@[reducible] def tfTxW (n : Nat) : TF := fun ws M R _ => g1 ws fun x => gD x fun d => (TrT n d ∧ nn d ≤ 60) ∧ R (.d (.str (Str.mk (txS d).toArray))) M
theorem joinL_tx : ∀ (k : PyData) (ks : List PyData), TL.joinL [44] ((k :: ks).map txS) = txS k ++ txA ks
  | k, [] => by rw [txA, List.append_nil]; rfl
  | k, k2 :: ks => by
    have ih := joinL_tx k2 ks
    have e : TL.joinL [44] ((k :: k2 :: ks).map txS) = txS k ++ ([44] ++ TL.joinL [44] ((k2 :: ks).map txS)) := rfl
    rw [e, ih, txA]
    rfl
theorem join_tx (k : PyData) (ks : List PyData) : Txt.join (⟨#[44]⟩ : Str) ((k :: ks).map fun d => Str.mk (txS d).toArray) = Str.mk (txS k ++ txA ks).toArray := by
  rw [TL.join_eq]
  have h := TL.tl_join (⟨#[44]⟩ : Str) ((k :: ks).map fun d => Str.mk (txS d).toArray)
  rw [List.map_map] at h
  have h2 : TL.joinL (TL.tl (⟨#[44]⟩ : Str)) ((k :: ks).map (TL.tl ∘ fun d => Str.mk (txS d).toArray)) = TL.joinL [44] ((k :: ks).map txS) := rfl
  rw [h2, joinL_tx] at h
  have h3 : (Str.join ⟨#[44]⟩ ((k :: ks).map fun d => Str.mk (txS d).toArray)).cps.toList = txS k ++ txA ks := h
  rw [← h3]
theorem sum_tx : ∀ ks : List PyData, ((ks.map fun d => Str.mk (txS d).toArray).map fun x => x.length).sum + ks.length = (txA ks).length
  | [] => rfl
  | k :: ks => by
    have ih := sum_tx ks
    have e : (Str.mk (txS k).toArray).length = (txS k).length := by show (txS k).toArray.size = _; simp
    rw [txA, List.map_cons, List.map_cons, List.sum_cons, List.length_cons, List.length_cons, List.length_append, e]
    omega
theorem len_mk (l : List Nat) : (Str.mk l.toArray).length = l.length := by show l.toArray.size = _; simp
theorem mk_app (a b : List Nat) : (Str.mk a.toArray) ++ (Str.mk b.toArray) = Str.mk (a ++ b).toArray := by
  show Str.mk (a.toArray ++ b.toArray) = _
  simp
section
variable {P : Program} {w : World} {K : PySem.W.Frag} {mg : Str → Option Value} {base : Heap}
abbrev sTxW : Stmt := top 29
theorem scTxW : FnScope ["tree", "tag", "kids", "kid"] ["tree"] (defScope sTxW) := ⟨rfl, rfl, rfl, by decide +kernel, rfl, by decide +kernel, by decide +kernel⟩
theorem ok_txW1 {f : Addr} {fd : FuncData} {n : Nat} (F : Fun K "text_within" "text_within" sTxW f fd) (Utext_within : Use P w K mg base "text_within" ["tree"] n (spD K 1 (tfTxW n))) (T : Bl mg) : FnOk P w K mg base CX0 (n + 1) f fd ["tree"] (spD K 1 (tfTxW (n + 1))) := by
  refine okD F scTxW rfl fun cdv A outer s H E hr => ?_
  refine ⟨_, _, (pss_cons (ps_asg (pv 0) (pg_tup rfl (pgs_cons (pg_name (i := 1) scTxW.nd rfl (.inl rfl)) (pgs_cons (pg_name (i := 2) scTxW.nd rfl (.inl rfl)) pgs_nil))))
    (pss_cons (ps_if (pt_cmpR op_eq (pe_callB call_len_seq (by rfl) T.len PySem.boot_len (pa_cons (pv 2) pa_nil)) pe_int (nomark _)) (pss_one (ps_ret (pv 1))) pss_nil)
    (pss_one (ps_ret (pe_op op_add_str (pe_op op_add_str (pe_op op_add_str (pv 1) pe_str) (pe_join pe_str (pe_lc (own := [("kid", 3)]) (g := gName 3) (tt := tYes) (by rfl) scTxW.nd (pi_tup (pv 2)) (blkOk_by (N := ["tree", "tag", "kids", "kid"]) (sc := defScope sTxW) (own := [("kid", 3)]) (by decide +kernel)) (fun _ _ _ _ _ => pg_name (i := 3) scTxW.nd rfl (Or.inl rfl)) (fun _ _ _ _ _ => pts_nil) (fun _ _ _ _ _ => (pe_call Utext_within.ok (hr.mono (by omega)) rfl Utext_within.m Utext_within.kp Utext_within.b .nil pass0 (pa_cons (pv 3) pa_nil)))))) pe_str))))),
    (ss_cons (ss_unp sg_tup2 se_nm)
    (ss_cons (ss_if (st_test (se_op so_eqS (se_cb sc_len (sa_cons se_nm sa_nil)) se_int)) (ss_ret se_nm) ss_nil)
    (ss_ret (se_op so_addS (se_op so_addS (se_op so_addS se_nm se_str) (se_join se_str (se_lcF (si_tup se_nm) sg_name st_yes (se_call (sa_cons se_nm sa_nil))))) se_str)))), fun ws M R RX hl h => ?_⟩
  obtain ⟨x, rfl, h1⟩ := g1_of h
  obtain ⟨d, rfl, ⟨ht, hn⟩, h2⟩ := gD_of h1
  obtain ⟨s, ks, rfl, htg, hk⟩ := ht
  obtain ⟨l1, l2, _⟩ := tag_let htg
  simp only [start0, len_c, len_n, map_c, map_n, app_c, app_n, rep_0, rep_s, Nat.reduceAdd, Nat.reduceSub]
  decreasing_trivial_pre_omega
  cases ks with
  | nil =>
    refine IfB.t rfl ?_
    decreasing_trivial_pre_omega
    exact h2
  | cons k ks =>
    refine IfB.f (by rw [decide_eq_false]; simp; omega) ?_
    have hx := txS_len (show TrT (n + 1) (.tuple [.str s, .tuple (k :: ks)]) from ⟨s, k :: ks, rfl, htg, hk⟩)
    have hk2 := len_nnA (k :: ks)
    have es : s.cps.toList.length = s.length := by rw [Array.length_toList]; rfl
    rw [nn] at hn
    rw [nn] at hx
    rw [txS, List.length_append, List.length_cons, List.length_append, List.length_append, List.length_singleton, es] at hx
    have hsl : 5000 ≤ sizeLine := by decide
    have q1 : s.length + (Str.ofString "(").length ≤ sizeLine := by rw [s40]; show s.length + 1 ≤ _; omega
    decreasing_trivial_pre_omega
    refine lc1F (k := fun _ => True) (b := bName 3) (fun d => .str (Str.mk (txS d).toArray)) trivial (fun d hm Rk q => ?_) (sz1000 (by simp at hk2 ⊢; omega)) ?_
    · have t1 := hk d hm
      have t2 := nn_memA hm
      decreasing_trivial_pre_omega
      exact q
    · decreasing_trivial_pre_omega
      have hsum := sum_tx (k :: ks)
      have e9 : (txA (k :: ks)).length = 1 + ((txS k).length + (txA ks).length) := by rw [txA, List.length_cons, List.length_append]; omega
      rw [e9] at hsum
      have e1 : (Str.mk (txS k ++ txA ks).toArray).length = (txS k).length + (txA ks).length := by show (txS k ++ txA ks).toArray.size = _; simp
      refine .mk ((k :: ks).map fun d => Str.mk (txS d).toArray) (by rw [List.map_map, List.map_map]; rfl) ⟨?_, ?_⟩
      · rw [List.length_map, s44]
        show _ + (k :: ks).length * 1 ≤ _
        omega
      · rw [s44, s40, s41, join_tx]
        have e2 : (s ++ (⟨#[40]⟩ : Str)) = Str.mk (s.cps.toList ++ [40]).toArray := mk_app s.cps.toList [40]
        rw [e2]
        have e3 : (Str.mk (s.cps.toList ++ [40]).toArray).length = s.length + 1 := by rw [len_mk, List.length_append, es]; rfl
        have q2 : (Str.mk (s.cps.toList ++ [40]).toArray).length + (Str.mk (txS k ++ txA ks).toArray).length ≤ sizeLine := by rw [e1, e3]; omega
        decreasing_trivial_pre_omega
        rw [mk_app]
        have e4 : (Str.mk ((s.cps.toList ++ [40]) ++ (txS k ++ txA ks)).toArray).length = s.length + 1 + ((txS k).length + (txA ks).length) := by rw [len_mk, List.length_append, List.length_append, List.length_append, es]; rfl
        refine ⟨by rw [e4]; show _ + 1 ≤ _; omega, ?_⟩
        have e5 := mk_app ((s.cps.toList ++ [40]) ++ (txS k ++ txA ks)) [41]
        have h4 := h2
        rw [txS] at h4
        rw [show s.cps.toList ++ 40 :: (txS k ++ (txA ks ++ [41])) = ((s.cps.toList ++ [40]) ++ (txS k ++ txA ks)) ++ [41] by simp, ← e5] at h4
        exact h4
theorem ok_txW {f : Addr} {fd : FuncData} (F : Fun K "text_within" "text_within" sTxW f fd) (mF : mg "text_within" = some (.ref f)) (T : Bl mg) : ∀ n, FnOk P w K mg base CX0 n f fd ["tree"] (spD K 1 (tfTxW n))
  | 0 => no0 fun ws M R RX h => by
    obtain ⟨x, rfl, h1⟩ := g1_of h
    obtain ⟨d, rfl, ⟨h, _⟩, _⟩ := gD_of h1
    exact h
  | n + 1 => ok_txW1 F ⟨f, fd, ok_txW F mF T n, mF, F.kp, F.binds (ps := ["tree"]) fun _ _ _ _ _ _ us hl => match us, hl with | [_], _ => rfl⟩ T
@[reducible] def tfTxO (C : Addr) : TF := fun ws M R RX => g1 ws fun x => gD x fun d => txt d = true ∧ (isTreeD d = true → R (.d (.str (Str.mk (txS d).toArray))) M) ∧ (isTreeD d = false → RX ⟨.ref C, []⟩ M)
abbrev sTxO : Stmt := top 28
theorem scTxO : FnScope ["tree"] ["tree"] (defScope sTxO) := ⟨rfl, rfl, rfl, by decide +kernel, rfl, by decide +kernel, by decide +kernel⟩
theorem ok_txO {f C : Addr} {fd : FuncData} {k j : Nat} (F : Fun K "text_of" "text_of" sTxO f fd) (Ucheck_tree : UseX P w K mg base "check_tree" ["thing"] j (spD K 1 (tfChk isTreeD C))) (Utext_within : Use P w K mg base "text_within" ["tree"] j (spD K 1 (tfTxW 12))) (hj : j ≤ k) (T : Bl mg) : FnOk P w K mg base (L2.CX P w) (k + 1) f fd ["tree"] (spD K 1 (tfTxO C)) := by
  refine okDX F scTxO rfl fun cdv A outer s H E hr => ?_
  refine ⟨_, fun RE => _, (pss_cons (ps_expr (pe_callS Ucheck_tree.ok (hr.mono (by omega)) rfl Ucheck_tree.m Ucheck_tree.kp Ucheck_tree.b (fun σ => passAt (takes_of (E := E) rfl rfl rfl rfl) σ) (pa_cons (pv 0) pa_nil)))
    (pss_one (ps_ret (PE.nox (pe_call Utext_within.ok (hr.mono (by omega)) rfl Utext_within.m Utext_within.kp Utext_within.b .nil pass0 (pa_cons (pv 0) pa_nil)))))), fun RE => (ss_cons (ss_drop (se_callX (sa_cons se_nm sa_nil)))
    (ss_ret (se_call (sa_cons se_nm sa_nil)))), fun ws M R RX hl h => ?_⟩
  obtain ⟨x, rfl, h1⟩ := g1_of h
  obtain ⟨d, rfl, ht, h2, h3⟩ := gD_of h1
  simp only [start0, len_c, len_n, map_c, map_n, app_c, app_n, rep_0, rep_s, Nat.reduceAdd, Nat.reduceSub]
  decreasing_trivial_pre_omega
  refine ⟨fun c => ?_, h3⟩
  obtain ⟨t1, t2⟩ := tree_iff.mp c
  decreasing_trivial_pre_omega
  exact h2 c
@[reducible] def tfTin (CN CT : Addr) : TF := fun ws M R RX => g1 ws fun x => gD x fun d => txt d = true ∧ (∀ t, d = .str t → (∀ e, rtTop t.cps.toList = .inr e → R (.d e) M) ∧ (∀ j, rtTop t.cps.toList = .inl j → RX ⟨.ref CT, [("at", .int (j : Nat))]⟩ M)) ∧ ((∀ t, d ≠ .str t) → RX ⟨.ref CN, []⟩ M)
abbrev sTin : Stmt := top 32
theorem scTin : FnScope ["text", "reader", "tree"] ["text"] (defScope sTin) := ⟨rfl, rfl, rfl, by decide +kernel, rfl, by decide +kernel, by decide +kernel⟩
theorem ok_tin {f CN CT CR : Addr} {fd : FuncData} {k j : Nat} (F : Fun K "tree_in" "tree_in" sTin f fd) (XNoText : Er K mg "NoText" CN) (XTorn : ErF K mg "Torn" "Torn.__init__" "at" sI_Torn CT) (MTextReader : RtC K CR) (UTextReader : UseC P w K mg base CR "TextReader" ["self", "text"] j (spD K 2 (tfInitT CR))) (UTextReader_read_part : UseMX P w K mg base CR "read_part" ["self", "level"] j (spD K 2 (tfRdP CR CT 12))) (hj : j + 1 ≤ k) (hk : 2 ≤ k) (T : Bl mg) : FnOk P w K mg base (L2.CX P w) (k + 1) f fd ["text"] (spD K 1 (tfTin CN CT)) := by
  obtain ⟨fiTorn, fdTorn, iTorn, tTorn, FTorn⟩ := XTorn.i
  have okTorn := okI_Torn (P := P) (w := w) (mg := mg) (base := base) (k := 0) FTorn XTorn.o XTorn.n
  have bTorn := FTorn.binds (ps := ["self", "at"]) fun _ _ _ _ _ _ us hl => match us, hl with | [_, _], _ => rfl
  refine okDXLL F scTin rfl fun cdv A outer s H E hr => ?_
  refine ⟨_, fun RE => _, (pss_cons (ps_if (pt_not (pt_val (pe_callB (r := rIsi K) call_isi (by rfl) T.isi PyProof.Rows.boot_isinstance (pa_cons (pv 0) (pa_cons (b_str T) pa_nil))))) (pss_one (ps_raise rfl (takes_of (E := E) rfl rfl rfl rfl) (pmk_own0 PySem.F.excBase_ValueError XNoText.x XNoText.g XNoText.k (raises_own XNoText.b XNoText.t) (by exact rfl)))) pss_nil)
    (pss_cons (ps_set (i := 1) scTin.nd rfl (.inl rfl) (pe_makeE UTextReader.made UTextReader.ok (hr.mono (by omega)) (by rfl) UTextReader.m UTextReader.b (fun σ => passAt (takes_of (E := E) rfl rfl rfl rfl) σ) (pa_cons (pv 0) pa_nil)))
    (pss_cons (ps_set (i := 2) scTin.nd rfl (.inl rfl) (pe_methE (pv 1) MTextReader.cls UTextReader_read_part.hm UTextReader_read_part.ok (hr.mono (by omega)) UTextReader_read_part.b (fun σ => passAt (takes_of (E := E) rfl rfl rfl rfl) σ) (pa_cons pe_int pa_nil)))
    (pss_cons (ps_if (pt_cmpR op_lt (pe_fld (pv 1) (by rfl)) (pe_callB call_len_str (by rfl) T.len PySem.boot_len (pa_cons (pv 0) pa_nil)) (nomark _)) (pss_one (ps_raise rfl (takes_of (E := E) rfl rfl rfl rfl) (pmk_oex XTorn.o iTorn tTorn okTorn (hr.mono (by omega)) bTorn .nil pass0 (by exact rfl) XTorn.g (pa_cons (pe_fld (pv 1) (by rfl)) pa_nil)))) pss_nil)
    (pss_one (ps_ret (pv 2))))))), fun RE => (ss_cons (ss_if (st_not (st_val (se_cb sc_isi (sa_cons se_nm (sa_cons se_o sa_nil))))) ss_raise0 ss_nil)
    (ss_cons (ss_set (se_makeX (sa_cons se_nm sa_nil)))
    (ss_cons (ss_set (se_methX se_nm (sa_cons se_int sa_nil)))
    (ss_cons (ss_if (st_test (se_op so_lt (se_fld se_nm) (se_cb sc_lenS (sa_cons se_nm sa_nil)))) (ss_raiseF (sa_cons (se_fld se_nm) sa_nil)) ss_nil)
    (ss_ret se_nm))))), fun ws M R RX hl h => ?_⟩
  obtain ⟨x, rfl, h1⟩ := g1_of h
  obtain ⟨d, rfl, ht, h2, h3⟩ := gD_of h1
  have c1 := MTextReader.cls
  have c2 := MTextReader.n2
  cases d with
  | str t =>
    obtain ⟨h2, h4⟩ := h2 t rfl
    have hz := (txt_str ht).1
    simp only [start0, len_c, len_n, map_c, map_n, app_c, app_n, rep_0, rep_s, Nat.reduceAdd, Nat.reduceSub]
    decreasing_trivial_pre_omega
    intro a dx ha
    refine ⟨a, t, dx, rfl, mset_same, rfl, ?_⟩
    rw [mset_mset]
    have hMa : mset M a (.ins CR dx (rfF t 0 0)) a = some (.ins CR dx (rfF t 0 0)) := mset_same
    have drop : ∀ x b o, M b = some o → mset M a x b = some o := fun x b o h => by rw [mset_ne (fun z => by rw [z, ha] at h; cases h)]; exact h
    unfold rtTop at h2 h4
    decreasing_trivial_pre_omega
    refine ⟨a, t, dx, 0, 0, rfl, ⟨hMa, Nat.zero_le _, hz, by decide, by decide, by decide⟩, fun e i2 b2 hd => ?_, fun jj hd b2 => ?_⟩
    · rw [hd] at h2 h4
      dsimp only at h2 h4
      rw [mset_mset]
      have hMb : mset M a (.ins CR dx (rfF t (i2 : Nat) (b2 : Nat))) a = some (.ins CR dx (rfF t (i2 : Nat) (b2 : Nat))) := mset_same
      have hlen : t.length = t.cps.toList.length := by rw [Array.length_toList]; rfl
      decreasing_trivial_pre_omega
      refine IfB.d (fun c => ?_) (fun c => ?_)
      · rw [if_pos (by omega)] at h4
        decreasing_trivial_pre_omega
        exact ⟨M, drop _, h4 i2 rfl⟩
      · rw [if_neg (by omega)] at h2
        decreasing_trivial_pre_omega
        exact ⟨M, drop _, h2 e rfl⟩
    · rw [hd] at h4
      rw [mset_mset]
      exact ⟨M, drop _, h4 jj rfl⟩
  | _ =>
    simp only [start0, len_c, len_n, map_c, map_n, app_c, app_n, rep_0, rep_s, Nat.reduceAdd, Nat.reduceSub]
    decreasing_trivial_pre_omega
    exact ⟨M, fun _ _ h => h, h3 fun ds e => by cases e⟩
end
end Tl
set_option Elab.async false
set_option linter.all false
set_option maxRecDepth 100000
set_option maxHeartbeats 8000000
namespace Tl
open PySem L2 RZ
/-- a number below m from the source at st -/
@[reducible] def tfNext (b : Bool) : TF := fun ws M R _ => g2 ws fun x y => gR x fun st => gI y fun m => (M st = some (.src b) ∧ 1 ≤ m ∧ m ≤ 100000) ∧ ∀ r : Int, 0 ≤ r → r < m → R (.d (.int r)) M
theorem fm_pos (x : Int) {m : Int} (h : 0 < m) : 0 ≤ x.fmod m ∧ x.fmod m < m := ⟨Int.fmod_nonneg_of_pos x h, Int.fmod_lt_of_pos x h⟩
theorem fd_pos {x m : Int} (hx : 0 ≤ x) (h : 0 < m) : 0 ≤ x.fdiv m := by
  rw [Int.fdiv_eq_ediv_of_nonneg _ (Int.le_of_lt h)]
  exact Int.ediv_nonneg hx (Int.le_of_lt h)
theorem at4 {c : Addr} {i p z : Int} : atI [V.ref c, .int i, .int p, .int z] 0 = some (.ref c) ∧ atI [V.ref c, .int i, .int p, .int z] 1 = some (.int i) ∧ atI [V.ref c, .int i, .int p, .int z] 2 = some (.int p) ∧ atI [V.ref c, .int i, .int p, .int z] 3 = some (.int z) :=
  ⟨atI_nat (j := 0) rfl, atI_nat (j := 1) rfl, atI_nat (j := 2) rfl, atI_nat (j := 3) rfl⟩
theorem nz51 : (2305843009213693951 : Int) ≠ 0 := by decide
theorem nz29 : (2147483629 : Int) ≠ 0 := by decide
section
variable {P : Program} {w : World} {K : PySem.W.Frag} {mg : Str → Option Value} {base : Heap}
/-- the source as it stands, and how it goes on -/
theorem src_at {b : Bool} {F H : Hp} {M : Mem} {st : Addr} {R : W → Mem → Prop} {Q : VK} {m : Int} (hr : Rl K F H M) (hM : M st = some (.src b)) (hk : Kt K F H M R Q) (q : ∀ r : Int, 0 ≤ r → r < m → R (.d (.int r)) M) :
    ∃ (c : Addr) (cs : List Int) (i p z : Int), H st = some (.lst [.ref c, .int i, .int p, .int z]) ∧ SqL K H c (cs.map V.int) ∧ (∀ H0 o, Same H H0 → SqL K (upd H0 st o) c (cs.map V.int)) ∧ cs.length ≤ 63 ∧ (b = true → 0 < cs.length) ∧ 0 ≤ i ∧ 0 ≤ p ∧ 0 ≤ z ∧ z < (if b = true then 2147483647 else 2305843009213693951) ∧
      ∀ (H0 : Hp), Same H H0 → ∀ r i' p' z' : Int, 0 ≤ r → r < m → 0 ≤ i' → 0 ≤ p' → 0 ≤ z' → z' < (if b = true then 2147483647 else 2305843009213693951) → Q (.int r) (upd H0 st (.lst [.ref c, .int i', .int p', .int z'])) := by
  obtain ⟨_, h1, _, rfl, c, cs, i, p, z, rfl, hc, hl, hl0, hi, hp, hz0, hz1⟩ := hr.at_ st _ hM
  refine ⟨c, cs, i, p, z, h1, same_l hr.fh hc, fun H0 o e0 => same_l (same_mut (hr.same e0).1.fh ((hr.same e0).1.mf _ _ hM)) hc, hl, hl0, hi, hp, hz0, hz1, fun H0 e0 r i' p' z' g1 g2 g3 g4 g5 g6 => ?_⟩
  obtain ⟨r1, gg⟩ := hr.same e0
  obtain ⟨r2, g⟩ := r1.put (u := .lst [.ref c, .int i', .int p', .int z']) (o := .src b) hM ⟨_, rfl, c, cs, i', p', z', rfl, hc, hl, hl0, g3, g4, g5, g6⟩
  rw [mset_id hM] at r2 g
  exact hk _ _ _ _ _ r2 (gg.trans g) (.d (.int _)) (q r g1 g2)
theorem dp_ints {H : Hp} : ∀ cs : List Int, DpAll K H (cs.map V.int) (cs.map PyData.int)
  | [] => .nil
  | c :: r => .cons (.int c) (dp_ints r)
theorem ints_shaped (cs : List Int) : SeqAt.shaped (.list (cs.map PyData.int)) = true := flat_shaped (by
  rw [List.all_map, List.all_eq_true]
  intro x _
  rfl)
theorem iteN' {c : Bool} {A B : Prop} (h1 : c = false → A) (h2 : c = true → B) : if (!c) = true then A else B := by
  cases c
  · exact h1 rfl
  · exact h2 rfl
abbrev sTake : Stmt := top 39
theorem scTake : FnScope ["_law_state", "_law_below", "_law_cell", "_law_found"] ["_law_state", "_law_below"] (defScope sTake) := ⟨rfl, rfl, rfl, by decide +kernel, rfl, by decide +kernel, by decide +kernel⟩
theorem ok_take {f : Addr} {fd : FuncData} {k : Nat} (F : Fun K "_law_take" "_law_take" sTake f fd) (T : Bl mg) : FnOk P w K mg base CX0 (k + 1) f fd ["_law_state", "_law_below"] (spD K 2 (tfNext false)) := by
  refine F.ok scTake (fun vs H Q E h => ?_) (fun cdv A outer s H vs Q E hr h => ?_)
  · obtain ⟨F0, M, ws, R, RX, r, rs, hl, _⟩ := h
    rw [rs.len, hl]
    rfl
  obtain ⟨F0, M, ws, R, RX, hr0, rs, _, hf, hk, _⟩ := h
  obtain ⟨x0, y0, rfl, hf1⟩ := g2_of hf
  obtain ⟨st, rfl, hf2⟩ := gR_of hf1
  obtain ⟨m, rfl, ⟨hM, hm0, hm1⟩, q0⟩ := gI_of hf2
  obtain ⟨v1, v2, rfl, e1, e2⟩ := rs.two
  obtain rfl := e1.ref
  obtain rfl := e2.int
  obtain ⟨c, cs, i, p, z, h1, h2, h3, hl, hl0, hi, hp, hz0, hz1, q⟩ := src_at hr0 hM hk q0
  rw [if_neg (by decide)] at hz1
  simp only [Bool.false_eq_true, if_false] at q
  refine ⟨_, (pss_cons (ps_if (pt_cmpR op_gt (pe_ix ix_list (pv 0) pe_int (fun _ _ => rfl)) pe_int (nomark _)) (pss_cons (ps_set (i := 3) scTake.nd rfl (.inl rfl) (pe_op op_modN (pe_ix ix_list (pv 0) pe_int (fun _ _ => rfl)) (pv 1)))
      (pss_cons (ps_asg (pe_op op_fdivN (pe_ix ix_list (pv 0) pe_int (fun _ _ => rfl)) (pv 1)) (pg_sub (pv 0) pe_int set_list))
      (pss_one (ps_ret (pv 3))))) pss_nil)
    (pss_cons (ps_set (i := 2) scTake.nd rfl (.inl rfl) (pe_ix ix_list (pv 0) pe_int (fun _ _ => rfl)))
    (pss_cons (ps_if (pt_cmpR (op_neD hr.units) (pe_ix ix_list (pv 0) pe_int (fun _ _ => rfl)) (pe_lst pa_nil) (nomark _)) (pss_one (ps_set (i := 2) scTake.nd rfl (.inl rfl) (pe_ix ix_list (pe_ix ix_list (pv 0) pe_int (fun _ _ => rfl)) (pe_op op_modN (pe_ix ix_list (pv 0) pe_int (fun _ _ => rfl)) (pe_callB call_len_seq (by rfl) T.len PySem.boot_len (pa_cons (pe_ix ix_list (pv 0) pe_int (fun _ _ => rfl)) pa_nil))) (fun _ _ => rfl)))) pss_nil)
    (pss_cons (ps_asg (pe_op op_add (pe_ix ix_list (pv 0) pe_int (fun _ _ => rfl)) pe_int) (pg_sub (pv 0) pe_int set_list))
    (pss_cons (ps_if (PW.pt (pw_and (pt_cmpR op_ge (pv 2) (pe_op op_pow pe_int pe_int) (nomark _)) (pw_and1 (pt_cmpR op_le (pe_ix ix_list (pv 0) pe_int (fun _ _ => rfl)) (pe_callB call_len_seq (by rfl) T.len PySem.boot_len (pa_cons (pe_ix ix_list (pv 0) pe_int (fun _ _ => rfl)) pa_nil)) (nomark _))))) (pss_cons (ps_asg (pe_op op_fdivN (pv 2) (pv 1)) (pg_sub (pv 0) pe_int set_list))
      (pss_one (ps_ret (pe_op op_modN (pv 2) (pv 1))))) pss_nil)
    (pss_cons (ps_set (i := 2) scTake.nd rfl (.inl rfl) (pe_op op_modN (pv 2) pe_int))
    (pss_cons (ps_asg (pe_op op_modN (pe_op op_add (pe_op op_add (pe_op op_mul (pe_ix ix_list (pv 0) pe_int (fun _ _ => rfl)) pe_int) (pe_op op_mul (pv 2) pe_int)) (pe_ix ix_list (pv 0) pe_int (fun _ _ => rfl))) pe_int) (pg_sub (pv 0) pe_int set_list))
    (pss_one (ps_ret (pe_op op_modN (pe_op op_fdivN (pe_op op_modN (pe_op op_mul (pe_ix ix_list (pv 0) pe_int (fun _ _ => rfl)) (pe_ix ix_list (pv 0) pe_int (fun _ _ => rfl))) pe_int) pe_int) (pv 1))))))))))), ?_⟩
  have hm30 : m ≠ 0 ∧ m.natAbs < 1073741824 := ⟨by omega, by omega⟩
  refine ⟨_, rfl, st, _, 2, _, rfl, rfl, SqL.of h1, at4.2.2.1, p, 0, rfl, rfl, _, rfl, ?_⟩
  refine iteD (fun cc => ?_) (fun cc => ?_)
  · refine ⟨_, rfl, st, _, 2, _, rfl, rfl, SqL.of h1, at4.2.2.1, _, rfl, p, m, rfl, rfl, hm30.1, ?_⟩
    refine ⟨_, rfl, st, _, 2, _, rfl, rfl, SqL.of h1, at4.2.2.1, _, rfl, p, m, rfl, rfl, hm30, ?_⟩
    refine ⟨_, rfl, st, _, 2, 2, rfl, rfl, h1, rfl, ?_⟩
    refine ⟨_, rfl, ?_⟩
    exact q H (Same.refl _) _ _ _ _ (fm_pos p (by omega)).1 (fm_pos p (by omega)).2 hi (fd_pos hp (by omega)) hz0 hz1
  · refine ⟨_, rfl, st, _, 1, _, rfl, rfl, SqL.of h1, at4.2.1, ?_⟩
    refine ⟨_, rfl, st, _, 0, _, rfl, rfl, SqL.of h1, at4.1, by show 0 ≤ sizeLine; decide, fun p0 hp0 => ?_⟩
    have e01 : Same H (upd H p0 (.lst [])) := same_new hp0
    have nst : st ≠ p0 := ne_of_none h1 hp0
    have g1 : (upd H p0 (.lst [])) st = some (.lst [V.ref c, .int i, .int p, .int z]) := by rw [upd_ne nst]; exact h1
    have g2 : SqL K (upd H p0 (.lst [])) c (cs.map V.int) := same_l e01 h2
    have g0 : Dp K (upd H p0 (.lst [])) (.ref p0) (.list []) := .lst (SqL.of upd_same) .nil
    generalize upd H p0 (.lst []) = H1 at e01 g1 g2 g0 ⊢
    have gd1 : Dp K H1 (.ref c) (.list (cs.map PyData.int)) := .lst g2 (dp_ints cs)
    refine ⟨_, _, gd1, g0, ints_shaped cs, by decide +kernel, _, rfl, ?_⟩
    rw [eqv_nil]
    refine iteN' (fun cc2 => ?_) (fun cc2 => ?_)
    · have hne : 0 < cs.length := by
        rcases Nat.eq_zero_or_pos cs.length with e | e
        · rw [List.eq_nil_of_length_eq_zero e] at cc2
          cases cc2
        · exact e
      have hlen : (cs.map V.int).length = cs.length := List.length_map _
      have hf := fm_pos i (m := ((cs.map V.int).length : Nat)) (by rw [hlen]; omega)
      obtain ⟨j, ej⟩ : ∃ j : Nat, i.fmod ((cs.map V.int).length : Nat) = (j : Int) := ⟨(i.fmod ((cs.map V.int).length : Nat)).toNat, by omega⟩
      have hj : j < cs.length := by rw [hlen] at hf; rw [hlen] at ej; omega
      have hat : atI (cs.map V.int) (i.fmod ((cs.map V.int).length : Nat)) = some (.int cs[j]) := by
        rw [ej]
        exact atI_nat (by rw [List.getElem?_map, List.getElem?_eq_getElem hj]; rfl)
      generalize cs[j] = x at hat
      refine ⟨_, rfl, st, _, 0, _, rfl, rfl, SqL.of g1, at4.1, _, rfl, st, _, 1, _, rfl, rfl, SqL.of g1, at4.2.1, _, rfl, st, _, 0, _, rfl, rfl, SqL.of g1, at4.1, c, _, rfl, .inl g2, i, _, rfl, rfl, by rw [hlen]; omega, c, _, _, _, rfl, rfl, g2, hat, ?_⟩
      refine ⟨_, rfl, st, _, 1, _, rfl, rfl, SqL.of g1, at4.2.1, i, 1, rfl, rfl, _, rfl, st, _, 1, 1, rfl, rfl, g1, rfl, ?_⟩
      have g1' : (upd H1 st (.lst [V.ref c, .int (i + 1), .int p, .int z])) st = some (.lst [V.ref c, .int (i + 1), .int p, .int z]) := upd_same
      have g2' := h3 H1 (.lst [V.ref c, .int (i + 1), .int p, .int z]) e01
      have fin2 : ∀ (r p' z' : Int), 0 ≤ r → r < m → 0 ≤ p' → 0 ≤ z' → z' < 2305843009213693951 → Q (.int r) (upd (upd H1 st (.lst [V.ref c, .int (i + 1), .int p, .int z])) st (.lst [V.ref c, .int (i + 1), .int p', .int z'])) := fun r p' z' g1 g2 g3 g4 g5 => by
        rw [upd_upd]
        exact q H1 e01 _ _ _ _ g1 g2 (by omega) g3 g4 g5
      refine ⟨_, rfl, 10, 18, rfl, rfl, ⟨by decide, by decide, by decide⟩, x, _, rfl, rfl, _, rfl, ?_⟩
      refine iteD (fun c1 => ?_) (fun c1 => ?_)
      · refine ⟨_, rfl, st, _, 1, _, rfl, rfl, SqL.of g1', at4.2.1, _, rfl, st, _, 0, _, rfl, rfl, SqL.of g1', at4.1, c, _, rfl, .inl g2', _, _, rfl, rfl, _, rfl, ?_⟩
        refine iteD (fun c2 => ?_) (fun c2 => ?_)
        · refine ⟨_, rfl, _, rfl, x, m, rfl, rfl, hm30, _, rfl, st, _, 2, 2, rfl, rfl, g1', rfl, ?_⟩
          refine ⟨_, rfl, _, rfl, x, m, rfl, rfl, hm30.1, ?_⟩
          exact fin2 _ _ _ (fm_pos x (by omega)).1 (fm_pos x (by omega)).2 (fd_pos (Int.le_trans (by decide) c1) (by omega)) hz0 hz1
        · skip
          refine ⟨_, rfl, _, 2305843009213693951, rfl, rfl, nz51, ?_⟩
          have hx1 := fm_pos x (m := 2305843009213693951) (by decide)
          refine ⟨_, rfl, st, _, 3, _, rfl, rfl, SqL.of g1', at4.2.2.2, z, 48271, rfl, rfl, .inl ⟨by omega, by omega⟩, _, rfl, x.fmod 2305843009213693951, 69621, rfl, rfl, .inl ⟨by omega, by omega⟩, _, _, rfl, rfl, _, rfl, st, _, 1, _, rfl, rfl, SqL.of g1', at4.2.1, _, _, rfl, rfl, _, 2305843009213693951, rfl, rfl, nz51, _, rfl, st, _, 3, 3, rfl, rfl, g1', rfl, ?_⟩
          have hb := fm_pos (z * 48271 + x.fmod 2305843009213693951 * 69621 + (i + 1)) (m := 2305843009213693951) (by decide)
          refine ⟨_, rfl, st, _, 3, _, rfl, rfl, SqL.of upd_same, at4.2.2.2, _, rfl, st, _, 3, _, rfl, rfl, SqL.of upd_same, at4.2.2.2, _, _, rfl, rfl, .inl ⟨by omega, by omega⟩, _, 2147483629, rfl, rfl, nz29, _, 8, rfl, rfl, ⟨by decide, by decide⟩, _, rfl, _, m, rfl, rfl, hm30.1, ?_⟩
          exact fin2 _ _ _ (fm_pos _ (by omega)).1 (fm_pos _ (by omega)).2 hp hb.1 hb.2
      · skip
        refine ⟨_, rfl, _, 2305843009213693951, rfl, rfl, nz51, ?_⟩
        have hx1 := fm_pos x (m := 2305843009213693951) (by decide)
        refine ⟨_, rfl, st, _, 3, _, rfl, rfl, SqL.of g1', at4.2.2.2, z, 48271, rfl, rfl, .inl ⟨by omega, by omega⟩, _, rfl, x.fmod 2305843009213693951, 69621, rfl, rfl, .inl ⟨by omega, by omega⟩, _, _, rfl, rfl, _, rfl, st, _, 1, _, rfl, rfl, SqL.of g1', at4.2.1, _, _, rfl, rfl, _, 2305843009213693951, rfl, rfl, nz51, _, rfl, st, _, 3, 3, rfl, rfl, g1', rfl, ?_⟩
        have hb := fm_pos (z * 48271 + x.fmod 2305843009213693951 * 69621 + (i + 1)) (m := 2305843009213693951) (by decide)
        refine ⟨_, rfl, st, _, 3, _, rfl, rfl, SqL.of upd_same, at4.2.2.2, _, rfl, st, _, 3, _, rfl, rfl, SqL.of upd_same, at4.2.2.2, _, _, rfl, rfl, .inl ⟨by omega, by omega⟩, _, 2147483629, rfl, rfl, nz29, _, 8, rfl, rfl, ⟨by decide, by decide⟩, _, rfl, _, m, rfl, rfl, hm30.1, ?_⟩
        exact fin2 _ _ _ (fm_pos _ (by omega)).1 (fm_pos _ (by omega)).2 hp hb.1 hb.2
    · obtain ⟨x, hx⟩ : ∃ x : Int, x = i := ⟨i, rfl⟩
      rw [← hx]
      clear hx
      refine ⟨_, rfl, st, _, 1, _, rfl, rfl, SqL.of g1, at4.2.1, i, 1, rfl, rfl, _, rfl, st, _, 1, 1, rfl, rfl, g1, rfl, ?_⟩
      have g1' : (upd H1 st (.lst [V.ref c, .int (i + 1), .int p, .int z])) st = some (.lst [V.ref c, .int (i + 1), .int p, .int z]) := upd_same
      have g2' := h3 H1 (.lst [V.ref c, .int (i + 1), .int p, .int z]) e01
      have fin2 : ∀ (r p' z' : Int), 0 ≤ r → r < m → 0 ≤ p' → 0 ≤ z' → z' < 2305843009213693951 → Q (.int r) (upd (upd H1 st (.lst [V.ref c, .int (i + 1), .int p, .int z])) st (.lst [V.ref c, .int (i + 1), .int p', .int z'])) := fun r p' z' g1 g2 g3 g4 g5 => by
        rw [upd_upd]
        exact q H1 e01 _ _ _ _ g1 g2 (by omega) g3 g4 g5
      refine ⟨_, rfl, 10, 18, rfl, rfl, ⟨by decide, by decide, by decide⟩, x, _, rfl, rfl, _, rfl, ?_⟩
      refine iteD (fun c1 => ?_) (fun c1 => ?_)
      · refine ⟨_, rfl, st, _, 1, _, rfl, rfl, SqL.of g1', at4.2.1, _, rfl, st, _, 0, _, rfl, rfl, SqL.of g1', at4.1, c, _, rfl, .inl g2', _, _, rfl, rfl, _, rfl, ?_⟩
        refine iteD (fun c2 => ?_) (fun c2 => ?_)
        · refine ⟨_, rfl, _, rfl, x, m, rfl, rfl, hm30, _, rfl, st, _, 2, 2, rfl, rfl, g1', rfl, ?_⟩
          refine ⟨_, rfl, _, rfl, x, m, rfl, rfl, hm30.1, ?_⟩
          exact fin2 _ _ _ (fm_pos x (by omega)).1 (fm_pos x (by omega)).2 (fd_pos (Int.le_trans (by decide) c1) (by omega)) hz0 hz1
        · skip
          refine ⟨_, rfl, _, 2305843009213693951, rfl, rfl, nz51, ?_⟩
          have hx1 := fm_pos x (m := 2305843009213693951) (by decide)
          refine ⟨_, rfl, st, _, 3, _, rfl, rfl, SqL.of g1', at4.2.2.2, z, 48271, rfl, rfl, .inl ⟨by omega, by omega⟩, _, rfl, x.fmod 2305843009213693951, 69621, rfl, rfl, .inl ⟨by omega, by omega⟩, _, _, rfl, rfl, _, rfl, st, _, 1, _, rfl, rfl, SqL.of g1', at4.2.1, _, _, rfl, rfl, _, 2305843009213693951, rfl, rfl, nz51, _, rfl, st, _, 3, 3, rfl, rfl, g1', rfl, ?_⟩
          have hb := fm_pos (z * 48271 + x.fmod 2305843009213693951 * 69621 + (i + 1)) (m := 2305843009213693951) (by decide)
          refine ⟨_, rfl, st, _, 3, _, rfl, rfl, SqL.of upd_same, at4.2.2.2, _, rfl, st, _, 3, _, rfl, rfl, SqL.of upd_same, at4.2.2.2, _, _, rfl, rfl, .inl ⟨by omega, by omega⟩, _, 2147483629, rfl, rfl, nz29, _, 8, rfl, rfl, ⟨by decide, by decide⟩, _, rfl, _, m, rfl, rfl, hm30.1, ?_⟩
          exact fin2 _ _ _ (fm_pos _ (by omega)).1 (fm_pos _ (by omega)).2 hp hb.1 hb.2
      · skip
        refine ⟨_, rfl, _, 2305843009213693951, rfl, rfl, nz51, ?_⟩
        have hx1 := fm_pos x (m := 2305843009213693951) (by decide)
        refine ⟨_, rfl, st, _, 3, _, rfl, rfl, SqL.of g1', at4.2.2.2, z, 48271, rfl, rfl, .inl ⟨by omega, by omega⟩, _, rfl, x.fmod 2305843009213693951, 69621, rfl, rfl, .inl ⟨by omega, by omega⟩, _, _, rfl, rfl, _, rfl, st, _, 1, _, rfl, rfl, SqL.of g1', at4.2.1, _, _, rfl, rfl, _, 2305843009213693951, rfl, rfl, nz51, _, rfl, st, _, 3, 3, rfl, rfl, g1', rfl, ?_⟩
        have hb := fm_pos (z * 48271 + x.fmod 2305843009213693951 * 69621 + (i + 1)) (m := 2305843009213693951) (by decide)
        refine ⟨_, rfl, st, _, 3, _, rfl, rfl, SqL.of upd_same, at4.2.2.2, _, rfl, st, _, 3, _, rfl, rfl, SqL.of upd_same, at4.2.2.2, _, _, rfl, rfl, .inl ⟨by omega, by omega⟩, _, 2147483629, rfl, rfl, nz29, _, 8, rfl, rfl, ⟨by decide, by decide⟩, _, rfl, _, m, rfl, rfl, hm30.1, ?_⟩
        exact fin2 _ _ _ (fm_pos _ (by omega)).1 (fm_pos _ (by omega)).2 hp hb.1 hb.2
end
end Tl
set_option Elab.async false
set_option linter.all false
set_option maxRecDepth 100000
set_option maxHeartbeats 8000000
namespace Tl
open PySem L2 RZ
local macro_rules
  | `(tactic| decreasing_trivial) => `(tactic| ((with_reducible (conv => whnf)); (repeat ((first | (with_reducible refine gDs_c ?_) | (with_reducible refine gDs_n ?_) | (with_reducible refine gNs_c ?_) | (with_reducible refine gNs_n ?_) | (with_reducible refine gO_i tyAny_lt ?_) | (with_reducible refine gIs_c ?_) | (with_reducible refine gIs_n ?_) | (with_reducible refine gBs_c ?_) | (with_reducible refine gBs_n ?_) | (with_reducible refine gSs_c ?_) | (with_reducible refine gSs_n ?_) | (with_reducible refine gO_i tyIs_int ?_) | (with_reducible refine gO_i tyIs_bool ?_) | (with_reducible refine gO_i tyIs_str ?_) | (with_reducible refine gO_i tyIs_tuple ?_) | (with_reducible refine gO_i tyIs_list ?_) | (with_reducible refine gDs_i ?_) | (with_reducible refine gO_i (Eq.refl _) ?_) | (with_reducible refine gO_i (by assumption) ?_) | (with_reducible refine gO_i at_0 ?_) | (with_reducible refine gO_i at_m0 ?_) | (with_reducible refine gO_i at_1 ?_) | (with_reducible refine gO_i at_m1 ?_) | (with_reducible refine gO_i at_2 ?_) | (with_reducible refine gO_i at_m2 ?_) | (with_reducible refine gO_i at_3 ?_) | (with_reducible refine gO_i at_m3 ?_) | (with_reducible refine gO_i at_4 ?_) | (with_reducible refine gO_i at_m4 ?_) | (with_reducible refine gO_i at_5 ?_) | (with_reducible refine gO_i at_m5 ?_) | (with_reducible refine gO_i at_6 ?_) | (with_reducible refine gO_i at_m6 ?_) | (with_reducible refine gO_i at_7 ?_) | (with_reducible refine gO_i at_m7 ?_) | (with_reducible refine IfB.ngf ?_) | (with_reducible refine IfB.ngt ?_) | (with_reducible refine IfB.not ?_) | (with_reducible refine IfB.nil ?_) | (with_reducible refine IfB.nilT ?_) | (with_reducible refine IfB.f isE_c ?_) | (with_reducible refine IfB.t isE_n ?_) | (with_reducible refine IfB.t ?gha ?_; (case gha => rfl)) | (with_reducible refine IfB.f ?gha ?_; (case gha => rfl)) | (with_reducible refine IfB.t ?gha ?_; (case gha => assumption)) | (with_reducible refine IfB.f ?gha ?_; (case gha => assumption)) | (with_reducible refine IfB.yes (Eq.refl _) ?_) | (with_reducible refine IfB.yes ?gha ?_; (case gha => (first | omega | (simp only [len_c, len_n, List.length_map]; omega)))) | (with_reducible refine IfB.no ?gha ?_; (case gha => (first | omega | (simp only [len_c, len_n, List.length_map]; omega)))) | (with_reducible refine IfB.t ?gha ?_; (case gha => decide +kernel)) | (with_reducible refine IfB.f ?gha ?_; (case gha => decide +kernel))); (with_reducible (conv => whnf))))))
local macro_rules
  | `(tactic| decreasing_trivial_pre_omega) => `(tactic| (decreasing_trivial; (repeat ((first | ((with_reducible refine And.intro ?gha ?_); (case gha => (first | assumption | omega | exact rfl | (exact mset_same) | (exact ⟨_, mset_same⟩) | (exact Exists.intro _ (by first | exact mset_same | assumption | (rw [mset_ne (by assumption)]; first | exact mset_same | assumption))) | (exact sm_of (by omega) (by omega)) | (exact sz1000 (by first | omega | (simp; done) | (simp; omega))) | (exact Or.inl ⟨by decide, by decide⟩) | decide | (simp; done) | (refine ⟨?_, ?_⟩ <;> (first | assumption | omega | exact rfl | (exact mset_same) | (exact ⟨_, mset_same⟩) | (exact Exists.intro _ (by first | exact mset_same | assumption | (rw [mset_ne (by assumption)]; first | exact mset_same | assumption))) | (exact sm_of (by omega) (by omega)) | (exact sz1000 (by first | omega | (simp; done) | (simp; omega))) | (exact Or.inl ⟨by decide, by decide⟩) | decide | (simp; done))) | (refine ⟨?_, ?_, ?_⟩ <;> (first | assumption | omega | exact rfl | (exact mset_same) | (exact ⟨_, mset_same⟩) | (exact Exists.intro _ (by first | exact mset_same | assumption | (rw [mset_ne (by assumption)]; first | exact mset_same | assumption))) | (exact sm_of (by omega) (by omega)) | (exact sz1000 (by first | omega | (simp; done) | (simp; omega))) | (exact Or.inl ⟨by decide, by decide⟩) | decide | (simp; done))) | (refine ⟨?_, ?_, ?_, ?_⟩ <;> (first | assumption | omega | exact rfl | (exact mset_same) | (exact ⟨_, mset_same⟩) | (exact Exists.intro _ (by first | exact mset_same | assumption | (rw [mset_ne (by assumption)]; first | exact mset_same | assumption))) | (exact sm_of (by omega) (by omega)) | (exact sz1000 (by first | omega | (simp; done) | (simp; omega))) | (exact Or.inl ⟨by decide, by decide⟩) | decide | (simp; done)))))) | (with_reducible refine exW (by first | exact mset_same | assumption | (rw [mset_ne (by assumption)]; first | exact mset_same | assumption)) ?_)); decreasing_trivial))))
theorem abc26 : ("abcdefghijklmnopqrstuvwxyz" : Str).cps.toList.length = 26 := by decide +kernel
theorem gO_atN {ds : List Nat} {r : Int} {k : Nat → Prop} (Pq : Nat → Prop) (h0 : 0 ≤ r) (h1 : r < (ds.length : Nat)) (hp : ∀ d ∈ ds, Pq d) (q : ∀ d, Pq d → k d) : gO (atI ds r) k := by
  obtain ⟨d, e, hm⟩ := at_mem (xs := ds) h0 h1
  exact gO_i e (q d (hp d hm))
theorem join_len : ∀ ys : List Str, (∀ y ∈ ys, ∃ c, y = ⟨#[c]⟩ ∧ small c = true) → (Txt.join (⟨#[]⟩ : Str) ys).length = ys.length ∧ (Txt.join (⟨#[]⟩ : Str) ys).cps.toList.all small = true := by
  intro ys h
  rw [TL.join_eq]
  have key : ∀ ys : List Str, (∀ y ∈ ys, ∃ c, y = ⟨#[c]⟩ ∧ small c = true) → (TL.joinL [] (ys.map TL.tl)).length = ys.length ∧ (TL.joinL [] (ys.map TL.tl)).all small = true := by
    intro ys
    induction ys with
    | nil => intro _; exact ⟨rfl, rfl⟩
    | cons y r ih =>
      intro h
      obtain ⟨c, rfl, hc⟩ := h y (.head _)
      have ih2 := ih fun z hz => h z (.tail _ hz)
      cases r with
      | nil => exact ⟨rfl, by show (List.all [c] small) = true; simp [hc]⟩
      | cons z r =>
        have e : TL.joinL [] (((⟨#[c]⟩ : Str) :: z :: r).map TL.tl) = [c] ++ ([] ++ TL.joinL [] ((z :: r).map TL.tl)) := rfl
        rw [e]
        exact ⟨by rw [List.nil_append, List.length_append, ih2.1]; simp; omega, by rw [List.nil_append, List.all_append, ih2.2]; simp [hc]⟩
  have k := key ys h
  have e := TL.tl_join (⟨#[]⟩ : Str) ys
  have e2 : TL.joinL (TL.tl (⟨#[]⟩ : Str)) (ys.map TL.tl) = TL.joinL [] (ys.map TL.tl) := rfl
  rw [e2] at e
  rw [← e] at k
  refine ⟨?_, k.2⟩
  rw [← k.1]
  show (Str.join ⟨#[]⟩ ys).cps.size = (Str.join ⟨#[]⟩ ys).cps.toList.length
  rw [Array.length_toList]
@[reducible] def tfTagL : TF := fun ws M R _ => g1 ws fun x => gR x fun st => M st = some (.src false) ∧ ∀ s : Str, isTag (.str s) = true → R (.d (.str s)) M
section
variable {P : Program} {w : World} {K : PySem.W.Frag} {mg : Str → Option Value} {base : Heap}
abbrev sTagL : Stmt := top 40
theorem scTagL : FnScope ["_law_state", "_law_letters", "_law_many", "_law_k"] ["_law_state"] (defScope sTagL) := ⟨rfl, rfl, rfl, by decide +kernel, rfl, by decide +kernel, by decide +kernel⟩
theorem ok_tagL {f : Addr} {fd : FuncData} {k j : Nat} (F : Fun K "_law_tag" "_law_tag" sTagL f fd) (U_law_take : Use P w K mg base "_law_take" ["_law_state", "_law_below"] j (spD K 2 (tfNext false))) (hj : j ≤ k) (T : Bl mg) : FnOk P w K mg base CX0 (k + 1) f fd ["_law_state"] (spD K 1 tfTagL) := by
  refine okD F scTagL rfl fun cdv A outer s H E hr => ?_
  refine ⟨_, _, (pss_cons (ps_set (i := 1) scTagL.nd rfl (.inr rfl) pe_str)
    (pss_cons (ps_set (i := 2) scTagL.nd rfl (.inl rfl) (pe_ix ix_list (pe_lst (pa_cons pe_int (pa_cons pe_int (pa_cons pe_int (pa_cons pe_int (pa_cons pe_int (pa_cons (pe_op op_add pe_int (pe_call U_law_take.ok (hr.mono (by omega)) rfl U_law_take.m U_law_take.kp U_law_take.b .nil pass0 (pa_cons (pv 0) (pa_cons pe_int pa_nil)))) pa_nil))))))) (pe_call U_law_take.ok (hr.mono (by omega)) rfl U_law_take.m U_law_take.kp U_law_take.b .nil pass0 (pa_cons (pv 0) (pa_cons pe_int pa_nil))) (fun _ _ => rfl)))
    (pss_one (ps_ret (pe_join pe_str (pe_lc (own := [("_law_k", 3)]) (g := gName 3) (tt := tYes) (by rfl) scTagL.nd (pi_range1 (by rfl) T.range (pa_cons (pv 2) pa_nil)) (blkOk_by (N := ["_law_state", "_law_letters", "_law_many", "_law_k"]) (sc := defScope sTagL) (own := [("_law_k", 3)]) (by decide +kernel)) (fun _ _ _ _ _ => pg_name (i := 3) scTagL.nd rfl (Or.inl rfl)) (fun _ _ _ _ _ => pts_nil) (fun _ _ _ _ _ => (pe_ix ix_str (pv 1) (pe_call U_law_take.ok (hr.mono (by omega)) rfl U_law_take.m U_law_take.kp U_law_take.b .nil pass0 (pa_cons (pv 0) (pa_cons pe_int pa_nil))) (fun _ _ => rfl))))))))),
    (ss_cons (ss_set se_str)
    (ss_cons (ss_set (se_op so_ixL (se_lsf (sa_cons se_int (sa_cons se_int (sa_cons se_int (sa_cons se_int (sa_cons se_int (sa_cons (se_op so_add se_int (se_call (sa_cons se_nm (sa_cons se_int sa_nil)))) sa_nil))))))) (se_call (sa_cons se_nm (sa_cons se_int sa_nil)))))
    (ss_ret (se_join se_str (se_lcF (si_r1 (sa_cons se_nm sa_nil)) sg_name st_yes (se_op so_ixS se_nm (se_call (sa_cons se_nm (sa_cons se_int sa_nil))))))))), fun ws M R RX hl h => ?_⟩
  obtain ⟨x, rfl, h1⟩ := g1_of h
  obtain ⟨st, rfl, hM, h2⟩ := gR_of h1
  simp only [start0, len_c, len_n, map_c, map_n, app_c, app_n, rep_0, rep_s, Nat.reduceAdd, Nat.reduceSub]
  decreasing_trivial_pre_omega
  intro r1 h10 h11
  decreasing_trivial_pre_omega
  intro r2 h20 h21
  decreasing_trivial_pre_omega
  refine gO_atD (fun d => ∃ m : Int, (1 ≤ m ∧ m ≤ 8) ∧ d = .int m) h20 h21 (fun d hd => by
    simp only [List.mem_cons, List.not_mem_nil, or_false] at hd
    rcases hd with e | e | e | e | e | e
    · exact ⟨1, by decide, e⟩
    · exact ⟨1, by decide, e⟩
    · exact ⟨2, by decide, e⟩
    · exact ⟨3, by decide, e⟩
    · exact ⟨8, by decide, e⟩
    · exact ⟨1 + r1, by omega, e⟩) fun d hd => ?_
  obtain ⟨m, ⟨m0, m1⟩, rfl⟩ := hd
  decreasing_trivial_pre_omega
  refine lc_any (fun y => ∃ c, y = .d (.str ⟨#[c]⟩) ∧ small c = true) trivial _ [] (fun row hrow Rk Rn q => ?_) (sz1000 (by simp [rows1, rng]; omega)) (fun ys hy1 hy2 => ?_)
  · obtain ⟨z, rfl⟩ : ∃ z, row = [z] := by
      simp only [rows1, List.mem_map] at hrow
      obtain ⟨z, _, rfl⟩ := hrow
      exact ⟨z, rfl⟩
    decreasing_trivial_pre_omega
    intro a a0 a1
    decreasing_trivial_pre_omega
    refine gO_atN (fun c => small c = true) a0 (by rw [abc26]; exact a1) (by decide +kernel) fun c hc => ?_
    decreasing_trivial_pre_omega
    exact q _ ⟨c, rfl, hc⟩
  · have hln : ys.length = m.toNat := by rw [hy1]; simp [rows1, rng]
    obtain ⟨zs, rfl, hz⟩ : ∃ zs : List Str, ys = zs.map (fun z => W.d (.str z)) ∧ ∀ z ∈ zs, ∃ c, z = ⟨#[c]⟩ ∧ small c = true := by
      clear hy1 hln
      induction ys with
      | nil => exact ⟨[], rfl, all0⟩
      | cons y r ih =>
        obtain ⟨c, rfl, hc⟩ := hy2 y (.head _)
        obtain ⟨zs, rfl, h⟩ := ih fun z hz => hy2 z (.tail _ hz)
        exact ⟨⟨#[c]⟩ :: zs, rfl, all1 ⟨c, rfl, hc⟩ h⟩
    rw [List.length_map] at hln
    rw [List.nil_append]
    obtain ⟨j1, j2⟩ := join_len zs hz
    have hsum : (zs.map (·.length)).sum = zs.length := by
      clear hy1 hy2 hln j1 j2
      induction zs with
      | nil => rfl
      | cons z r ih =>
        obtain ⟨c, rfl, _⟩ := hz z (.head _)
        rw [List.map_cons, List.sum_cons, ih fun y hy => hz y (.tail _ hy), List.length_cons]
        show 1 + r.length = _
        omega
    rw [show (zs.map fun z => W.d (.str z)) = (zs.map PyData.str).map W.d by rw [List.map_map]; rfl, gDs_map]
    decreasing_trivial_pre_omega
    rw [show (zs.map PyData.str).map W.d = zs.map (fun z => W.d (.str z)) by rw [List.map_map]; rfl, gSs_map]
    rw [List.map_id']
    refine ⟨by rw [hsum]; show zs.length + zs.length * 0 ≤ _; omega, h2 _ ?_⟩
    show isTag (.str (Txt.join (⟨#[]⟩ : Str) zs)) = true
    rw [isTag, j1, j2, decide_eq_true (show 1 ≤ zs.length by omega), decide_eq_true (show zs.length ≤ 8 by omega)]
    rfl
end
end Tl
set_option Elab.async false
set_option linter.all false
set_option maxRecDepth 100000
set_option maxHeartbeats 4000000
/-! list * number -/
namespace Tl
open PySem L2
variable {K : PySem.W.Frag}
theorem RWs.rep {F : Hp} {vs : List V} {xs : List W} (h : RWs K F vs xs) : ∀ n : Nat, RWs K F (List.replicate n vs).flatten (List.replicate n xs).flatten
  | 0 => .nil
  | n + 1 => by
    rw [List.replicate_succ, List.replicate_succ, List.flatten_cons, List.flatten_cons]
    exact h.app (RWs.rep h n)
@[reducible] def fRepL : F2 := fun x y M R => gW M x fun a => gI y fun n => (0 ≤ n ∧ n ≤ 1000 ∧ a.length * n.toNat ≤ sizeLine) ∧ ∀ p, M p = none → R (.r p) (mset M p (.lst (List.replicate n.toNat a).flatten))
theorem so_repL : SO K rRep fRepL := fun F H M v u x y R Q hr rx ry hf k => by
  obtain ⟨p, vs, ws, rfl, h1, h2, h3⟩ := gW_of hr rx hf
  obtain ⟨n, rfl, ⟨c1, c2, c3⟩, h6⟩ := gI_of h3
  refine ⟨p, n, vs, rfl, ry.int, h1, by omega, by omega, by rw [h2.len]; exact c3, fun t ht => ?_⟩
  obtain ⟨r2, g2⟩ := hr.born (u := .lst (List.replicate n.toNat vs).flatten) (o := .lst (List.replicate n.toNat ws).flatten) ht ⟨_, rfl, h2.rep n.toNat⟩
  exact k _ _ _ _ _ r2 g2 (.r t) (h6 t (hr.new ht))
end Tl
set_option Elab.async false
set_option linter.all false
set_option maxRecDepth 100000
set_option maxHeartbeats 4000000
/-! Elders and levels, up to eleven. -/
namespace Tl
open PySem L2
structure RelE11 (es ls : List Nat) : Prop where
  first : ls[0]? = some 1
  lev : ∀ (j l : Nat), ls[j]? = some l → 1 ≤ l ∧ l ≤ 11
  eld : ∀ (j e : Nat), 1 ≤ j → es[j]? = some e → e < j ∧ ∀ (l l' : Nat), ls[e]? = some l → ls[j]? = some l' → l' = l + 1
theorem RelE11.app {es ls : List Nat} (r : RelE11 es ls) {e l : Nat} (hlen : es.length = ls.length) (he : ls[e]? = some l) (hl : l ≤ 10) : RelE11 (es ++ [e]) (ls ++ [l + 1]) := by
  have hel : e < ls.length := (List.getElem?_eq_some_iff.mp he).1
  refine ⟨?_, fun j m h => ?_, fun j e' hj h => ?_⟩
  · rw [List.getElem?_append_left (by omega)]
    exact r.first
  · rcases get_snoc h with ⟨_, h⟩ | ⟨_, rfl⟩
    · exact r.lev j m h
    · omega
  · rcases get_snoc h with ⟨c, h⟩ | ⟨rfl, rfl⟩
    · obtain ⟨h1, h2⟩ := r.eld j e' hj h
      refine ⟨h1, fun a b ha hb => ?_⟩
      rw [List.getElem?_append_left (by omega)] at ha hb
      exact h2 a b ha hb
    · refine ⟨by omega, fun a b ha hb => ?_⟩
      rw [List.getElem?_append_left hel] at ha
      rw [hlen, List.getElem?_append_right (Nat.le_refl _), Nat.sub_self] at hb
      rw [he] at ha
      cases ha
      exact (Option.some.inj hb).symm
theorem RelE11.one : RelE11 [0] [1] := by
  refine ⟨rfl, fun j l h => ?_, fun j e hj h => ?_⟩
  · match j, h with
    | 0, h => have := Option.some.inj h; omega
    | j + 1, h => simp at h
  · match j, h with
    | 0, _ => omega
    | j + 1, h => simp at h
end Tl
set_option Elab.async false
set_option linter.all false
set_option maxRecDepth 100000
set_option maxHeartbeats 8000000
namespace Tl
open PySem L2 RZ
local macro_rules
  | `(tactic| decreasing_trivial) => `(tactic| ((with_reducible (conv => whnf)); (repeat ((first | (with_reducible refine gDs_c ?_) | (with_reducible refine gDs_n ?_) | (with_reducible refine gNs_c ?_) | (with_reducible refine gNs_n ?_) | (with_reducible refine gO_i tyAny_lt ?_) | (with_reducible refine gIs_c ?_) | (with_reducible refine gIs_n ?_) | (with_reducible refine gBs_c ?_) | (with_reducible refine gBs_n ?_) | (with_reducible refine gSs_c ?_) | (with_reducible refine gSs_n ?_) | (with_reducible refine gO_i tyIs_int ?_) | (with_reducible refine gO_i tyIs_bool ?_) | (with_reducible refine gO_i tyIs_str ?_) | (with_reducible refine gO_i tyIs_tuple ?_) | (with_reducible refine gO_i tyIs_list ?_) | (with_reducible refine gDs_i ?_) | (with_reducible refine gO_i (Eq.refl _) ?_) | (with_reducible refine gO_i (by assumption) ?_) | (with_reducible refine gO_i at_0 ?_) | (with_reducible refine gO_i at_m0 ?_) | (with_reducible refine gO_i at_1 ?_) | (with_reducible refine gO_i at_m1 ?_) | (with_reducible refine gO_i at_2 ?_) | (with_reducible refine gO_i at_m2 ?_) | (with_reducible refine gO_i at_3 ?_) | (with_reducible refine gO_i at_m3 ?_) | (with_reducible refine gO_i at_4 ?_) | (with_reducible refine gO_i at_m4 ?_) | (with_reducible refine gO_i at_5 ?_) | (with_reducible refine gO_i at_m5 ?_) | (with_reducible refine gO_i at_6 ?_) | (with_reducible refine gO_i at_m6 ?_) | (with_reducible refine gO_i at_7 ?_) | (with_reducible refine gO_i at_m7 ?_) | (with_reducible refine IfB.ngf ?_) | (with_reducible refine IfB.ngt ?_) | (with_reducible refine IfB.not ?_) | (with_reducible refine IfB.nil ?_) | (with_reducible refine IfB.nilT ?_) | (with_reducible refine IfB.f isE_c ?_) | (with_reducible refine IfB.t isE_n ?_) | (with_reducible refine IfB.t ?gha ?_; (case gha => rfl)) | (with_reducible refine IfB.f ?gha ?_; (case gha => rfl)) | (with_reducible refine IfB.t ?gha ?_; (case gha => assumption)) | (with_reducible refine IfB.f ?gha ?_; (case gha => assumption)) | (with_reducible refine IfB.yes (Eq.refl _) ?_) | (with_reducible refine IfB.yes ?gha ?_; (case gha => (first | omega | (simp only [len_c, len_n, List.length_map]; omega)))) | (with_reducible refine IfB.no ?gha ?_; (case gha => (first | omega | (simp only [len_c, len_n, List.length_map]; omega)))) | (with_reducible refine IfB.t ?gha ?_; (case gha => decide +kernel)) | (with_reducible refine IfB.f ?gha ?_; (case gha => decide +kernel))); (with_reducible (conv => whnf))))))
local macro_rules
  | `(tactic| decreasing_trivial_pre_omega) => `(tactic| (decreasing_trivial; (repeat ((first | ((with_reducible refine And.intro ?gha ?_); (case gha => (first | assumption | omega | exact rfl | (exact mset_same) | (exact ⟨_, mset_same⟩) | (exact Exists.intro _ (by first | exact mset_same | assumption | (rw [mset_ne (by assumption)]; first | exact mset_same | assumption))) | (exact sm_of (by omega) (by omega)) | (exact sz1000 (by first | omega | (simp; done) | (simp; omega))) | (exact Or.inl ⟨by decide, by decide⟩) | decide | (simp; done) | (refine ⟨?_, ?_⟩ <;> (first | assumption | omega | exact rfl | (exact mset_same) | (exact ⟨_, mset_same⟩) | (exact Exists.intro _ (by first | exact mset_same | assumption | (rw [mset_ne (by assumption)]; first | exact mset_same | assumption))) | (exact sm_of (by omega) (by omega)) | (exact sz1000 (by first | omega | (simp; done) | (simp; omega))) | (exact Or.inl ⟨by decide, by decide⟩) | decide | (simp; done))) | (refine ⟨?_, ?_, ?_⟩ <;> (first | assumption | omega | exact rfl | (exact mset_same) | (exact ⟨_, mset_same⟩) | (exact Exists.intro _ (by first | exact mset_same | assumption | (rw [mset_ne (by assumption)]; first | exact mset_same | assumption))) | (exact sm_of (by omega) (by omega)) | (exact sz1000 (by first | omega | (simp; done) | (simp; omega))) | (exact Or.inl ⟨by decide, by decide⟩) | decide | (simp; done))) | (refine ⟨?_, ?_, ?_, ?_⟩ <;> (first | assumption | omega | exact rfl | (exact mset_same) | (exact ⟨_, mset_same⟩) | (exact Exists.intro _ (by first | exact mset_same | assumption | (rw [mset_ne (by assumption)]; first | exact mset_same | assumption))) | (exact sm_of (by omega) (by omega)) | (exact sz1000 (by first | omega | (simp; done) | (simp; omega))) | (exact Or.inl ⟨by decide, by decide⟩) | decide | (simp; done)))))) | (with_reducible refine exW (by first | exact mset_same | assumption | (rw [mset_ne (by assumption)]; first | exact mset_same | assumption)) ?_)); decreasing_trivial))))
/-- a tree of at most so many places -/
@[reducible] def tfTreeS (b : Bool) : TF := fun ws M R _ => g2 ws fun x y => gR x fun st => gI y fun most => (M st = some (.src b) ∧ 1 ≤ most ∧ most ≤ 60) ∧ ∀ d, TrT 12 d → ((nn d : Nat) : Int) ≤ most → R (.d d) M
structure Rel12 (es ls : List Nat) : Prop where
  first : ls[0]? = some 1
  lev : ∀ (j l : Nat), ls[j]? = some l → 1 ≤ l ∧ l ≤ 12
  eld : ∀ (j e : Nat), 1 ≤ j → es[j]? = some e → e < j ∧ ∀ (l l' : Nat), ls[e]? = some l → ls[j]? = some l' → l' = l + 1
theorem Rel12.app {es ls : List Nat} (r : Rel12 es ls) {e l : Nat} (hlen : es.length = ls.length) (he : ls[e]? = some l) (hl : l ≤ 11) : Rel12 (es ++ [e]) (ls ++ [l + 1]) := by
  have hel : e < ls.length := (List.getElem?_eq_some_iff.mp he).1
  refine ⟨?_, fun j m h => ?_, fun j e' hj h => ?_⟩
  · rw [List.getElem?_append_left (by omega)]
    exact r.first
  · rcases get_snoc h with ⟨_, h⟩ | ⟨_, rfl⟩
    · exact r.lev j m h
    · omega
  · rcases get_snoc h with ⟨c, h⟩ | ⟨rfl, rfl⟩
    · obtain ⟨h1, h2⟩ := r.eld j e' hj h
      refine ⟨h1, fun a b ha hb => ?_⟩
      rw [List.getElem?_append_left (by omega)] at ha hb
      exact h2 a b ha hb
    · refine ⟨by omega, fun a b ha hb => ?_⟩
      rw [List.getElem?_append_left hel] at ha
      rw [hlen, List.getElem?_append_right (Nat.le_refl _), Nat.sub_self] at hb
      rw [he] at ha
      cases ha
      exact (Option.some.inj hb).symm
theorem Rel12.one : Rel12 [0] [1] := by
  refine ⟨rfl, fun j l h => ?_, fun j e hj h => ?_⟩
  · match j, h with
    | 0, h => have := Option.some.inj h; omega
    | j + 1, h => simp at h
  · match j, h with
    | 0, _ => omega
    | j + 1, h => simp at h
def nsW (es : List Nat) : List W := es.map fun (n : Nat) => W.d (.int (n : Int))
theorem nsW_get {es : List Nat} {j e : Nat} (h : es[j]? = some e) : atI (nsW es) (j : Int) = some (.d (.int (e : Int))) := atI_nat (by
  unfold nsW
  rw [List.getElem?_map, h]
  rfl)
theorem nsW_app (es : List Nat) (e : Nat) : nsW es ++ [.d (.int (e : Int))] = nsW (es ++ [e]) := by
  unfold nsW
  rw [List.map_append]
  rfl
theorem nsW_len (es : List Nat) : (nsW es).length = es.length := List.length_map _
/-- the parts whose number above is k -/
def pick (k : Nat) : List Nat → List PyData → List PyData
  | e :: es, d :: ds => if e = k then d :: pick k es ds else pick k es ds
  | _, _ => []
def wLt (k : Nat) : List Nat → List PyData → Nat
  | e :: es, d :: ds => (if e < k then nn d else 0) + wLt k es ds
  | _, _ => 0
theorem wLt_succ (k : Nat) : ∀ (es : List Nat) (ds : List PyData), wLt (k + 1) es ds = wLt k es ds + nnAll (pick k es ds)
  | [], _ => rfl
  | _ :: _, [] => rfl
  | e :: es, d :: ds => by
    have ih := wLt_succ k es ds
    rw [wLt, wLt, pick, ih]
    by_cases c : e = k
    · have c1 : e < k + 1 := by omega
      have c2 : ¬ e < k := by omega
      rw [if_pos c, if_pos c1, if_neg c2, nnAll]; omega
    · by_cases c2 : e < k
      · have c1 : e < k + 1 := by omega
        rw [if_neg c, if_pos c1, if_pos c2]; omega
      · have c1 : ¬ e < k + 1 := by omega
        rw [if_neg c, if_neg c1, if_neg c2]; omega
theorem wLt_0 : ∀ (es : List Nat) (ds : List PyData), wLt 0 es ds = 0
  | [], _ => rfl
  | _ :: _, [] => rfl
  | e :: es, d :: ds => by rw [wLt, wLt_0 es ds]; rfl
theorem pick_mem {k : Nat} : ∀ {es : List Nat} {ds : List PyData} {t : PyData}, t ∈ pick k es ds → ∃ j : Nat, es[j]? = some k ∧ ds[j]? = some t
  | [], _, _, h => nomatch h
  | _ :: _, [], _, h => nomatch h
  | e :: es, d :: ds, t, h => by
    rw [pick] at h
    split at h
    · rename_i c
      rcases List.mem_cons.mp h with z | z
      · exact ⟨0, by rw [c]; rfl, by rw [z]; rfl⟩
      · obtain ⟨j, h1, h2⟩ := pick_mem z
        exact ⟨j + 1, h1, h2⟩
    · obtain ⟨j, h1, h2⟩ := pick_mem h
      exact ⟨j + 1, h1, h2⟩
theorem pick_range (k : Nat) : ∀ (es : List Nat) (ds : List PyData), es.length = ds.length → ((List.range ds.length).filter fun j => decide (es[j]? = some k)).map (fun j => W.d (ds.getD j .none)) = (pick k es ds).map W.d
  | [], [], _ => rfl
  | e :: es, d :: ds, h => by
    have ih := pick_range k es ds (by simpa using h)
    rw [List.length_cons, List.range_succ_eq_map, List.filter_cons, List.filter_map]
    have e1 : ((fun j => decide ((e :: es)[j]? = some k)) ∘ Nat.succ) = fun j => decide (es[j]? = some k) := by
      funext j
      rfl
    rw [e1, pick]
    have e2 : List.map (fun j => W.d ((d :: ds).getD j PyData.none)) (List.map Nat.succ (List.filter (fun j => decide (es[j]? = some k)) (List.range ds.length))) = (pick k es ds).map W.d := by
      rw [List.map_map, ← ih]
      rfl
    by_cases c : e = k
    · rw [if_pos (by simp [c]), if_pos c, List.map_cons, List.map_cons, e2]
      rfl
    · rw [if_neg (by simp [c]), if_neg c, e2]
  | [], _ :: _, h => by cases h
  | _ :: _, [], h => by cases h
theorem ixN_n {n i : Nat} (h : i < n) : ixN n (i : Int) = some i := by
  unfold ixN
  rw [if_pos (by omega), if_pos (by omega)]
  rfl
def partsW (n : Nat) (D : List PyData) : List W := (List.replicate n (PyData.tuple []) ++ D).map W.d
theorem partsW_0 (n : Nat) : (List.replicate n (List.map W.d [PyData.tuple []])).flatten = partsW n [] := by
  unfold partsW
  rw [List.append_nil]
  induction n with
  | zero => rfl
  | succ n ih => rw [List.replicate_succ, List.replicate_succ, List.flatten_cons, ih]; rfl
theorem partsW_len (n : Nat) (D : List PyData) : (partsW n D).length = n + D.length := by unfold partsW; simp
theorem partsW_set (n : Nat) (D : List PyData) (t : PyData) : (partsW (n + 1) D).set n (.d t) = partsW n (t :: D) := by
  unfold partsW
  rw [List.map_append, List.map_append, List.map_replicate, List.map_replicate, List.set_append_left _ _ (by simp), List.replicate_succ', List.set_append_right _ _ (by simp)]
  simp
theorem partsW_get {n j : Nat} {D : List PyData} {t : PyData} (h : D[j]? = some t) : (partsW n D)[n + j]? = some (.d t) := by
  unfold partsW
  rw [List.getElem?_map, List.getElem?_append_right (by simp), List.length_replicate, Nat.add_sub_cancel_left, h]
  rfl
section
variable {P : Program} {w : World} {K : PySem.W.Frag} {mg : Str → Option Value} {base : Heap}
abbrev sTreeS : Stmt := top 41
theorem scTreeS : FnScope ["_law_state", "_law_most", "_law_many", "_law_above", "_law_levels", "_law_shape", "_law_k", "_law_parts", "_law_up", "_law_j"] ["_law_state", "_law_most"] (defScope sTreeS) := ⟨rfl, rfl, rfl, by decide +kernel, rfl, by decide +kernel, by decide +kernel⟩
theorem ok_treeS {f : Addr} {fd : FuncData} {k j : Nat} (F : Fun K "_law_tree" "_law_tree" sTreeS f fd) (U_law_take : Use P w K mg base "_law_take" ["_law_state", "_law_below"] j (spD K 2 (tfNext false))) (U_law_tag : Use P w K mg base "_law_tag" ["_law_state"] j (spD K 1 tfTagL)) (hj : j ≤ k) (T : Bl mg) (mMin : mg "min" = none) : FnOk P w K mg base CX0 (k + 1) f fd ["_law_state", "_law_most"] (spD K 2 (tfTreeS false)) := by
  refine okDL F scTreeS rfl fun cdv A outer s H E hr => ?_
  refine ⟨_, _, (pss_cons (ps_set (i := 2) scTreeS.nd rfl (.inl rfl) (pe_op op_add pe_int (pe_call U_law_take.ok (hr.mono (by omega)) rfl U_law_take.m U_law_take.kp U_law_take.b .nil pass0 (pa_cons (pv 0) (pa_cons (pv 1) pa_nil)))))
    (pss_cons (ps_set (i := 3) scTreeS.nd rfl (.inr rfl) (pe_lst (pa_cons pe_int pa_nil)))
    (pss_cons (ps_set (i := 4) scTreeS.nd rfl (.inl rfl) (pe_lst (pa_cons pe_int pa_nil)))
    (pss_cons (ps_set (i := 5) scTreeS.nd rfl (.inl rfl) (pe_call U_law_take.ok (hr.mono (by omega)) rfl U_law_take.m U_law_take.kp U_law_take.b .nil pass0 (pa_cons (pv 0) (pa_cons pe_int pa_nil))))
    (pss_cons (ps_for PassesOwn.never rfl (pi_range2 (by rfl) T.range (pa_cons pe_int (pa_cons (pv 2) pa_nil))) (pg_name (i := 6) scTreeS.nd rfl (.inr rfl)) (pss_cons (ps_set (i := 8) scTreeS.nd rfl (.inl rfl) (pe_ix ix_list (pe_lst (pa_cons (pe_op op_sub (pv 6) pe_int) (pa_cons (pe_call U_law_take.ok (hr.mono (by omega)) rfl U_law_take.m U_law_take.kp U_law_take.b .nil pass0 (pa_cons (pv 0) (pa_cons (pe_callB (call_min2 rfl) (by rfl) mMin PyProof.Rows.boot_min (pa_cons (pv 6) (pa_cons pe_int pa_nil))) pa_nil))) (pa_cons (pe_call U_law_take.ok (hr.mono (by omega)) rfl U_law_take.m U_law_take.kp U_law_take.b .nil pass0 (pa_cons (pv 0) (pa_cons (pv 6) pa_nil))) pa_nil)))) (pe_ix ix_list (pe_lst (pa_cons (pv 5) (pa_cons pe_int pa_nil))) (pe_call U_law_take.ok (hr.mono (by omega)) rfl U_law_take.m U_law_take.kp U_law_take.b .nil pass0 (pa_cons (pv 0) (pa_cons pe_int pa_nil))) (fun _ _ => rfl)) (fun _ _ => rfl)))
      (pss_cons (ps_if (pt_cmpR op_eq (pe_ix ix_list (pv 4) (pv 8) (fun _ _ => rfl)) pe_int (nomark _)) (pss_one (ps_set (i := 8) scTreeS.nd rfl (.inl rfl) (pe_call U_law_take.ok (hr.mono (by omega)) rfl U_law_take.m U_law_take.kp U_law_take.b .nil pass0 (pa_cons (pv 0) (pa_cons pe_int pa_nil))))) pss_nil)
      (pss_cons (ps_expr (pe_bm PySem.F.plainAttrs_list PySem.F.slot_list_append PySem.F.type_list_append mt_append (pv 3) (pa_cons (pv 8) pa_nil)))
      (pss_one (ps_expr (pe_bm PySem.F.plainAttrs_list PySem.F.slot_list_append PySem.F.type_list_append mt_append (pv 4) (pa_cons (pe_op op_add (pe_ix ix_list (pv 4) (pv 8) (fun _ _ => rfl)) pe_int) pa_nil))))))))
    (pss_cons (ps_set (i := 7) scTreeS.nd rfl (.inr rfl) (pe_op op_rep (pe_lst (pa_cons (pe_tup pa_nil) pa_nil)) (pv 2)))
    (pss_cons (ps_for PassesOwn.never rfl (pi_range3 (by rfl) T.range (pa_cons (pe_op op_sub (pv 2) pe_int) (pa_cons (pe_un un_neg pe_int) (pa_cons (pe_un un_neg pe_int) pa_nil)))) (pg_name (i := 6) scTreeS.nd rfl (.inr rfl)) (pss_one (ps_asg (pe_tup (pa_cons (pe_call U_law_tag.ok (hr.mono (by omega)) rfl U_law_tag.m U_law_tag.kp U_law_tag.b .nil pass0 (pa_cons (pv 0) pa_nil)) (pa_cons (pe_callTy call_tuple_of (by rfl) T.tuple PyProof.Rows.boot_tuple (pa_cons (pe_lc (own := [("_law_j", 9)]) (g := gName 9) (by rfl) scTreeS.nd (pi_range2 (by rfl) T.range (pa_cons (pe_op op_add (pv 6) pe_int) (pa_cons (pv 2) pa_nil))) (blkOk_by (N := ["_law_state", "_law_most", "_law_many", "_law_above", "_law_levels", "_law_shape", "_law_k", "_law_parts", "_law_up", "_law_j"]) (sc := defScope sTreeS) (own := [("_law_j", 9)]) (by decide +kernel)) (fun _ _ _ _ _ => pg_name (i := 9) scTreeS.nd rfl (Or.inl rfl)) (fun _ _ _ _ _ => (pts_one (pt_cmpR op_eq (pe_ix ix_list (pv 3) (pv 9) (fun _ _ => rfl)) (pv 6) (nomark _)))) (fun _ _ _ _ _ => (pe_ix ix_list (pv 7) (pv 9) (fun _ _ => rfl)))) pa_nil)) pa_nil))) (pg_sub (pv 7) (pv 6) set_list))))
    (pss_one (ps_ret (pe_ix ix_list (pv 7) pe_int (fun _ _ => rfl))))))))))),
    (ss_cons (ss_set (se_op so_add se_int (se_call (sa_cons se_nm (sa_cons se_nm sa_nil)))))
    (ss_cons (ss_set (se_lst (sa_cons se_int sa_nil)))
    (ss_cons (ss_set (se_lst (sa_cons se_int sa_nil)))
    (ss_cons (ss_set (se_call (sa_cons se_nm (sa_cons se_int sa_nil))))
    (ss_cons (ss_for (si_r2 (sa_cons se_int (sa_cons se_nm sa_nil))) sg_name (ss_cons (ss_set (se_op so_ixL (se_lsf (sa_cons (se_op so_sub se_nm se_int) (sa_cons (se_call (sa_cons se_nm (sa_cons (se_cb sc_min2 (sa_cons se_nm (sa_cons se_int sa_nil))) sa_nil))) (sa_cons (se_call (sa_cons se_nm (sa_cons se_nm sa_nil))) sa_nil)))) (se_op so_ixL (se_lsf (sa_cons se_nm (sa_cons se_int sa_nil))) (se_call (sa_cons se_nm (sa_cons se_int sa_nil))))))
      (ss_cons (ss_if (st_test (se_op so_eqS (se_op so_ixL se_nm se_nm) se_int)) (ss_set (se_call (sa_cons se_nm (sa_cons se_int sa_nil)))) ss_nil)
      (ss_cons (ss_drop (se_bmL sm_append se_nm (sa_cons se_nm sa_nil)))
      (ss_drop (se_bmL sm_append se_nm (sa_cons (se_op so_add (se_op so_ixL se_nm se_nm) se_int) sa_nil)))))))
    (ss_cons (ss_set (se_op so_repL (se_lsf (sa_cons (se_tup sa_nil) sa_nil)) se_nm))
    (ss_cons (ss_for (si_r3 (sa_cons (se_op so_sub se_nm se_int) (sa_cons (se_un su_neg se_int) (sa_cons (se_un su_neg se_int) sa_nil)))) sg_name (ss_setIx (se_tup (sa_cons (se_call (sa_cons se_nm sa_nil)) (sa_cons (se_cb sc_tuple (sa_cons (se_lcF (si_r2 (sa_cons (se_op so_add se_nm se_int) (sa_cons se_nm sa_nil))) sg_name (st_test (se_op so_eqS (se_op so_ixL se_nm se_nm) se_nm)) (se_op so_ixL se_nm se_nm)) sa_nil)) sa_nil))) se_nm se_nm ts_list))
    (ss_ret (se_op so_ixL se_nm se_int))))))))), fun ws M R RX hl h => ?_⟩
  obtain ⟨x0, y0, rfl, hf1⟩ := g2_of h
  obtain ⟨st, rfl, hf2⟩ := gR_of hf1
  obtain ⟨most, rfl, ⟨hM, hm1, hm2⟩, h3⟩ := gI_of hf2
  clear hf1 hf2 h hl
  simp only [start0, len_c, len_n, map_c, map_n, app_c, app_n, rep_0, rep_s, Nat.reduceAdd, Nat.reduceSub]
  decreasing_trivial_pre_omega
  intro m0 hm00 hm01
  decreasing_trivial_pre_omega
  obtain ⟨mn, hmn⟩ : ∃ mn : Nat, 1 + m0 = ((mn + 1 : Nat) : Int) := ⟨m0.toNat, by omega⟩
  have hmn2 : mn + 1 ≤ 60 := by omega
  intro el hel
  decreasing_trivial_pre_omega
  intro lv hlv
  decreasing_trivial_pre_omega
  have nll : lv ≠ el := fun z => by rw [z, mset_same] at hlv; cases hlv
  have nll2 : el ≠ lv := nll.symm
  rw [mset_ne nll] at hlv
  have sel : st ≠ el := fun z => by rw [z, hel] at hM; cases hM
  have slv : st ≠ lv := fun z => by rw [z, hlv] at hM; cases hM
  have hM0 : mset (mset M el (.lst [.d (.int 0)])) lv (.lst [.d (.int 1)]) st = some (.src false) := by rw [mset_ne slv, mset_ne sel]; exact hM
  decreasing_trivial_pre_omega
  intro sh hs0 hs1
  decreasing_trivial_pre_omega
  refine forR (fun i ρ M' => ∃ (es ls : List Nat) (y7 y9 : Option W), ρ = [some (.r st), some (.d (.int most)), some (.d (.int (1 + m0))), some (.r el), some (.r lv), some (.d (.int sh)), y7, none, y9, none] ∧ M' = mset (mset M el (.lst (nsW es))) lv (.lst (nsW ls)) ∧ es.length = i + 1 ∧ ls.length = i + 1 ∧ Rel12 es ls)
    ⟨[0], [1], none, none, rfl, rfl, rfl, rfl, Rel12.one⟩ (fun _ _ _ _ _ => trivial) (fun i ρ M' N hi p hN => ?_) (fun ρ M' p => ?_)
  · obtain ⟨es, ls, y7, y9, rfl, rfl, le, ll, Rl⟩ := p
    have eM : mset (mset M el (.lst (nsW es))) lv (.lst (nsW ls)) st = some (.src false) := by rw [mset_ne slv, mset_ne sel]; exact hM
    decreasing_trivial_pre_omega
    intro a1 ha10 ha11
    decreasing_trivial_pre_omega
    intro a2 ha20 ha21
    decreasing_trivial_pre_omega
    intro a3 ha30 ha31
    decreasing_trivial_pre_omega
    refine gO_atD (fun d => d = .int sh ∨ d = .int 2) ha30 ha31 (all1 (.inl rfl) (all1 (.inr rfl) all0)) fun d hd => ?_
    obtain ⟨sh2, hsh0, hsh2, rfl⟩ : ∃ s2 : Int, 0 ≤ s2 ∧ s2 < 3 ∧ d = .int s2 := by
      rcases hd with e | e
      · exact ⟨sh, hs0, hs1, e⟩
      · exact ⟨2, by decide, by decide, e⟩
    decreasing_trivial_pre_omega
    refine gO_atD (fun d => ∃ e : Nat, e ≤ i ∧ d = .int (e : Int)) hsh0 hsh2 (all1 ⟨i, Nat.le_refl _, by show PyData.int (1 + (i : Int) - 1) = _; congr 1; omega⟩ (all1 ⟨a1.toNat, by omega, by congr 1; omega⟩ (all1 ⟨a2.toNat, by omega, by congr 1; omega⟩ all0))) fun d hd => ?_
    obtain ⟨e, hei, rfl⟩ := hd
    obtain ⟨l, hl⟩ : ∃ l, ls[e]? = some l := ⟨ls[e]'(by omega), List.getElem?_eq_getElem _⟩
    have hl12 := Rl.lev e l hl
    have m1 : ∀ {x y : MO}, mset (mset M el x) lv y el = some x := fun {x y} => by rw [mset_ne nll2]; exact mset_same
    have m2 : ∀ {x y z : MO}, mset (mset (mset M el x) lv y) el z = mset (mset M el z) lv y := fun {x y z} => by
      funext b
      by_cases h1 : b = el
      · subst h1
        rw [mset_same, m1]
      · rw [mset_ne h1]
        by_cases h2 : b = lv
        · subst h2
          rw [mset_same, mset_same]
        · rw [mset_ne h2, mset_ne h2, mset_ne h1, mset_ne h1]
    have lE : (nsW es).length < sizeLine := by rw [nsW_len]; exact small1000 (by omega)
    have lL : (nsW ls).length < sizeLine := by rw [nsW_len]; exact small1000 (by omega)
    have goal : ∀ e' l' : Nat, ls[e']? = some l' → l' ≤ 11 → N [some (.r st), some (.d (.int most)), some (.d (.int (1 + m0))), some (.r el), some (.r lv), some (.d (.int sh)), some (.d (.int (1 + (i : Int)))), none, some (.d (.int (e' : Int))), none] (mset (mset M el (.lst (nsW es ++ [.d (.int (e' : Int))]))) lv (.lst (nsW ls ++ [.d (.int ((l' : Int) + 1))]))) := fun e' l' h1 h2 => by
      refine hN _ _ ⟨es ++ [e'], ls ++ [l' + 1], _, _, rfl, ?_, by rw [List.length_append, le]; rfl, by rw [List.length_append, ll]; rfl, Rl.app (by omega) h1 h2⟩
      rw [← nsW_app, ← nsW_app]
      rfl
    decreasing_trivial_pre_omega
    refine gO_i (nsW_get hl) ?_
    decreasing_trivial_pre_omega
    refine IfB.d (fun c => ?_) (fun c => ?_)
    · decreasing_trivial_pre_omega
      intro a4 ha40 ha41
      obtain rfl : a4 = 0 := by omega
      decreasing_trivial_pre_omega
      refine gO_i (nsW_get (j := 0) Rl.first) ?_
      decreasing_trivial_pre_omega
      rw [m2, mset_mset]
      exact goal 0 1 Rl.first (by decide)
    · decreasing_trivial_pre_omega
      refine gO_i (nsW_get hl) ?_
      decreasing_trivial_pre_omega
      rw [m2, mset_mset]
      exact goal e l hl (by omega)
  · obtain ⟨es, ls, y7, y9, rfl, rfl, le, ll, Rl⟩ := p
    have hn : (1 + m0 - 1).toNat = mn := by omega
    rw [hn] at le ll
    decreasing_trivial_pre_omega
    have sub1 : ∀ a o, M a = some o → mset (mset M el (.lst (nsW es))) lv (.lst (nsW ls)) a = some o := fun a o h => by
      rw [mset_ne (fun z => by rw [z, hlv] at h; cases h), mset_ne (fun z => by rw [z, hel] at h; cases h)]
      exact h
    have e1 : mset (mset M el (.lst (nsW es))) lv (.lst (nsW ls)) el = some (.lst (nsW es)) := by rw [mset_ne nll2]; exact mset_same
    generalize mset (mset M el (.lst (nsW es))) lv (.lst (nsW ls)) = M3 at sub1 e1
    intro pt hpt
    have hn3 : (1 + m0).toNat = mn + 1 := by omega
    rw [hn3, partsW_0]
    have sub2 : ∀ (Q : List W) a o, M a = some o → mset M3 pt (.lst Q) a = some o := fun Q a o h => by
      rw [mset_ne (fun z => by rw [z] at h; rw [sub1 _ _ h] at hpt; cases hpt)]
      exact sub1 _ _ h
    have e2 : ∀ Q : List W, mset M3 pt (.lst Q) el = some (.lst (nsW es)) := fun Q => by
      rw [mset_ne (fun z => by rw [z] at e1; rw [e1] at hpt; cases hpt)]
      exact e1
    decreasing_trivial_pre_omega
    refine ⟨_, RgC.neg (by omega) (by omega) (by omega) (by omega), ?_⟩
    have hn4 : (1 + m0 - 1 - -1).toNat = mn + 1 := by omega
    rw [hn4]
    refine forRC (fun i ρ M' => ∃ (D : List PyData) (z7 : Option W), ρ = [some (.r st), some (.d (.int most)), some (.d (.int (1 + m0))), some (.r el), some (.r lv), some (.d (.int sh)), z7, some (.r pt), y9, none] ∧ M' = mset M3 pt (.lst (partsW (mn + 1 - i) D)) ∧ D.length = i ∧ (∀ (j : Nat) (t : PyData) (l : Nat), D[j]? = some t → ls[mn + 1 - i + j]? = some l → TrT (13 - l) t) ∧ (i ≤ mn → wLt (mn + 1 - i) (es.drop (mn + 1 - i)) D = i) ∧ (mn < i → ∃ t, D[0]? = some t ∧ nn t = mn + 1))
      ⟨[], y7, rfl, rfl, rfl, (fun j t l h => by simp at h), (fun _ => by cases List.drop (mn + 1 - 0) es <;> rfl), (fun h => by omega)⟩ (fun _ _ _ _ _ => trivial) (fun i ρ M' N hi p hN => ?_) (fun ρ M' p => ?_)
    · obtain ⟨D, z7, rfl, rfl, lD, tD, wD, _⟩ := p
      obtain ⟨kk, hkk⟩ : ∃ kk : Nat, kk + i = mn := ⟨mn - i, by omega⟩
      have hk1 : mn + 1 - i = kk + 1 := by omega
      have hk2 : mn + 1 - (i + 1) = kk := by omega
      have wD := wD (by omega)
      rw [hk1] at wD tD ⊢
      have hkv : 1 + m0 - 1 + ((i : Nat) : Int) * -1 = (kk : Int) := by omega
      have ms : mset M3 pt (.lst (partsW (kk + 1) D)) pt = some (.lst (partsW (kk + 1) D)) := mset_same
      have h8 := sub2 (partsW (kk + 1) D) _ _ hM
      have h7 := e2 (partsW (kk + 1) D)
      have hpl := partsW_len (kk + 1) D
      have ix : ixN (partsW (kk + 1) D).length (kk : Int) = some kk := ixN_n (by omega)
      rw [hkv]
      decreasing_trivial_pre_omega
      intro tgs htgs
      decreasing_trivial_pre_omega
      have hDn : (1 + m0 - ((kk : Int) + 1)).toNat = D.length := by omega
      rw [hDn]
      unfold rng
      have dl : (es.drop (kk + 1)).length = D.length := by rw [List.length_drop]; omega
      refine lc1f (fun j => decide ((es.drop (kk + 1))[j]? = some kk)) (fun j => W.d (D.getD j .none)) trivial (fun j hj Rk Rn q1 q2 => ?_) (by rw [List.length_range]; exact sz1000 (by omega)) ?_
      · have hj2 : j < D.length := List.mem_range.mp hj
        obtain ⟨e, he⟩ : ∃ e, es[kk + 1 + j]? = some e := ⟨es[kk + 1 + j]'(by omega), List.getElem?_eq_getElem _⟩
        obtain ⟨t, ht⟩ : ∃ t, D[j]? = some t := ⟨D[j]'(by omega), List.getElem?_eq_getElem _⟩
        have ge := nsW_get he
        rw [show ((kk + 1 + j : Nat) : Int) = (kk : Int) + 1 + (j : Int) by omega] at ge
        have gp : atI (partsW (kk + 1) D) ((kk : Int) + 1 + (j : Int)) = some (.d t) := by
          rw [show (kk : Int) + 1 + (j : Int) = ((kk + 1 + j : Nat) : Int) by omega]
          exact atI_nat (partsW_get ht)
        rw [List.getElem?_drop, he] at q1 q2
        have gD : D.getD j PyData.none = t := by rw [List.getD_eq_getElem?_getD, ht]; rfl
        rw [gD] at q1
        decreasing_trivial_pre_omega
        refine IfB.d (fun c => ?_) (fun c => ?_)
        · decreasing_trivial_pre_omega
          exact q1 (by rw [decide_eq_true_eq]; congr 1; omega)
        · exact q2 (by rw [decide_eq_false_iff_not]; intro z; exact c (by have := Option.some.inj z; omega))
      · rw [pick_range kk _ _ dl]
        decreasing_trivial_pre_omega
        rw [mset_mset, partsW_set]
        have hd : es.drop kk = es[kk]'(by omega) :: es.drop (kk + 1) := List.drop_eq_getElem_cons (by omega)
        have nT : nn (.tuple [.str tgs, .tuple (pick kk (es.drop (kk + 1)) D)]) = 1 + nnAll (pick kk (es.drop (kk + 1)) D) := by rw [nn]
        have ws := wLt_succ kk (es.drop (kk + 1)) D
        obtain ⟨lk, hlk⟩ : ∃ l, ls[kk]? = some l := ⟨ls[kk]'(by omega), List.getElem?_eq_getElem _⟩
        have hl12 := Rl.lev kk lk hlk
        refine hN _ _ ⟨_, _, rfl, by rw [hk2], by rw [List.length_cons, lD], fun j t l h1 h2 => ?_, fun hi2 => ?_, fun hi2 => ⟨_, rfl, ?_⟩⟩
        · rw [hk2] at h2
          cases j with
          | zero =>
            cases (show some _ = some t from h1)
            have hll : l = lk := Option.some.inj (h2.symm.trans hlk)
            rw [hll, show 13 - lk = (12 - lk) + 1 by omega]
            refine ⟨tgs, _, rfl, htgs, fun kd hkd => ?_⟩
            obtain ⟨jj, j1, j2⟩ := pick_mem hkd
            rw [List.getElem?_drop] at j1
            have hjj := (List.getElem?_eq_some_iff.mp j1).1
            obtain ⟨l2, hl2⟩ : ∃ l, ls[kk + 1 + jj]? = some l := ⟨ls[kk + 1 + jj]'(by omega), List.getElem?_eq_getElem _⟩
            have := (Rl.eld _ _ (by omega) j1).2 _ _ hlk hl2
            have tk := tD _ _ _ j2 hl2
            rw [show 12 - lk = 13 - l2 by omega]
            exact tk
          | succ j =>
            rw [show kk + (j + 1) = kk + 1 + j by omega] at h2
            exact tD j t l h1 h2
        · have hlt := (Rl.eld kk _ (by omega) (List.getElem?_eq_getElem (by omega))).1
          rw [hk2, hd, wLt, if_pos hlt, nT]
          omega
        · have hk0 : kk = 0 := by omega
          subst hk0
          rw [wLt_0] at ws
          rw [nT]
          omega
    · obtain ⟨D, z7, rfl, rfl, lD, tD, _, fD⟩ := p
      obtain ⟨t, ht, hnt⟩ := fD (by omega)
      have h8 := sub2 (partsW (mn + 1 - (mn + 1)) D)
      have ms : mset M3 pt (.lst (partsW (mn + 1 - (mn + 1)) D)) pt = some (.lst (partsW (mn + 1 - (mn + 1)) D)) := mset_same
      have tt := tD 0 t 1 ht (by rw [Nat.sub_self]; exact Rl.first)
      have gt : atI (partsW (mn + 1 - (mn + 1)) D) 0 = some (.d t) := by
        have := atI_nat (partsW_get (n := mn + 1 - (mn + 1)) ht)
        rw [Nat.sub_self] at this ⊢
        exact this
      decreasing_trivial_pre_omega
      exact ⟨M, fun a o h => h8 _ _ h, h3 _ tt (by omega)⟩
end
end Tl
set_option Elab.async false
set_option linter.all false
set_option maxRecDepth 100000
set_option maxHeartbeats 4000000
/-! Where a text stops, told sign by sign: s is 0 where a tag is needed, 1 in a tag, 2 behind a part. -/
set_option Elab.async false
set_option linter.all false
set_option maxRecDepth 100000
set_option maxHeartbeats 4000000
/-! The automaton stops where the reader stops. -/
set_option Elab.async false
set_option linter.all false
set_option maxRecDepth 100000
set_option maxHeartbeats 4000000
/-! The automaton stops where the reader stops: whole parts. -/
set_option Elab.async false
set_option linter.all false
set_option maxRecDepth 100000
set_option maxHeartbeats 4000000
/-! Signs of a tree's text; where the automaton stops. -/
namespace Tl
open PySem L2
mutual
theorem txS_ok : ∀ {n : Nat} {d : PyData}, TrT n d → ∀ c ∈ txS d, c < 0x110000
  | 0, _, h => h.elim
  | n + 1, d, h => by
    obtain ⟨s, ks, rfl, ht, hk⟩ := h
    have hs : ∀ c ∈ s.cps.toList, c < 0x110000 := by
      have h2 := (tag_str ht).2.2
      rw [PyData.strOk, ← Array.all_toList, List.all_eq_true] at h2
      intro c hc
      exact of_decide_eq_true (h2 c hc)
    cases ks with
    | nil => rw [txS]; exact hs
    | cons k ks =>
      rw [txS]
      intro c hc
      rcases List.mem_append.mp hc with h1 | h1
      · exact hs c h1
      · rcases List.mem_cons.mp h1 with rfl | h1
        · decide
        · rcases List.mem_append.mp h1 with h1 | h1
          · exact txS_ok (hk k (.head _)) c h1
          · rcases List.mem_append.mp h1 with h1 | h1
            · exact txA_ok (fun x hx => hk x (.tail _ hx)) c h1
            · cases List.mem_singleton.mp h1
              decide
termination_by _ d _ => sizeOf d
theorem txA_ok : ∀ {n : Nat} {ks : List PyData}, (∀ k ∈ ks, TrT n k) → ∀ c ∈ txA ks, c < 0x110000
  | _, [], _, c, hc => by cases hc
  | n, k :: ks, h, c, hc => by
    rw [txA] at hc
    rcases List.mem_cons.mp hc with rfl | h1
    · decide
    · rcases List.mem_append.mp h1 with h1 | h1
      · exact txS_ok (h k (.head _)) c h1
      · exact txA_ok (fun x hx => h x (.tail _ hx)) c h1
termination_by _ ks _ => sizeOf ks
end
theorem txS_str {n : Nat} {d : PyData} (h : TrT n d) : PyData.strOk (Str.mk (txS d).toArray) = true := by
  rw [PyData.strOk, ← Array.all_toList, List.all_eq_true]
  intro c hc
  exact decide_eq_true (txS_ok h c hc)
end Tl
set_option Elab.async false
set_option linter.all false
set_option maxRecDepth 100000
set_option maxHeartbeats 4000000
/-! The numbers of a tree are small. -/
namespace Tl
open PySem L2
mutual
theorem nums_int : ∀ {n : Nat} {d : PyData}, TrT n d → nn d ≤ 60 → ∀ x ∈ nums d, ∃ i : Nat, i ≤ 60 ∧ x = .int (i : Nat)
  | 0, _, h, _ => h.elim
  | n + 1, d, h, hn => by
    obtain ⟨s, ks, rfl, ht, hk⟩ := h
    obtain ⟨h1, h2, h3⟩ := tag_let ht
    have hl := len_nnA ks
    rw [nn] at hn
    have hr := numsAll_int hk (by omega)
    intro x hx
    rw [nums] at hx
    rcases List.mem_append.mp hx with hx | hx
    · rcases List.mem_cons.mp hx with rfl | hx
      · exact ⟨ks.length, by omega, rfl⟩
      · rcases List.mem_cons.mp hx with rfl | hx
        · exact ⟨s.length, by omega, rfl⟩
        · obtain ⟨c, hc, rfl⟩ := List.mem_map.mp hx
          obtain ⟨k, hk, rfl⟩ := h3 c hc
          exact ⟨1 + k, by omega, by congr 1; omega⟩
    · exact hr x hx
theorem numsAll_int : ∀ {n : Nat} {ks : List PyData}, (∀ k ∈ ks, TrT n k) → nnAll ks ≤ 60 → ∀ x ∈ numsAll ks, ∃ i : Nat, i ≤ 60 ∧ x = .int (i : Nat)
  | _, [], _, _ => fun x hx => by cases hx
  | n, k :: ks, h, hn => by
    rw [nnAll] at hn
    have h1 := nums_int (h k (.head _)) (by omega)
    have h2 := numsAll_int (fun x hx => h x (.tail _ hx)) (by omega)
    intro x hx
    rw [numsAll] at hx
    rcases List.mem_append.mp hx with hx | hx
    · exact h1 x hx
    · exact h2 x hx
end
end Tl
set_option Elab.async false
set_option linter.all false
set_option maxRecDepth 100000
set_option maxHeartbeats 4000000
/-! What is sent of a tree is read back. -/
namespace Tl
open PySem L2
theorem tw_allT {p : Nat → Bool} : ∀ {s r : List Nat} {n : Nat}, (∀ c ∈ s, p c = true) → s.length ≤ n → (∀ c r', r = c :: r' → p c = false) → ((s ++ r).take n).takeWhile p = s
  | [], r, n, _, _, hr => by
    cases r with
    | nil => simp
    | cons c r =>
      cases n with
      | zero => simp
      | succ n => rw [List.nil_append, List.take_succ_cons, List.takeWhile_cons, hr c r rfl]; rfl
  | a :: s, r, n, hs, hl, hr => by
    cases n with
    | zero => simp at hl
    | succ n =>
      rw [List.cons_append, List.take_succ_cons, List.takeWhile_cons, hs a (.head _), if_pos rfl, tw_allT (fun c hc => hs c (.tail _ hc)) (by simpa using hl) hr]
theorem tagL8 {s : Str} (h : isTag (.str s) = true) : s.cps.toList ≠ [] ∧ s.cps.toList.length ≤ 8 ∧ ∀ c ∈ s.cps.toList, small c = true := by
  obtain ⟨h1, h2, h3⟩ := tag_let h
  have e : s.cps.toList.length = s.length := by rw [Array.length_toList]; rfl
  refine ⟨fun z => ?_, by omega, fun c hc => ?_⟩
  · rw [z] at e; simp at e; omega
  · obtain ⟨k, hk, rfl⟩ := h3 c hc
    unfold small
    rw [decide_eq_true (by omega), decide_eq_true (by omega)]
    rfl
theorem nn_ge (d : PyData) : 1 ≤ nn d := by
  unfold nn
  split
  · omega
  · omega
/-- what may stand behind a part -/
def endT (r : List Nat) : Prop := r = [] ∨ ∃ c r', r = c :: r' ∧ (c = 44 ∨ c = 41)
theorem endT_not {r : List Nat} (h : endT r) : ∀ c r', r = c :: r' → small c = false := by
  intro c r' e
  rcases h with h | ⟨c2, r2, h, h2⟩
  · rw [h] at e; cases e
  · rw [h] at e
    cases e
    rcases h2 with h2 | h2 <;> (rw [h2]; decide)
theorem endT_A {ks : List PyData} {r : List Nat} : endT (txA ks ++ 41 :: r) := by
  cases ks with
  | nil => exact .inr ⟨41, r, rfl, .inr rfl⟩
  | cons k ks => rw [txA]; exact .inr ⟨44, _, rfl, .inl rfl⟩
theorem drop_at {cs : List Nat} {i : Nat} {a r : List Nat} (h : cs.drop i = a ++ r) : cs.drop (i + a.length) = r := by
  rw [← List.drop_drop, h, List.drop_left]
theorem get_of {cs : List Nat} {i c : Nat} {r : List Nat} (h : cs.drop i = c :: r) : cs[i]? = some c := by
  have := congrArg (·[0]?) h
  simpa using this
theorem back_more {cs : List Nat} {lv : Nat} (hf : ∀ {d : PyData} {i b : Nat} {r : List Nat}, TrT lv d → cs.drop i = txS d ++ r → endT r → b + nn d ≤ 60 → rdT cs lv i b = .inr (d, i + (txS d).length, b + nn d)) :
    ∀ {ks : List PyData} {n i b : Nat} {r : List Nat}, (∀ k ∈ ks, TrT lv k) → cs.drop i = txA ks ++ 41 :: r → b + nnAll ks ≤ 60 → ks.length ≤ n → more cs (rdT cs lv) n i b = .inr (ks, i + (txA ks).length, b + nnAll ks)
  | [], 0, i, b, r, _, _, _, _ => rfl
  | [], n + 1, i, b, r, _, hd, _, _ => by
    rw [txA, List.nil_append] at hd
    have := get_of hd
    rw [more, if_neg (by rw [this]; rintro ⟨_, z⟩; cases z)]
    rfl
  | k :: ks, 0, i, b, r, _, _, _, hl => by simp at hl
  | k :: ks, n + 1, i, b, r, hk, hd, hb, hl => by
    rw [nnAll] at hb
    rw [txA, List.cons_append, List.append_assoc] at hd
    have e1 := get_of hd
    have e2 : cs.drop (i + 1) = txS k ++ (txA ks ++ 41 :: r) := by
      have := drop_at (a := [44]) hd
      exact this
    have hn := nn_ge k
    have e3 := hf (b := b) (hk k (.head _)) e2 endT_A (by omega)
    have e4 := back_more hf (n := n) (i := i + 1 + (txS k).length) (b := b + nn k) (fun x hx => hk x (.tail _ hx)) (drop_at e2) (by omega) (by simpa using hl)
    rw [more, if_pos ⟨by omega, e1⟩, e3]
    dsimp only
    rw [e4, txA, nnAll, List.length_cons, List.length_append]
    dsimp only
    congr 3
    · omega
    · omega
theorem back_T {cs : List Nat} : ∀ {lv : Nat} {d : PyData} {i b : Nat} {r : List Nat}, TrT lv d → cs.drop i = txS d ++ r → endT r → b + nn d ≤ 60 → rdT cs lv i b = .inr (d, i + (txS d).length, b + nn d)
  | 0, _, _, _, _, h, _, _, _ => h.elim
  | lv + 1, d, i, b, r, h, hd, hr, hb => by
    obtain ⟨s, ks, rfl, ht, hk⟩ := h
    obtain ⟨s1, s2, s3⟩ := tagL8 ht
    rw [nn] at hb ⊢
    cases ks with
    | nil =>
      rw [txS] at hd
      have e1 : tgAt cs i = s.cps.toList := by
        unfold tgAt
        rw [hd]
        exact tw_allT s3 s2 (endT_not hr)
      have e2 := drop_at hd
      rw [rdT, e1, if_neg s1, if_neg (fun z => by
        obtain ⟨_, _, z3⟩ := z
        have := get_drop z3
        rw [e2] at this
        rcases hr with q | ⟨c, r', q, q2⟩
        · rw [q] at this; cases this
        · rw [q] at this
          injection this with a b
          omega), txS]
      rfl
    | cons k ks =>
      rw [txS, List.append_assoc, List.cons_append, List.append_assoc, List.append_assoc] at hd
      have e1 : tgAt cs i = s.cps.toList := by
        unfold tgAt
        rw [hd]
        exact tw_allT s3 s2 fun c r' e => by cases e; decide
      have e2 := drop_at hd
      rw [nnAll] at hb ⊢
      have hn := nn_ge k
      have lv0 : ¬ lv = 0 := fun z => by
        have := hk k (.head _)
        rw [z] at this
        exact this
      have e3 : cs.drop (i + s.cps.toList.length + 1) = txS k ++ (txA ks ++ 41 :: r) := drop_at (a := [40]) e2
      have e4 := back_T (b := b + 1) (hk k (.head _)) e3 endT_A (by omega)
      have e5 := drop_at e3
      have hl : ks.length ≤ 60 := by
        have := len_nnA ks
        omega
      have e6 := back_more (fun {d i b r} => back_T (cs := cs) (lv := lv) (d := d) (i := i) (b := b) (r := r)) (n := 60) (b := b + 1 + nn k) (fun x hx => hk x (.tail _ hx)) e5 (by omega) hl
      have e7 := get_of (drop_at e5)
      rw [rdT, e1, if_neg s1, if_pos ⟨lv0, by omega, get_of e2⟩, e4]
      dsimp only
      rw [e6]
      dsimp only
      rw [if_pos e7, txS]
      simp only [List.length_append, List.length_cons, List.length_nil]
      congr 3
      · omega
      · omega
theorem rt_back {d : PyData} (h : TrT 12 d) (hn : nn d ≤ 60) : rtTop (txS d) = .inr d := by
  unfold rtTop
  rw [back_T (r := []) h (by rw [List.append_nil]; rfl) (.inl rfl) (by omega)]
  dsimp only
  rw [if_neg (by omega)]
theorem txS_inj {a b : PyData} (ha : TrT 12 a) (hb : TrT 12 b) (na : nn a ≤ 60) (nb : nn b ≤ 60) (e : txS a = txS b) : a = b := by
  have h1 := rt_back ha na
  rw [e, rt_back hb nb] at h1
  cases h1
  rfl
/-! ### numbers -/
theorem numAt_of {ds : List PyData} {i : Nat} {lo hi : Int} {n : Nat} {r : List PyData} (h : ds.drop i = .int (n : Nat) :: r) (h1 : lo ≤ (n : Int)) (h2 : (n : Int) ≤ hi) : numAt ds i lo hi = some n := by
  have e : ds[i]? = some (.int (n : Nat)) := by
    have := congrArg (·[0]?) h
    simpa using this
  unfold numAt
  rw [e]
  dsimp only
  rw [if_pos ⟨by omega, h1, h2⟩]
  rfl
theorem drop_d {ds : List PyData} {i : Nat} {a r : List PyData} (h : ds.drop i = a ++ r) : ds.drop (i + a.length) = r := by
  rw [← List.drop_drop, h, List.drop_left]
theorem back_let {ds : List PyData} : ∀ {cs : List Nat} {i : Nat} {r : List PyData}, ds.drop i = (cs.map fun c : Nat => PyData.int ((c : Int) - 96)) ++ r → (∀ c ∈ cs, ∃ k < 26, c = 97 + k) → rdLet ds cs.length i = .inr (cs.map fun c => c - 96)
  | [], i, r, _, _ => rfl
  | c :: cs, i, r, h, hc => by
    obtain ⟨k, hk, rfl⟩ := hc c (.head _)
    rw [List.map_cons, List.cons_append, show ((97 + k : Nat) : Int) - 96 = ((k + 1 : Nat) : Int) by omega] at h
    have e1 := numAt_of (lo := 1) (hi := 26) h (by omega) (by omega)
    have e2 := back_let (drop_d (a := [_]) h) fun c h => hc c (.tail _ h)
    rw [List.length_cons, rdLet, e1]
    dsimp only
    rw [show i + [PyData.int ((k + 1 : Nat) : Int)].length = i + 1 from rfl] at e2
    rw [e2, List.map_cons]
    dsimp only
    congr 2
    omega
theorem back_rep {ds : List PyData} {lv : Nat} (hf : ∀ {d : PyData} {i due : Nat} {r : List PyData}, TrT lv d → ds.drop i = nums d ++ r → due + nn d ≤ 61 → rdPart ds lv i due = .inr (d, i + (nums d).length, due + nn d - 1)) :
    ∀ {ks : List PyData} {i due : Nat} {r : List PyData}, (∀ k ∈ ks, TrT lv k) → ds.drop i = numsAll ks ++ r → due + nnAll ks ≤ 60 + ks.length → rep (rdPart ds lv) ks.length i due = .inr (ks, i + (numsAll ks).length, due + nnAll ks - ks.length)
  | [], i, due, r, _, _, _ => rfl
  | k :: ks, i, due, r, hk, hd, hb => by
    have hn := nn_ge k
    have hl := len_nnA ks
    rw [nnAll, List.length_cons] at hb
    rw [numsAll, List.append_assoc] at hd
    have e1 := hf (due := due) (hk k (.head _)) hd (by omega)
    have e2 := back_rep hf (due := due + nn k - 1) (fun x hx => hk x (.tail _ hx)) (drop_d hd) (by omega)
    rw [List.length_cons, rep, e1]
    dsimp only
    rw [e2, numsAll, nnAll, List.length_append]
    dsimp only
    congr 3
    · omega
    · omega
theorem ltr_back {s : Str} (h : ∀ c ∈ s.cps.toList, ∃ k < 26, c = 97 + k) : ltr (s.cps.toList.map fun c => c - 96) = s := by
  unfold ltr
  rw [List.map_map]
  have : (s.cps.toList.map ((fun c => c + 96) ∘ fun c => c - 96)) = s.cps.toList := by
    conv => rhs; rw [← List.map_id s.cps.toList]
    refine List.map_congr_left fun c hc => ?_
    obtain ⟨k, hk, rfl⟩ := h c hc
    show 97 + k - 96 + 96 = 97 + k
    omega
  rw [this]
theorem back_P {ds : List PyData} : ∀ {lv : Nat} {d : PyData} {i due : Nat} {r : List PyData}, TrT lv d → ds.drop i = nums d ++ r → due + nn d ≤ 61 → rdPart ds lv i due = .inr (d, i + (nums d).length, due + nn d - 1)
  | 0, _, _, _, _, h, _, _ => h.elim
  | lv + 1, d, i, due, r, h, hd, hb => by
    obtain ⟨s, ks, rfl, ht, hk⟩ := h
    obtain ⟨s1, s2, s3⟩ := tag_let ht
    have es : s.cps.toList.length = s.length := by rw [Array.length_toList]; rfl
    have hl := len_nnA ks
    rw [nn] at hb ⊢
    rw [nums, List.append_assoc, List.cons_append, List.cons_append] at hd
    have hm : (ks.length : Int) ≤ (if lv = 0 then 0 else 60 - (due : Int)) := by
      split
      · rename_i z
        cases ks with
        | nil => exact Int.le_refl _
        | cons k ks =>
          have := hk k (.head _)
          rw [z] at this
          exact this.elim
      · omega
    have e1 := numAt_of (lo := 0) hd (by omega) hm
    have d1 : ds.drop (i + 1) = .int (s.length : Nat) :: ((s.cps.toList.map fun c : Nat => PyData.int ((c : Int) - 96)) ++ (numsAll ks ++ r)) := drop_d (a := [_]) hd
    have e2 := numAt_of (lo := 1) (hi := 8) d1 (by omega) (by omega)
    have d2 : ds.drop (i + 1 + 1) = (s.cps.toList.map fun c : Nat => PyData.int ((c : Int) - 96)) ++ (numsAll ks ++ r) := drop_d (a := [_]) d1
    have e3 := back_let d2 s3
    rw [es] at e3
    have d3 := drop_d d2
    rw [List.length_map, es] at d3
    have e4 : rdTag ds (i + 1) = .inr (s.cps.toList.map (fun c => c - 96), i + 1 + 1 + s.length) := by
      unfold rdTag
      rw [e2]
      dsimp only
      rw [e3]
    have e5 := back_rep (fun {d i due r} => back_P (ds := ds) (lv := lv) (d := d) (i := i) (due := due) (r := r)) (due := due + ks.length) hk d3 (by omega)
    rw [rdPart, e1]
    dsimp only
    rw [e4]
    dsimp only
    rw [e5]
    dsimp only
    rw [ltr_back s3, nums]
    simp only [List.length_append, List.length_cons, List.length_map, es]
    congr 3
    · omega
    · omega
theorem rd_back {d : PyData} (h : TrT 12 d) (hn : nn d ≤ 60) : rdTop (nums d) = .inr d := by
  unfold rdTop
  rw [back_P (r := []) h (by rw [List.append_nil]; rfl) (by omega)]
  dsimp only
  rw [if_neg (by omega)]
end Tl
set_option Elab.async false
set_option linter.all false
set_option maxRecDepth 100000
set_option maxHeartbeats 4000000
/-! Several except clauses, each with the same name behind 'as'. -/
set_option Elab.async false
set_option linter.all false
set_option maxRecDepth 100000
set_option maxHeartbeats 4000000
set_option Elab.async false
set_option linter.all false
set_option maxRecDepth 100000
set_option maxHeartbeats 4000000
/-! Dicts keyed by tuples of numbers: {}, d[k], d[k] = v, k in d. -/
namespace Tl
open PySem PySem.Spec PyProof.Rows L2
/-! ### as the hand layer asks -/
structure IsU (K : PySem.W.Frag) (H : Hp) (x : V) (a : Addr) (xs : List DU1) : Prop where
  e : x = .ref a
  h : H a = some (DU a xs)
  k : KeysU K H a xs
structure IsK (K : PySem.W.Frag) (H : Hp) (y : V) (b : Addr) (k : NestedKey) : Prop where
  e : y = .ref b
  h : KeyV K H (.ref b) k
  d : k.depth ≤ 8
def tUGet (K : PySem.W.Frag) (td ty : TE) : TE := fun σ H Q => td σ H fun x H1 => ty σ H1 fun y H2 => ∃ a b xs k v, IsU K H2 x a xs ∧ IsK K H2 y b k ∧ findU xs k = some v ∧ Q v H2
section
variable {X : Cx} {o i : Expr} {pos : Pos} {td ty : TE}
theorem pe_uget (hu : X.A.units + 20 < cLine) (ho : PE X o td) (hi : PE X i ty) (hs : NoSl i) : PE X (.Subscript o i pos) (tUGet X.K td ty) := by
  refine ⟨fun pins s σ H Q I h => ?_⟩
  refine subD_of PySem.F.slot_dict_getitem.lookup hs (thn (ho.run pins s σ H _ I h) fun u s1 ⟨x, H1, I1, rx, q1⟩ => thn (hi.run pins s1 σ H1 _ I1 q1) fun iv s2 ⟨y, H2, I2, ry, a, b, xs, k, v, ⟨ex, ea, eu⟩, ⟨ey, ek, ed⟩, hf, q2⟩ => ?_)
  subst ex ey
  obtain rfl : u = Value.ref a := rx
  obtain rfl : iv = Value.ref b := ry
  obtain ⟨ys, _, dd, _⟩ := DU_of I2 ea eu
  exact ⟨dd.typeIs, u_getItem hu I2 ea eu ek ed hf fun w' s3 I3 rw' => ⟨v, H2, I3, rw', q2⟩⟩
end
/-! ### as memory tells -/
def valU (kw : List (PyData × W)) (k : PyData) : Option W := (kw.find? fun x => decide (keyN x.1 = keyN k)).map (·.2)
def putW2 (kw : List (PyData × W)) (k : PyData) (w : W) : List (PyData × W) := if (valU kw k).isSome then kw.map (fun x => if keyN x.1 = keyN k then (x.1, w) else x) else kw ++ [(k, w)]
section
variable {K : PySem.W.Frag} {F H : Hp} {M : Mem}
theorem Rl.dT (h : Rl K F H M) {a : Addr} {kw : List (PyData × W)} (e : M a = some (.dT kw)) : ∃ xs, IsU K H (.ref a) a xs ∧ KeysU K F a xs ∧ xs.map (·.1) = kw.map (fun x => keyN x.1) ∧ (∀ x ∈ kw, keyOk x.1 = true) ∧ RWs K F (xs.map (·.2.2)) (kw.map (·.2)) := by
  obtain ⟨_, h1, xs, rfl, h2, h3, h4, h5⟩ := h.at_ a _ e
  exact ⟨xs, ⟨rfl, h1, h2.mono h.fh⟩, h2, h3, h4, h5⟩
theorem find_U {F : Hp} : ∀ {xs : List DU1} {kw : List (PyData × W)} (k : PyData), xs.map (·.1) = kw.map (fun x => keyN x.1) → RWs K F (xs.map (·.2.2)) (kw.map (·.2)) → (∀ w, valU kw k = some w → ∃ v, findU xs (keyN k) = some v ∧ RW K F v w) ∧ (valU kw k = none → findU xs (keyN k) = none)
  | [], [], k, _, _ => ⟨fun w h => (by simp [valU] at h), fun _ => rfl⟩
  | [], _ :: _, _, h, _ => by simp at h
  | _ :: _, [], _, h, _ => by simp at h
  | (kx, ax, vx) :: xs, (d, w) :: kw, k, h, r => by
    rw [List.map_cons, List.map_cons] at h r
    injection h with h1 h2
    simp only at h1
    cases r with
    | cons r1 r2 =>
      obtain ⟨i1, i2⟩ := find_U k h2 r2
      unfold valU findU at i1 i2 ⊢
      by_cases e : keyN d = keyN k
      · rw [List.find?_cons_of_pos (by simpa using e), List.find?_cons_of_pos (by simp only [decide_eq_true_eq]; exact h1.trans e)]
        exact ⟨fun w' hw => (by cases hw; exact ⟨vx, rfl, r1⟩), fun z => nomatch z⟩
      · rw [List.find?_cons_of_neg (by simpa using e), List.find?_cons_of_neg (by simp only [decide_eq_true_eq]; exact fun z => e (h1.symm.trans z))]
        exact ⟨i1, i2⟩
theorem some_U {F : Hp} {xs : List DU1} {kw : List (PyData × W)} (k : PyData) (h : xs.map (·.1) = kw.map (fun x => keyN x.1)) (r : RWs K F (xs.map (·.2.2)) (kw.map (·.2))) : (findU xs (keyN k)).isSome = (valU kw k).isSome := by
  obtain ⟨i1, i2⟩ := find_U k h r
  cases c : valU kw k with
  | none => rw [i2 c]; rfl
  | some w =>
    obtain ⟨v, e, _⟩ := i1 w c
    rw [e]
    rfl
theorem put_U {F : Hp} {xs : List DU1} {kw : List (PyData × W)} {k : PyData} {b : Addr} {v : V} {w : W} (h : xs.map (·.1) = kw.map (fun x => keyN x.1)) (r : RWs K F (xs.map (·.2.2)) (kw.map (·.2))) (rv : RW K F v w) :
    (putU xs (keyN k) b v).map (·.1) = (putW2 kw k w).map (fun x => keyN x.1) ∧ RWs K F ((putU xs (keyN k) b v).map (·.2.2)) ((putW2 kw k w).map (·.2)) := by
  have e := some_U k h r
  unfold putU putW2
  rw [e]
  split
  · rename_i hc
    clear hc e
    induction xs generalizing kw with
    | nil => cases kw with
      | nil => exact ⟨rfl, .nil⟩
      | cons y kw => simp at h
    | cons x xs ih => cases kw with
      | nil => simp at h
      | cons y kw =>
        obtain ⟨kx, ax, vx⟩ := x
        obtain ⟨d, w'⟩ := y
        rw [List.map_cons, List.map_cons] at h r
        injection h with h1 h2
        simp only at h1
        cases r with
        | cons r1 r2 =>
          obtain ⟨j1, j2⟩ := ih h2 r2
          subst h1
          simp only [List.map_cons]
          by_cases c : keyN d = keyN k
          · rw [if_pos c, if_pos c]
            exact ⟨by rw [j1], .cons rv j2⟩
          · rw [if_neg c, if_neg c]
            exact ⟨by rw [j1], .cons r1 j2⟩
  · rename_i hc
    clear hc e
    rw [List.map_append, List.map_append, List.map_append, List.map_append, h]
    refine ⟨rfl, ?_⟩
    generalize xs.map (·.2.2) = us at r
    generalize kw.map (·.2) = ws at r
    induction r with
    | nil => exact .cons rv .nil
    | cons a b ih => exact .cons a ih
theorem keys_put {F : Hp} {a : Addr} {xs : List DU1} {k : NestedKey} {b : Addr} {v : V} (h : KeysU K F a xs) (hk : KeyV K F (.ref b) k) (hd : k.depth ≤ 8) (hn : noTxt k = true) (hz : xs.length < sizeLine) : KeysU K F a (putU xs k b v) := by
  unfold putU
  split
  · refine ⟨h.sm, by rw [List.length_map]; exact h.sz, ?_, fun x hx => ?_⟩
    · have e : (xs.map fun x => if x.1 = k then (x.1, x.2.1, v) else x).map (·.1) = xs.map (·.1) := by
        rw [List.map_map]
        refine List.map_congr_left fun x _ => ?_
        show (if x.1 = k then (x.1, x.2.1, v) else x).1 = x.1
        split <;> rfl
      rw [e]
      exact h.nd
    · obtain ⟨y, hy, rfl⟩ := List.mem_map.mp hx
      have := h.ks y hy
      split
      · exact this
      · exact this
  · rename_i c
    refine ⟨h.sm, by rw [List.length_append]; exact hz, ?_, fun x hx => ?_⟩
    · rw [List.map_append, List.nodup_append]
      refine ⟨h.nd, by simp, fun x hx y hy e => ?_⟩
      simp only [List.map_cons, List.map_nil, List.mem_singleton] at hy
      subst hy
      subst e
      obtain ⟨z, hz, rfl⟩ := List.mem_map.mp hx
      refine c ?_
      unfold findU
      rw [Option.isSome_map]
      exact List.find?_isSome.mpr ⟨z, hz, by simp⟩
    · rcases List.mem_append.mp hx with hx | hx
      · exact h.ks x hx
      · rw [List.mem_singleton.mp hx]
        exact ⟨hk, hd, hn⟩
theorem ok_put {kw : List (PyData × W)} {k : PyData} {w : W} (h : ∀ x ∈ kw, keyOk x.1 = true) (hk : keyOk k = true) : ∀ x ∈ putW2 kw k w, keyOk x.1 = true := by
  unfold putW2
  intro x hx
  split at hx
  · obtain ⟨y, hy, rfl⟩ := List.mem_map.mp hx
    split
    · exact h y hy
    · exact h y hy
  · rcases List.mem_append.mp hx with hx | hx
    · exact h x hx
    · rw [List.mem_singleton.mp hx]; exact hk
end
/-- a key that is asked for -/
@[reducible] def gU (x : W) (k : PyData → Prop) : Prop := gT x fun ds => (keyOk (.tuple ds) = true ∧ (PyData.tuple ds).depth ≤ 8) ∧ k (.tuple ds)
section
variable {K : PySem.W.Frag} {Wx : WX} {RE : REx}
theorem gU_of {F H : Hp} {M : Mem} {v : V} {x : W} {k : PyData → Prop} (hr : Rl K F H M) (r : RW K F v x) (h : gU x k) : ∃ d b, x = .d d ∧ v = .ref b ∧ IsK K H v b (keyN d) ∧ KeyV K F (.ref b) (keyN d) ∧ (keyN d).depth ≤ 8 ∧ keyOk d = true ∧ k d := by
  obtain ⟨ds, rfl, ⟨h1, h2⟩, h3⟩ := gT_of h
  obtain ⟨b, xs, rfl, q1, q2⟩ := r.tup
  have kv := keyV_of (.tuple ds) _ (Dx.tup q1 q2) h1
  have kd := Nat.le_trans (keyN_depth (.tuple ds)) h2
  exact ⟨.tuple ds, b, rfl, rfl, ⟨rfl, KeyV.mono hr.fh _ _ kv, kd⟩, kv, kd, h1, h3⟩
/-- d[k] -/
@[reducible] def getU (O I : TDE) : TDE := fun ρ M R => O ρ M fun x M1 => I ρ M1 fun i M2 => gR x fun a => gU i fun k => ∃ kw, M2 a = some (.dT kw) ∧ gO (valU kw k) fun w => R w M2
theorem se_getU {td ty : TE} {O I : TDE} (h1 : SE K Wx RE td O) (h2 : SE K Wx RE ty I) : SE K Wx RE (tUGet K td ty) (getU O I) := fun F H M σ ρ R Q hr hx hs ht k =>
  h1 F H M σ ρ _ _ hr hx hs ht fun v H1 F1 M1 x r1 g1 rx q1 => h2 F1 H1 M1 σ ρ _ _ r1 (hx.mono g1) (hs.mono g1.ff) q1 fun v2 H2 F2 M2 x2 r2 g2 rx2 q3 => by
    obtain ⟨a, rfl, q2⟩ := gR_of q3
    obtain ⟨d, b, rfl, rfl, ik, _, _, _, kw, e, q4⟩ := gU_of r2 rx2 q2
    obtain ⟨w, c, q5⟩ := gO_of q4
    obtain ⟨xs, iu, _, e1, _, e2⟩ := r2.dT e
    obtain ⟨v3, e3, e4⟩ := (find_U d e1 e2).1 w c
    rw [(rx.mono g2.ff).ref]
    exact ⟨a, b, xs, keyN d, v3, iu, ik, e3, k _ _ _ _ _ r2 (g1.trans g2) e4 q5⟩
end
end Tl
set_option Elab.async false
set_option linter.all false
set_option maxRecDepth 100000
set_option maxHeartbeats 4000000
/-! dict(xs), xs a list of pairs (tuple of numbers, value). -/
namespace Tl
open PySem PySem.Spec PyProof.Rows L2
def foldU (acc xs : List DU1) : List DU1 := xs.foldl (fun a x => putU a x.1 x.2.1 x.2.2) acc
theorem Paired.foldU {xs : List DU1} {ys : List DU2} (h : Paired RelU xs ys) : ∀ {acc : List DU1} {bcc : List DU2}, Paired RelU acc bcc → Paired RelU (Tl.foldU acc xs) (storedAllH bcc ys) := by
  induction h with
  | nil => exact fun h0 => h0
  | @cons x y xs ys r t ih =>
    intro acc bcc h0
    obtain ⟨r1, r2, r3⟩ := r
    have := ih (Paired.putU h0 x.1 x.2.1 r3)
    rw [r1, r2] at this
    show Paired RelU (Tl.foldU (Tl.putU acc x.1 x.2.1 x.2.2) xs) (storedAllH (storedH bcc y.1 y.2.1 y.2.2) ys)
    rw [r1, r2]
    exact this
theorem noTxt_put {acc : List DU2} {k : NestedKey} {b : Addr} {v : Value} (h0 : ∀ y ∈ acc, noTxt y.1 = true) (hk : noTxt k = true) : ∀ y ∈ storedH acc k b v, noTxt y.1 = true := by
  intro y hy
  unfold storedH at hy
  split at hy
  · obtain ⟨z, hz, rfl⟩ := List.mem_map.mp hy
    unfold putAt
    split
    · exact h0 z hz
    · exact h0 z hz
  · rcases List.mem_append.mp hy with hy | hy
    · exact h0 y hy
    · rw [List.mem_singleton.mp hy]; exact hk
theorem noTxt_all : ∀ (ys acc : List DU2), (∀ y ∈ acc, noTxt y.1 = true) → (∀ y ∈ ys, noTxt y.1 = true) → ∀ y ∈ storedAllH acc ys, noTxt y.1 = true
  | [], _, h0, _ => h0
  | y :: ys, acc, h0, h1 => noTxt_all ys (storedH acc y.1 y.2.1 y.2.2) (noTxt_put h0 (h1 y (List.mem_cons_self ..))) fun z hz => h1 z (List.mem_cons_of_mem _ hz)
section
variable {X : Cx} {pins : List (Addr × Obj)} {σ : L2.St} {H : Hp} {s : Shared}
theorem pairs_ofU (I : Inv X pins σ H s) : ∀ {ps : List Addr} {kvs : List DU1}, Paired (fun p (x : DU1) => SqT X.K H p [.ref x.2.1, x.2.2]) ps kvs →
    ∃ ys : List DU2, Paired RelU kvs ys ∧ ys.length = ps.length ∧ ∀ (j : Nat) (y : DU2), ys[j]? = some y → ∃ b : Addr, ps[j]? = some b ∧ IsTup s.heap b #[.ref y.2.1, y.2.2]
  | _, _, .nil => ⟨[], .nil, rfl, fun j q e => by simp at e⟩
  | _, _, .cons (a := p) (b := x) h t => by
    obtain ⟨ys, r, hl, hp⟩ := pairs_ofU I t
    obtain ⟨its, rv, ht, _⟩ := I.tuple h
    obtain ⟨u, y, ei, ru, ry⟩ := vals2 rv
    subst ei
    obtain rfl : u = Value.ref x.2.1 := ru
    refine ⟨(x.1, x.2.1, y) :: ys, .cons ⟨rfl, rfl, ry⟩ r, by rw [List.length_cons, List.length_cons, hl], fun j q e => ?_⟩
    cases j with
    | zero =>
      have e' : (x.1, x.2.1, y) = q := Option.some.inj e
      subst e'
      exact ⟨p, rfl, ht⟩
    | succ j =>
      obtain ⟨b, e1, e2⟩ := hp j q (by simpa using e)
      exact ⟨b, by simpa using e1, e2⟩
def rDictU (K : PySem.W.Frag) : List V → Hp → VK → Prop := fun vs H Q => ∃ (a : Addr) (ps : List Addr) (kvs : List DU1), vs = [.ref a] ∧ SqL K H a (ps.map V.ref) ∧ Paired (fun p (x : DU1) => SqT K H p [.ref x.2.1, x.2.2]) ps kvs ∧
  (∀ x ∈ kvs, KeyV K H (.ref x.2.1) x.1 ∧ x.1.depth ≤ 8 ∧ noTxt x.1 = true) ∧ ∀ p, H p = none → (p == sysModules) = false → Q (.ref p) (upd H p (DU p (foldU [] kvs)))
theorem call_dictU (hcalm : X.calm = true) (hu : X.A.units + 20 < cLine) : CallR X (.type "dict") (rDictU X.K) := by
  intro pins s σ H vs us Q I r q
  obtain ⟨a, ps, kvs, ex, hq, hp, hk, q⟩ := q
  subst ex
  obtain ⟨u, eu, rx⟩ := vals1 r
  subst eu
  cases rx
  obtain ⟨its, rv, pl, hz⟩ := I.list hq
  have ei := refs_at rv
  subst ei
  rw [List.length_map] at hz
  obtain ⟨ys, rel, hl, hpr⟩ := pairs_ofU I hp
  obtain ⟨o, n, ho, hc, hd, hdat⟩ := pl
  have hks : ∀ y ∈ ys, (nestedKind X.prog X.w).is s.heap y.1 y.2.1 := fun y hy => by
    obtain ⟨x, hx, r1, r2, _⟩ := Paired.memU rel y hy
    obtain ⟨q1, q2, _⟩ := hk x hx
    rw [← r1, ← r2]
    exact ⟨q1.is I rfl, q2⟩
  have hnt : ∀ y ∈ ys, noTxt y.1 = true := fun y hy => by
    obtain ⟨x, hx, r1, r2, _⟩ := Paired.memU rel y hy
    rw [← r1]
    exact (hk x hx).2.2
  refine call_dict_pairsH (knd := nestedKind X.prog X.w) (ps := ys) (PairArg.list a (ps.map Value.ref).toArray (fun j => (ps[j]?).getD 0) (ys.map fun y => (Value.ref y.2.1, y.2.2))) (I.ok.hd hcalm)
    (show X.A.units + 1 + 1 + 8 < cLine by omega) ⟨⟨o, n, ho, hc, hd, hdat⟩, by simp [hl], fun j k v e => ?_⟩ ⟨by rw [List.length_map], fun i key v e => ?_⟩ ?_ (by rw [List.length_map, hl]; exact hz) fun h' tk hd' kk => ?_
  · rw [List.getElem?_map] at e
    obtain ⟨y, ey, e2⟩ := Option.map_eq_some_iff.mp e
    injection e2 with e3 e4
    obtain ⟨b, e5, e6⟩ := hpr j y ey
    refine ⟨?_, .inl ?_⟩
    · simp [e5]
    · show s.heap.IsTuple ((ps[j]?).getD 0) #[k, v]
      rw [e5, ← e3, ← e4]
      exact e6
  · rw [PairRel, List.getElem?_map] at e
    obtain ⟨y, ey, e2⟩ := Option.map_eq_some_iff.mp e
    injection e2 with e3 e4
    exact ⟨y.1, y.2.1, by rw [ey, ← e4], e3.symm⟩
  · intro h' hh x hx
    exact nestedKind_stays.stays (fun b o vs n e _ => hh b o (Nat.ne_of_lt (Heap.lt_size e)) (fun z => nomatch z) e) (hks x hx)
  · have hm : (s.heap.objs.size == sysModules) = false := beq_eq_false_iff_ne.mpr (Nat.ne_of_gt I.big)
    obtain ⟨o2, es, ep, g1, g2, g3, g4, g5, g6⟩ := hd'
    refine ⟨.ref s.heap.objs.size, upd H s.heap.objs.size (DU s.heap.objs.size (foldU [] kvs)), I.laid (t' := tk) (fun b o e => kk b o (fun z => nomatch z) e) (Nat.le_refl _) (phiU_ok ⟨storedAllH [] ys, o2, es, ep, Paired.foldU rel .nil, g1, g2, g3, fun w => ?_⟩), rfl, q _ (I.hok.fresh (Nat.le_refl _)) hm⟩
    rw [g4]
    refine List.map_congr_left fun y hy => ?_
    unfold entU
    show (⟨y.1.hash X.w, _, _⟩ : DictEntry) = _
    rw [hash_any y.1 X.w w (noTxt_all ys [] (fun _ z => nomatch z) hnt y hy)]
end
/-! ### as memory tells -/
/-- pairs as data -/
abbrev KD := List PyData × PyData
@[reducible] def dKD (x : KD) : PyData := .tuple [.tuple x.1, x.2]
def mergW (acc : List (PyData × W)) (xs : List KD) : List (PyData × W) := xs.foldl (fun a x => putW2 a (.tuple x.1) (.d x.2)) acc
@[reducible] def fDictU : FL := fun xs M R => g1 xs fun x => gR x fun a => ∃ kvs : List KD, M a = some (.lst (kvs.map fun x => .d (dKD x))) ∧ kvs.length ≤ sizeLine ∧ (∀ x ∈ kvs, keyOk (.tuple x.1) = true ∧ (PyData.tuple x.1).depth ≤ 8) ∧ ∀ p, M p = none → R (.r p) (mset M p (.dT (mergW [] kvs)))
section
variable {K : PySem.W.Frag} {F H : Hp}
theorem kd_of : ∀ {kvs : List KD} {vs : List V}, RWs K F vs (kvs.map fun x => .d (dKD x)) → (∀ x ∈ kvs, keyOk (.tuple x.1) = true ∧ (PyData.tuple x.1).depth ≤ 8) →
    ∃ (ps : List Addr) (us : List DU1), vs = ps.map V.ref ∧ Paired (fun p (x : DU1) => SqT K F p [.ref x.2.1, x.2.2]) ps us ∧ us.map (·.1) = kvs.map (fun x => keyN (.tuple x.1)) ∧ RWs K F (us.map (·.2.2)) (kvs.map fun x => .d x.2) ∧ ∀ x ∈ us, KeyV K F (.ref x.2.1) x.1 ∧ x.1.depth ≤ 8 ∧ noTxt x.1 = true
  | [], _, r, _ => by
    cases r
    exact ⟨[], [], rfl, .nil, rfl, .nil, fun x hx => by cases hx⟩
  | kv :: kvs, _, r, hk => by
    cases r with
    | cons r1 r2 =>
      obtain ⟨ps, us, rfl, h1, h2, h3, h4⟩ := kd_of r2 fun x hx => hk x (List.mem_cons_of_mem _ hx)
      obtain ⟨p, xs, rfl, q1, q2⟩ := r1.tup
      cases q2 with
      | cons d1 q3 =>
        cases q3 with
        | cons d2 q4 =>
          cases q4
          obtain ⟨ko, kd⟩ := hk kv (List.mem_cons_self ..)
          cases d1 with
          | tup e1 e2 =>
            rename_i b ys
            refine ⟨p :: ps, (keyN (.tuple kv.1), b, _) :: us, rfl, .cons q1 h1, by rw [List.map_cons, List.map_cons, h2], .cons (.d d2) h3, fun x hx => ?_⟩
            rcases List.mem_cons.mp hx with e | e
            · rw [e]
              exact ⟨keyV_of (.tuple kv.1) _ (Dx.tup e1 e2) ko, Nat.le_trans (keyN_depth (.tuple kv.1)) kd, keyN_noTxt (.tuple kv.1) ko⟩
            · exact h4 x e
theorem fold_U : ∀ {us : List DU1} {kvs : List KD}, us.map (·.1) = kvs.map (fun x => keyN (.tuple x.1)) → RWs K F (us.map (·.2.2)) (kvs.map fun x => .d x.2) → (∀ x ∈ us, KeyV K F (.ref x.2.1) x.1 ∧ x.1.depth ≤ 8 ∧ noTxt x.1 = true) → (∀ x ∈ kvs, keyOk (.tuple x.1) = true) →
    ∀ {a : Addr} {acc : List DU1} {bcc : List (PyData × W)}, acc.length + us.length ≤ sizeLine → KeysU K F a acc → acc.map (·.1) = bcc.map (fun x => keyN x.1) → RWs K F (acc.map (·.2.2)) (bcc.map (·.2)) → (∀ x ∈ bcc, keyOk x.1 = true) →
    KeysU K F a (foldU acc us) ∧ (foldU acc us).map (·.1) = (mergW bcc kvs).map (fun x => keyN x.1) ∧ RWs K F ((foldU acc us).map (·.2.2)) ((mergW bcc kvs).map (·.2)) ∧ ∀ x ∈ mergW bcc kvs, keyOk x.1 = true
  | [], [], _, _, _, _, _, _, _, _, k0, k1, k2, k3 => ⟨k0, k1, k2, k3⟩
  | [], _ :: _, h, _, _, _, _, _, _, _, _, _, _, _ => by simp at h
  | _ :: _, [], h, _, _, _, _, _, _, _, _, _, _, _ => by simp at h
  | u :: us, kv :: kvs, h, r, hu, hk, a, acc, bcc, hz, k0, k1, k2, k3 => by
    rw [List.map_cons, List.map_cons] at h r
    injection h with h1 h2
    cases r with
    | cons r1 r2 =>
      obtain ⟨q1, q2, q3⟩ := hu u (List.mem_cons_self ..)
      obtain ⟨p1, p2⟩ := put_U (k := .tuple kv.1) (b := u.2.1) k1 k2 r1
      rw [List.length_cons] at hz
      have kp := keys_put (v := u.2.2) k0 q1 q2 q3 (by omega)
      have hl : (putU acc u.1 u.2.1 u.2.2).length ≤ acc.length + 1 := by
        unfold putU
        split <;> simp
      have := fold_U h2 r2 (fun x hx => hu x (List.mem_cons_of_mem _ hx)) (fun x hx => hk x (List.mem_cons_of_mem _ hx)) (a := a) (acc := putU acc u.1 u.2.1 u.2.2) (bcc := putW2 bcc (.tuple kv.1) (.d kv.2)) (by omega) kp (by rw [h1]; exact p1) (by rw [h1]; exact p2) (ok_put k3 (hk kv (List.mem_cons_self ..)))
      exact this
end
theorem paired_mono {α β : Type} {R S : α → β → Prop} (h : ∀ a b, R a b → S a b) : ∀ {xs : List α} {ys : List β}, Paired R xs ys → Paired S xs ys
  | _, _, .nil => .nil
  | _, _, .cons a t => .cons (h _ _ a) (paired_mono h t)
section
variable {K : PySem.W.Frag}
theorem sc_dictU : SC K (rDictU K) fDictU := fun F H M vs xs R Q hr rx hf k => by
  obtain ⟨x, rfl, h1⟩ := g1_of hf
  obtain ⟨v, rfl, r⟩ := rx.one
  obtain ⟨a, rfl, kvs, h2, hz, h3, h4⟩ := gR_of h1
  obtain ⟨vs', e1, e2⟩ := hr.lst h2
  obtain ⟨ps, us, rfl, p1, p2, p3, p4⟩ := kd_of e2 h3
  rw [r.ref]
  refine ⟨a, ps, us, rfl, .inl (.inl e1), paired_mono (fun p x h => same_t hr.fh h) p1, fun x hx => ⟨KeyV.mono hr.fh _ _ (p4 x hx).1, (p4 x hx).2⟩, fun p hp hsm => ?_⟩
  have hl : us.length ≤ sizeLine := by
    have := congrArg List.length p2
    rw [List.length_map, List.length_map] at this
    omega
  obtain ⟨q1, q2, q3, q4⟩ := fold_U p2 p3 p4 (fun x hx => (h3 x hx).1) (a := p) (acc := []) (bcc := []) (by simpa using hl) ⟨hsm, Nat.zero_le _, List.nodup_nil, fun x hx => (by cases hx)⟩ rfl .nil (fun x hx => by cases hx)
  obtain ⟨r1, g1⟩ := hr.born (u := DU p (foldU [] us)) (o := .dT (mergW [] kvs)) hp ⟨_, rfl, q1, q2, q4, q3⟩
  exact k _ _ _ _ _ r1 g1 (.r p) (h4 p (hr.new hp))
end
theorem hu20 {k : Nat} {A : Around} (hr : Room k A) : A.units + 20 < cLine := by have := hr.un; omega
theorem hu65 {k : Nat} {A : Around} (hr : Room k A) : A.units + 65 < cLine := by have := hr.un; omega
/-! ### xs.index(x), data -/
@[reducible] def idxD (T : TDE) (U : TDA) : TDE := fun ρ M R => T ρ M fun x M1 => gL x fun ds => U ρ M1 fun xs M2 => g1 xs fun y => gD y fun d =>
  ((SeqAt.shaped (.list ds) = true ∧ SeqAt.shaped d = true) ∧ (PyData.list ds).hasDict = false ∧ d.hasDict = false) ∧
  ∃ (j : Nat) (z : PyData), (ds[j]? = some z ∧ PyData.eqv z d = true ∧ ∀ (m : Nat) (z' : PyData), m < j → ds[m]? = some z' → PyData.eqv z' d = false) ∧ R (.d (.int (j : Nat))) M2
section
variable {K : PySem.W.Frag} {Wx : WX} {RE : REx}
theorem se_idxD {n : Nat} {to : TE} {T : TDE} {t : TA} {U : TDA} (h : SE K Wx RE to T) (g : SAn K Wx RE n t U) : SE K Wx RE (tBM K "list" (rIndexD K) to t) (idxD T U) := fun F H M σ ρ R Q hr hx hs ht k =>
  h F H M σ ρ _ _ hr hx hs ht fun v H1 F1 M1 x r1 g1 rx q1 => by
    obtain ⟨ds, rfl, q2⟩ := gL_of q1
    obtain ⟨p, vs, rfl, e1, e2⟩ := rx.lst
    refine ⟨.inl ⟨rfl, _, SqL.of (r1.fh _ _ e1)⟩, g F1 H1 M1 σ ρ _ _ r1 (hx.mono g1) (hs.mono g1.ff) q2 fun us H2 F2 M2 xs r2 g2 rxs hl q3 => ?_⟩
    obtain ⟨y, rfl, q4⟩ := g1_of q3
    obtain ⟨u, rfl, ru⟩ := rxs.one
    obtain ⟨d, rfl, ⟨⟨s1, s2⟩, d1, d2⟩, j, z, ⟨j1, j2, j3⟩, q5⟩ := gD_of q4
    exact ⟨p, u, d, ds, j, z, rfl, rfl, Dx.dp _ _ (Dx.mono r2.fh _ _ (rx.mono g2.ff).dx) d1, Dx.dp _ _ (Dx.mono r2.fh _ _ ru.dx) d2, s1, s2, j1, j2, j3, k _ H2 F2 M2 _ r2 (g1.trans g2) (.d (.int _)) q5⟩
end
/-! ### ord(x) -/
@[reducible] def fOrd : FL := fun xs M R => g1 xs fun x => gS x fun z => z.length = 1 ∧ R (.d (.int (z.cps.getD 0 0 : Nat))) M
theorem sc_ord {K : PySem.W.Frag} : SC K (fun xs H Q => ∃ x, xs = [.str x] ∧ x.length = 1 ∧ Q (.int (x.cps.getD 0 0 : Nat)) H) fOrd := fun F H M vs xs R Q hr rx hf k => by
  obtain ⟨x, rfl, h1⟩ := g1_of hf
  obtain ⟨v, rfl, r⟩ := rx.one
  obtain ⟨z, rfl, h2, h3⟩ := gS_of h1
  rw [r.str]
  exact ⟨z, rfl, h2, k _ H F M _ hr .refl (.d (.int _)) h3⟩
end Tl
set_option Elab.async false
set_option linter.all false
set_option maxRecDepth 100000
set_option maxHeartbeats 4000000
/-! The places of a tree, one behind another, with their parts; where they begin in what is sent. -/
namespace Tl
open PySem L2
mutual
def prP (q : List Nat) : PyData → List (List Nat × PyData)
  | .tuple [s, .tuple ks] => (q, .tuple [s, .tuple ks]) :: prA q 0 ks
  | d => [(q, d)]
def prA (q : List Nat) : Nat → List PyData → List (List Nat × PyData)
  | _, [] => []
  | i, k :: ks => prP (q ++ [i]) k ++ prA q (i + 1) ks
end
def tagOf : PyData → Str
  | .tuple [.str s, _] => s
  | _ => ⟨#[]⟩
/-- numbers of a part without its kids' -/
def own1 (d : PyData) : List PyData := PyData.int ((kidsD d).length : Nat) :: .int ((tagOf d).length : Nat) :: (tagOf d).cps.toList.map fun c : Nat => PyData.int ((c : Int) - 96)
def ownN (xs : List (List Nat × PyData)) : List PyData := (xs.map fun x => own1 x.2).flatten
theorem ownN_cons (x : List Nat × PyData) (xs : List (List Nat × PyData)) : ownN (x :: xs) = own1 x.2 ++ ownN xs := rfl
theorem ownN_app (xs ys : List (List Nat × PyData)) : ownN (xs ++ ys) = ownN xs ++ ownN ys := by
  unfold ownN
  rw [List.map_append, List.flatten_append]
mutual
theorem own_P : ∀ {n : Nat} {d : PyData} {q : List Nat}, TrT n d → ownN (prP q d) = nums d
  | 0, _, _, h => h.elim
  | n + 1, d, q, h => by
    obtain ⟨s, ks, rfl, ht, hk⟩ := h
    rw [prP, ownN_cons, own_A hk, nums]
    rfl
theorem own_A : ∀ {n : Nat} {ks : List PyData} {q : List Nat} {i : Nat}, (∀ k ∈ ks, TrT n k) → ownN (prA q i ks) = numsAll ks
  | _, [], _, _, _ => by rw [prA, numsAll]; rfl
  | n, k :: ks, q, i, h => by
    rw [prA, ownN_app, own_P (h k (.head _)), own_A fun x hx => h x (.tail _ hx), numsAll]
end
mutual
theorem len_P : ∀ {n : Nat} {d : PyData} {q : List Nat}, TrT n d → (prP q d).length = nn d
  | 0, _, _, h => h.elim
  | n + 1, d, q, h => by
    obtain ⟨s, ks, rfl, ht, hk⟩ := h
    rw [prP, List.length_cons, len_A hk, nn]
    omega
theorem len_A : ∀ {n : Nat} {ks : List PyData} {q : List Nat} {i : Nat}, (∀ k ∈ ks, TrT n k) → (prA q i ks).length = nnAll ks
  | _, [], _, _, _ => by rw [prA, nnAll]; rfl
  | n, k :: ks, q, i, h => by
    rw [prA, List.length_append, len_P (h k (.head _)), len_A fun x hx => h x (.tail _ hx), nnAll]
end
/-- where a place begins: of numbers -/
def bgN : PyData → List Nat → Nat
  | _, [] => 0
  | .tuple [.str s, .tuple ks], i :: q => 2 + s.length + (numsAll (ks.take i)).length + (match ks[i]? with | some k => bgN k q | none => 0)
  | _, _ => 0
def sz1 (d : PyData) : Nat := 2 + (tagOf d).length
def szs (xs : List (List Nat × PyData)) : Nat := (xs.map fun x => sz1 x.2).sum
theorem szs_app (xs ys : List (List Nat × PyData)) : szs (xs ++ ys) = szs xs + szs ys := by
  unfold szs
  rw [List.map_append, List.sum_append]
theorem own_len (xs : List (List Nat × PyData)) : (ownN xs).length = szs xs := by
  induction xs with
  | nil => rfl
  | cons x xs ih =>
    rw [ownN_cons, List.length_append, ih]
    unfold szs
    rw [List.map_cons, List.sum_cons]
    have : (own1 x.2).length = sz1 x.2 := by
      unfold own1 sz1
      have : (tagOf x.2).cps.toList.length = (tagOf x.2).length := by rw [Array.length_toList]; rfl
      rw [List.length_cons, List.length_cons, List.length_map, this]
      omega
    omega
mutual
/-- what is known of a place's row -/
theorem at_P : ∀ {n : Nat} {d : PyData} {q : List Nat} {j : Nat} {p : List Nat} {e : PyData}, TrT n d → (prP q d)[j]? = some (p, e) → ∃ r, p = q ++ r ∧ sub d r = some e ∧ szs ((prP q d).take j) = bgN d r
  | 0, _, _, _, _, _, h, _ => h.elim
  | n + 1, d, q, j, p, e, h, hj => by
    obtain ⟨s, ks, rfl, ht, hk⟩ := h
    rw [prP] at hj ⊢
    cases j with
    | zero =>
      cases hj
      exact ⟨[], by rw [List.append_nil], by rw [sub], by rw [bgN]; rfl⟩
    | succ j =>
      rw [List.getElem?_cons_succ] at hj
      obtain ⟨i, k, r, h1, h2, h3, h4⟩ := at_A hk hj
      refine ⟨i :: r, by rw [h1, Nat.zero_add], by rw [sub_node, h2]; exact h3, ?_⟩
      rw [List.take_succ_cons]
      show szs ([_] ++ _) = _
      rw [szs_app, h4, bgN, h2]
      show (2 + s.length + 0) + ((numsAll (ks.take i)).length + bgN k r) = 2 + s.length + (numsAll (ks.take i)).length + bgN k r
      omega
theorem at_A : ∀ {n : Nat} {ks : List PyData} {q : List Nat} {b j : Nat} {p : List Nat} {e : PyData}, (∀ k ∈ ks, TrT n k) → (prA q b ks)[j]? = some (p, e) → ∃ i k r, p = q ++ (b + i) :: r ∧ ks[i]? = some k ∧ sub k r = some e ∧ szs ((prA q b ks).take j) = (numsAll (ks.take i)).length + bgN k r
  | _, [], _, _, _, _, _, _, hj => by rw [prA] at hj; cases hj
  | n, k :: ks, q, b, j, p, e, h, hj => by
    rw [prA] at hj ⊢
    have hl := len_P (q := q ++ [b]) (h k (.head _))
    by_cases c : j < (prP (q ++ [b]) k).length
    · rw [List.getElem?_append_left c] at hj
      obtain ⟨r, h1, h2, h3⟩ := at_P (h k (.head _)) hj
      refine ⟨0, k, r, by rw [h1, List.append_assoc]; rfl, rfl, h2, ?_⟩
      rw [List.take_append_of_le_length (by omega), h3, List.take_zero, numsAll]
      show _ = 0 + _
      omega
    · rw [List.getElem?_append_right (by omega)] at hj
      obtain ⟨i, k2, r, h1, h2, h3, h4⟩ := at_A (fun x hx => h x (.tail _ hx)) hj
      refine ⟨i + 1, k2, r, by rw [h1, show b + 1 + i = b + (i + 1) by omega], by rw [List.getElem?_cons_succ]; exact h2, h3, ?_⟩
      rw [List.take_append, List.take_of_length_le (by omega), szs_app, h4, List.take_succ_cons, numsAll, List.length_append, ← own_len, own_P (h k (.head _))]
      omega
end
/-- where a place begins: of texts -/
def bgT : PyData → List Nat → Nat
  | _, [] => 0
  | .tuple [.str s, .tuple ks], i :: q => s.length + 1 + (txA (ks.take i)).length + (match ks[i]? with | some k => bgT k q | none => 0)
  | _, _ => 0
mutual
theorem in_P : ∀ {n : Nat} {d : PyData} {q r : List Nat} {e : PyData}, TrT n d → sub d r = some e → (q ++ r, e) ∈ prP q d
  | 0, _, _, _, _, h, _ => h.elim
  | n + 1, d, q, r, e, h, hs => by
    obtain ⟨s, ks, rfl, ht, hk⟩ := h
    rw [prP]
    cases r with
    | nil =>
      rw [sub] at hs
      cases hs
      rw [List.append_nil]
      exact .head _
    | cons i r =>
      rw [sub_node] at hs
      cases c : ks[i]? with
      | none => rw [c] at hs; cases hs
      | some k =>
        rw [c] at hs
        have := in_A (q := q) (b := 0) hk c hs
        rw [Nat.zero_add] at this
        exact .tail _ this
theorem in_A : ∀ {n : Nat} {ks : List PyData} {q r : List Nat} {b i : Nat} {k e : PyData}, (∀ k ∈ ks, TrT n k) → ks[i]? = some k → sub k r = some e → (q ++ (b + i) :: r, e) ∈ prA q b ks
  | _, [], _, _, _, _, _, _, _, hi, _ => by simp at hi
  | n, a :: ks, q, r, b, 0, k, e, h, hi, hs => by
    cases hi
    rw [prA]
    refine List.mem_append.mpr (.inl ?_)
    have := in_P (q := q ++ [b]) (h a (.head _)) hs
    rw [List.append_assoc] at this
    exact this
  | n, a :: ks, q, r, b, i + 1, k, e, h, hi, hs => by
    rw [prA]
    refine List.mem_append.mpr (.inr ?_)
    have := in_A (q := q) (b := b + 1) (fun x hx => h x (.tail _ hx)) (by simpa using hi) hs
    rw [show b + (i + 1) = b + 1 + i by omega]
    exact this
end
/-! ### the dict of the places -/
theorem mergW_find (k : PyData) (w : W) : ∀ (xs : List KD) (acc : List (PyData × W)), (∀ x ∈ xs, keyN (.tuple x.1) = keyN k → W.d x.2 = w) → (valU acc k = some w ∨ ∃ x ∈ xs, keyN (.tuple x.1) = keyN k) → (∀ v, valU acc k = some v → v = w) → valU (mergW acc xs) k = some w
  | [], acc, _, h, _ => by
    rcases h with h | ⟨x, hx, _⟩
    · exact h
    · cases hx
  | x :: xs, acc, h1, h2, h3 => by
    show valU (mergW (putW2 acc (.tuple x.1) (.d x.2)) xs) k = some w
    have e := valU_put acc (.tuple x.1) (.d x.2) k
    by_cases c : keyN (.tuple x.1) = keyN k
    · rw [if_pos c] at e
      have e2 := e.trans (congrArg some (h1 x (.head _) c))
      exact mergW_find k w xs _ (fun y hy => h1 y (.tail _ hy)) (.inl e2) fun v hv => by rw [e2] at hv; exact (Option.some.inj hv).symm
    · rw [if_neg c] at e
      refine mergW_find k w xs _ (fun y hy => h1 y (.tail _ hy)) ?_ fun v hv => h3 v (by rw [← e]; exact hv)
      rcases h2 with h | ⟨y, hy, hy2⟩
      · exact .inl (by rw [e]; exact h)
      · rcases List.mem_cons.mp hy with z | z
        · rw [z] at hy2; exact absurd hy2 c
        · exact .inr ⟨y, z, hy2⟩
where
  valU_put (acc : List (PyData × W)) (a : PyData) (v : W) (k : PyData) : valU (putW2 acc a v) k = if keyN a = keyN k then some v else valU acc k := by
    unfold putW2
    by_cases c : (valU acc a).isSome
    · rw [if_pos c]
      unfold valU at c ⊢
      rw [Option.isSome_map] at c
      induction acc with
      | nil => cases c
      | cons y acc ih =>
        rw [List.map_cons]
        by_cases e : keyN y.1 = keyN a
        · rw [if_pos e]
          by_cases e2 : keyN a = keyN k
          · rw [if_pos e2, List.find?_cons_of_pos (by simpa using e.trans e2)]
            rfl
          · rw [if_neg e2, List.find?_cons_of_neg (by simpa using fun z => e2 (e.symm.trans z)), List.find?_cons_of_neg (by simpa using fun z => e2 (e.symm.trans z))]
            clear ih c
            induction acc with
            | nil => rfl
            | cons y2 acc ih2 =>
              rw [List.map_cons]
              by_cases e3 : keyN y2.1 = keyN a
              · rw [if_pos e3, List.find?_cons_of_neg (by simpa using fun z => e2 (e3.symm.trans z)), List.find?_cons_of_neg (by simpa using fun z => e2 (e3.symm.trans z))]
                exact ih2
              · rw [if_neg e3]
                by_cases e4 : keyN y2.1 = keyN k
                · rw [List.find?_cons_of_pos (by simpa using e4), List.find?_cons_of_pos (by simpa using e4)]
                · rw [List.find?_cons_of_neg (by simpa using e4), List.find?_cons_of_neg (by simpa using e4)]
                  exact ih2
        · rw [if_neg e]
          rw [List.find?_cons_of_neg (by simpa using e)] at c
          have := ih c
          by_cases e4 : keyN y.1 = keyN k
          · rw [List.find?_cons_of_pos (by simpa using e4), List.find?_cons_of_pos (by simpa using e4), if_neg (fun z => e (e4.trans z.symm))]
          · rw [List.find?_cons_of_neg (by simpa using e4), List.find?_cons_of_neg (by simpa using e4)]
            exact this
    · rw [if_neg c]
      unfold valU at c ⊢
      rw [List.find?_append]
      by_cases e2 : keyN a = keyN k
      · rw [if_pos e2]
        have : acc.find? (fun x => decide (keyN x.1 = keyN k)) = none := by
          rw [← e2]
          cases z : acc.find? (fun x => decide (keyN x.1 = keyN a)) with
          | none => rfl
          | some y => rw [z] at c; exact absurd rfl c
        rw [this, Option.none_or, List.find?_cons_of_pos (by simpa using e2)]
        rfl
      · rw [if_neg e2, List.find?_cons_of_neg (by simpa using e2), List.find?_nil, Option.or_none]
end Tl
set_option Elab.async false
set_option linter.all false
set_option maxRecDepth 100000
set_option maxHeartbeats 8000000
namespace Tl
open PySem L2 RZ
local macro_rules
  | `(tactic| decreasing_trivial) => `(tactic| ((with_reducible (conv => whnf)); (repeat ((first | (with_reducible refine gDs_c ?_) | (with_reducible refine gDs_n ?_) | (with_reducible refine gNs_c ?_) | (with_reducible refine gNs_n ?_) | (with_reducible refine gO_i tyAny_lt ?_) | (with_reducible refine gIs_c ?_) | (with_reducible refine gIs_n ?_) | (with_reducible refine gBs_c ?_) | (with_reducible refine gBs_n ?_) | (with_reducible refine gSs_c ?_) | (with_reducible refine gSs_n ?_) | (with_reducible refine gO_i tyIs_int ?_) | (with_reducible refine gO_i tyIs_bool ?_) | (with_reducible refine gO_i tyIs_str ?_) | (with_reducible refine gO_i tyIs_tuple ?_) | (with_reducible refine gO_i tyIs_list ?_) | (with_reducible refine gDs_i ?_) | (with_reducible refine gO_i (Eq.refl _) ?_) | (with_reducible refine gO_i (by assumption) ?_) | (with_reducible refine gO_i at_0 ?_) | (with_reducible refine gO_i at_m0 ?_) | (with_reducible refine gO_i at_1 ?_) | (with_reducible refine gO_i at_m1 ?_) | (with_reducible refine gO_i at_2 ?_) | (with_reducible refine gO_i at_m2 ?_) | (with_reducible refine gO_i at_3 ?_) | (with_reducible refine gO_i at_m3 ?_) | (with_reducible refine gO_i at_4 ?_) | (with_reducible refine gO_i at_m4 ?_) | (with_reducible refine gO_i at_5 ?_) | (with_reducible refine gO_i at_m5 ?_) | (with_reducible refine gO_i at_6 ?_) | (with_reducible refine gO_i at_m6 ?_) | (with_reducible refine gO_i at_7 ?_) | (with_reducible refine gO_i at_m7 ?_) | (with_reducible refine IfB.ngf ?_) | (with_reducible refine IfB.ngt ?_) | (with_reducible refine IfB.not ?_) | (with_reducible refine IfB.nil ?_) | (with_reducible refine IfB.nilT ?_) | (with_reducible refine IfB.f isE_c ?_) | (with_reducible refine IfB.t isE_n ?_) | (with_reducible refine IfB.t ?gha ?_; (case gha => rfl)) | (with_reducible refine IfB.f ?gha ?_; (case gha => rfl)) | (with_reducible refine IfB.t ?gha ?_; (case gha => assumption)) | (with_reducible refine IfB.f ?gha ?_; (case gha => assumption)) | (with_reducible refine IfB.yes (Eq.refl _) ?_) | (with_reducible refine IfB.yes ?gha ?_; (case gha => (first | omega | (simp only [len_c, len_n, List.length_map]; omega)))) | (with_reducible refine IfB.no ?gha ?_; (case gha => (first | omega | (simp only [len_c, len_n, List.length_map]; omega)))) | (with_reducible refine IfB.t ?gha ?_; (case gha => decide +kernel)) | (with_reducible refine IfB.f ?gha ?_; (case gha => decide +kernel))); (with_reducible (conv => whnf))))))
local macro_rules
  | `(tactic| decreasing_trivial_pre_omega) => `(tactic| (decreasing_trivial; (repeat ((first | ((with_reducible refine And.intro ?gha ?_); (case gha => (first | assumption | omega | exact rfl | (exact mset_same) | (exact ⟨_, mset_same⟩) | (exact Exists.intro _ (by first | exact mset_same | assumption | (rw [mset_ne (by assumption)]; first | exact mset_same | assumption))) | (exact sm_of (by omega) (by omega)) | (exact sz1000 (by first | omega | (simp; done) | (simp; omega))) | (exact Or.inl ⟨by decide, by decide⟩) | decide | (simp; done) | (refine ⟨?_, ?_⟩ <;> (first | assumption | omega | exact rfl | (exact mset_same) | (exact ⟨_, mset_same⟩) | (exact Exists.intro _ (by first | exact mset_same | assumption | (rw [mset_ne (by assumption)]; first | exact mset_same | assumption))) | (exact sm_of (by omega) (by omega)) | (exact sz1000 (by first | omega | (simp; done) | (simp; omega))) | (exact Or.inl ⟨by decide, by decide⟩) | decide | (simp; done))) | (refine ⟨?_, ?_, ?_⟩ <;> (first | assumption | omega | exact rfl | (exact mset_same) | (exact ⟨_, mset_same⟩) | (exact Exists.intro _ (by first | exact mset_same | assumption | (rw [mset_ne (by assumption)]; first | exact mset_same | assumption))) | (exact sm_of (by omega) (by omega)) | (exact sz1000 (by first | omega | (simp; done) | (simp; omega))) | (exact Or.inl ⟨by decide, by decide⟩) | decide | (simp; done))) | (refine ⟨?_, ?_, ?_, ?_⟩ <;> (first | assumption | omega | exact rfl | (exact mset_same) | (exact ⟨_, mset_same⟩) | (exact Exists.intro _ (by first | exact mset_same | assumption | (rw [mset_ne (by assumption)]; first | exact mset_same | assumption))) | (exact sm_of (by omega) (by omega)) | (exact sz1000 (by first | omega | (simp; done) | (simp; omega))) | (exact Or.inl ⟨by decide, by decide⟩) | decide | (simp; done)))))) | (with_reducible refine exW (by first | exact mset_same | assumption | (rw [mset_ne (by assumption)]; first | exact mset_same | assumption)) ?_)); decreasing_trivial))))
@[reducible] def plD (x : List Nat × PyData) : PyData := .tuple [pathD x.1, x.2]
def plW (xs : List (List Nat × PyData)) : List W := xs.map fun x => W.d (plD x)
def kidsP (q : List Nat) : Nat → List PyData → List (List Nat × PyData)
  | _, [] => []
  | i, k :: ks => (q ++ [i], k) :: kidsP q (i + 1) ks
theorem kidsP_len (q : List Nat) : ∀ (i : Nat) (ks : List PyData), (kidsP q i ks).length = ks.length
  | _, [] => rfl
  | i, k :: ks => by rw [kidsP, List.length_cons, List.length_cons, kidsP_len q (i + 1) ks]
theorem kidsP_get (q : List Nat) : ∀ (i j : Nat) (ks : List PyData), (kidsP q i ks)[j]? = (ks[j]?).map fun k => (q ++ [i + j], k)
  | _, _, [] => rfl
  | i, 0, k :: ks => rfl
  | i, j + 1, k :: ks => by
    rw [kidsP, List.getElem?_cons_succ, List.getElem?_cons_succ, kidsP_get q (i + 1) j ks, show i + 1 + j = i + (j + 1) by omega]
theorem kidsP_mem (q : List Nat) {i : Nat} {ks : List PyData} {x : List Nat × PyData} (h : x ∈ kidsP q i ks) : x.2 ∈ ks := by
  obtain ⟨j, hj⟩ := List.getElem?_of_mem h
  rw [kidsP_get] at hj
  obtain ⟨k, hk, rfl⟩ := Option.map_eq_some_iff.mp hj
  exact List.mem_of_getElem? hk
/-- the places beneath a row of parts -/
def prS (xs : List (List Nat × PyData)) : List (List Nat × PyData) := (xs.map fun x => prP x.1 x.2).flatten
theorem prS_app (xs ys : List (List Nat × PyData)) : prS (xs ++ ys) = prS xs ++ prS ys := by
  unfold prS
  rw [List.map_append, List.flatten_append]
theorem prA_S (q : List Nat) : ∀ (i : Nat) (ks : List PyData), prA q i ks = prS (kidsP q i ks)
  | _, [] => by rw [prA]; rfl
  | i, k :: ks => by
    rw [prA, kidsP, prA_S q (i + 1) ks]
    rfl
def szS (xs : List (List Nat × PyData)) : Nat := nnAll (xs.map (·.2))
theorem szS_app (xs ys : List (List Nat × PyData)) : szS (xs ++ ys) = szS xs + szS ys := by
  unfold szS
  rw [List.map_append, nnAll_app]
theorem szS_kids (q : List Nat) : ∀ (i : Nat) (ks : List PyData), szS (kidsP q i ks).reverse = nnAll ks
  | _, [] => rfl
  | i, k :: ks => by
    rw [kidsP, List.reverse_cons, szS_app, szS_kids q (i + 1) ks, nnAll]
    show nnAll ks + (nn k + 0) = _
    omega
theorem szS_len (xs : List (List Nat × PyData)) : xs.length ≤ szS xs := by
  have := len_nnA (xs.map (·.2))
  rw [List.length_map] at this
  exact this
@[reducible] def tfPlcs : TF := fun ws M R _ => g1 ws fun x => gD x fun d => (TrT 12 d ∧ nn d ≤ 60) ∧ ∀ p, M p = none → R (.r p) (mset M p (.lst (plW (prP [] d))))
theorem mset_swap2 {M : Mem} {a b : Addr} {x y z : MO} (h : a ≠ b) : mset (mset (mset M a x) b y) a z = mset (mset M a z) b y := by
  funext c
  by_cases h1 : c = a
  · subst h1
    rw [mset_same, mset_ne h, mset_same]
  · rw [mset_ne h1]
    by_cases h2 : c = b
    · subst h2
      rw [mset_same, mset_same]
    · rw [mset_ne h2, mset_ne h2, mset_ne h1, mset_ne h1]
section
variable {P : Program} {w : World} {K : PySem.W.Frag} {mg : Str → Option Value} {base : Heap}
abbrev sPlcs : Stmt := top 42
theorem scPlcs : FnScope ["_law_tree_here", "_law_heap", "_law_found", "_law_path", "_law_part", "_law_k"] ["_law_tree_here"] (defScope sPlcs) := ⟨rfl, rfl, rfl, by decide +kernel, rfl, by decide +kernel, by decide +kernel⟩
theorem ok_plcs {f : Addr} {fd : FuncData} {k : Nat} (F : Fun K "_law_places" "_law_places" sPlcs f fd) (T : Bl mg) : FnOk P w K mg base CX0 (k + 1) f fd ["_law_tree_here"] (spD K 1 tfPlcs) := by
  refine okDL F scPlcs rfl fun cdv A outer s H E hr => ?_
  refine ⟨_, _, (pss_cons (ps_set (i := 1) scPlcs.nd rfl (.inl rfl) (pe_lst (pa_cons (pe_tup (pa_cons (pe_tup pa_nil) (pa_cons (pv 0) pa_nil))) pa_nil)))
    (pss_cons (ps_set (i := 2) scPlcs.nd rfl (.inl rfl) (pe_lst pa_nil))
    (pss_cons (ps_while PassesOwn.never (pt_cmpR (op_neN hr.units) (pv 1) (pe_lst pa_nil) (nomark _)) (pss_cons (ps_asg (pe_bm0 PySem.F.plainAttrs_list PySem.F.slot_list_pop PySem.F.type_list_pop mt_pop (pv 1)) (pg_tup rfl (pgs_cons (pg_name (i := 3) scPlcs.nd rfl (.inr rfl)) (pgs_cons (pg_name (i := 4) scPlcs.nd rfl (.inr rfl)) pgs_nil))))
      (pss_cons (ps_expr (pe_bm PySem.F.plainAttrs_list PySem.F.slot_list_append PySem.F.type_list_append mt_append (pv 2) (pa_cons (pe_tup (pa_cons (pv 3) (pa_cons (pv 4) pa_nil))) pa_nil)))
      (pss_one (ps_expr (pe_bm PySem.F.plainAttrs_list PySem.F.slot_list_extend PySem.F.type_list_extend mt_extend (pv 1) (pa_cons (pe_lc (own := [("_law_k", 5)]) (g := gName 5) (tt := tYes) (by rfl) scPlcs.nd (pi_range3 (by rfl) T.range (pa_cons (pe_op op_sub (pe_callB call_len_seq (by rfl) T.len PySem.boot_len (pa_cons (pe_ix ix_tup (pv 4) pe_int (fun _ _ => rfl)) pa_nil)) pe_int) (pa_cons (pe_un un_neg pe_int) (pa_cons (pe_un un_neg pe_int) pa_nil)))) (blkOk_by (N := ["_law_tree_here", "_law_heap", "_law_found", "_law_path", "_law_part", "_law_k"]) (sc := defScope sPlcs) (own := [("_law_k", 5)]) (by decide +kernel)) (fun _ _ _ _ _ => pg_name (i := 5) scPlcs.nd rfl (Or.inl rfl)) (fun _ _ _ _ _ => pts_nil) (fun _ _ _ _ _ => (pe_tup (pa_cons (pe_op op_catA (pv 3) (pe_tup (pa_cons (pv 5) pa_nil))) (pa_cons (pe_ix ix_tup (pe_ix ix_tup (pv 4) pe_int (fun _ _ => rfl)) (pv 5) (fun _ _ => rfl)) pa_nil))))) pa_nil)))))))
    (pss_one (ps_ret (pv 2)))))),
    (ss_cons (ss_set (se_lst (sa_cons (se_tup (sa_cons (se_tup sa_nil) (sa_cons se_nm sa_nil))) sa_nil)))
    (ss_cons (ss_set (se_lst sa_nil))
    (ss_cons (ss_while (st_test (se_op so_neN se_nm (se_lsf sa_nil))) (ss_cons (ss_unp sg_tup2 (se_pop se_nm))
      (ss_cons (ss_drop (se_bmL sm_append se_nm (sa_cons (se_tup (sa_cons se_nm (sa_cons se_nm sa_nil))) sa_nil)))
      (ss_drop (se_bmL sm_extend se_nm (sa_cons (se_lcF (si_r3 (sa_cons (se_op so_sub (se_cb sc_len (sa_cons (se_op so_ixT se_nm se_int) sa_nil)) se_int) (sa_cons (se_un su_neg se_int) (sa_cons (se_un su_neg se_int) sa_nil)))) sg_name st_yes (se_tup (sa_cons (se_op so_catT se_nm (se_tup (sa_cons se_nm sa_nil))) (sa_cons (se_op so_ixT (se_op so_ixT se_nm se_int) se_nm) sa_nil)))) sa_nil))))))
    (ss_ret se_nm)))), fun ws M R RX hl h => ?_⟩
  obtain ⟨x, rfl, h1⟩ := g1_of h
  obtain ⟨d, rfl, ⟨ht, hn⟩, h2⟩ := gD_of h1
  simp only [start0, len_c, len_n, map_c, map_n, app_c, app_n, rep_0, rep_s, Nat.reduceAdd, Nat.reduceSub]
  decreasing_trivial_pre_omega
  intro hp hhp
  decreasing_trivial_pre_omega
  intro fo hfo
  decreasing_trivial_pre_omega
  have nhf : hp ≠ fo := fun z => by rw [z] at hfo; rw [← z, mset_same] at hfo; cases hfo
  rw [mset_ne nhf.symm] at hfo
  have sub1 : ∀ (X Y : MO) a o, M a = some o → mset (mset M hp X) fo Y a = some o := fun X Y a o h => by
    rw [mset_ne (fun z => by rw [z, hfo] at h; cases h), mset_ne (fun z => by rw [z, hhp] at h; cases h)]
    exact h
  have m1 : ∀ {x y : MO}, mset (mset M hp x) fo y hp = some x := fun {x y} => by rw [mset_ne nhf]; exact mset_same
  have m2 : ∀ {x y z : MO}, mset (mset (mset M hp x) fo y) hp z = mset (mset M hp z) fo y := fun {x y z} => mset_swap2 nhf
  refine ⟨fun m ρ M' => ∃ (S G : List (List Nat × PyData)) (y3 y4 y5 : Option W), ρ = [some (W.d d), some (.r hp), some (.r fo), y3, y4, y5] ∧ M' = mset (mset M hp (.lst (plW S))) fo (.lst (plW G)) ∧ (∀ x ∈ S, TrT (12 - x.1.length) x.2) ∧ G ++ prS S.reverse = prP [] d ∧ szS S = m ∧ m + G.length ≤ 60, ⟨nn d, [([], d)], [], none, none, none, rfl, rfl, all1 ht all0, ?_, ?_, ?_⟩, fun m ρ M' pv => ?_⟩
  · show [] ++ (prP [] d ++ []) = _
    rw [List.append_nil]; rfl
  · show nn d + 0 = nn d
    omega
  · exact hn
  obtain ⟨S, G, y3, y4, y5, rfl, rfl, hS, hG, hm, hl⟩ := pv
  have hSl := szS_len S
  have eM := m1 (x := .lst (plW S)) (y := .lst (plW G))
  decreasing_trivial_pre_omega
  rcases List.eq_nil_or_concat S with rfl | ⟨S', ⟨q, e⟩, rfl⟩
  · refine IfB.t rfl ?_
    decreasing_trivial_pre_omega
    refine ⟨mset M fo (.lst (plW (prP [] d))), fun a o h => ?_, h2 fo hfo⟩
    have : G = prP [] d := by rw [← hG]; show G = G ++ []; rw [List.append_nil]
    rw [this]
    by_cases z : a = fo
    · rw [z, mset_same] at h ⊢; exact h
    · rw [mset_ne z] at h ⊢
      rw [mset_ne (fun z => by rw [z, hhp] at h; cases h)]
      exact h
  · rw [List.concat_eq_append] at hS hG hm hSl eM ⊢
    have he := hS (q, e) (by simp)
    obtain ⟨n0, hn0⟩ : ∃ n0, 12 - q.length = n0 + 1 := by
      dsimp only at he
      cases c : 12 - q.length with
      | zero => rw [c] at he; exact he.elim
      | succ n0 => exact ⟨n0, rfl⟩
    dsimp only at he
    rw [hn0] at he
    obtain ⟨s0, ks, rfl, hs0, hk⟩ := he
    have hql : (q.map fun n : Nat => PyData.int (n : Int)).length + [PyData.int ((0 : Nat) : Int)].length ≤ sizeLine := by rw [List.length_map]; exact sz1000 (by show q.length + 1 ≤ 1000; omega)
    have eR : (List.range ks.length).map (fun j => plD (q ++ [ks.length - 1 - j], (ks[ks.length - 1 - j]?).getD .none)) = ((kidsP q 0 ks).reverse).map plD := by
      apply List.ext_getElem?
      intro j
      rw [List.getElem?_map, List.getElem?_map]
      by_cases hj : j < ks.length
      · rw [List.getElem?_range hj, List.getElem?_reverse (by rw [kidsP_len]; exact hj), kidsP_len, kidsP_get]
        obtain ⟨kk, hkk⟩ : ∃ kk, ks[ks.length - 1 - j]? = some kk := ⟨ks[ks.length - 1 - j]'(by omega), List.getElem?_eq_getElem _⟩
        rw [Nat.zero_add, hkk]
        show some (plD (_, (ks[ks.length - 1 - j]?).getD .none)) = _
        rw [hkk]
        rfl
      · rw [List.getElem?_eq_none (by rw [List.length_range]; omega), List.getElem?_eq_none (by rw [List.length_reverse, kidsP_len]; omega)]
        rfl
    have e1 : plW (S' ++ [(q, .tuple [.str s0, .tuple ks])]) = plW S' ++ [.d (plD (q, .tuple [.str s0, .tuple ks]))] := by unfold plW; rw [List.map_append]; rfl
    rw [e1] at eM ⊢
    rw [szS_app] at hm
    have hm2 : szS S' + (1 + nnAll ks) = m := by rw [← hm]; show _ = szS S' + (nn _ + 0); rw [nn]; rfl
    have hlk := len_nnA ks
    refine IfB.f (by simp) ?_
    decreasing_trivial_pre_omega
    refine ⟨plW S', _, eM, ?_⟩
    rw [m2]
    unfold plD pathD
    dsimp only
    have lG : (plW G).length < sizeLine := by unfold plW; rw [List.length_map]; exact small1000 (by omega)
    have m3 : ∀ {x y : MO}, mset (mset M hp x) fo y fo = some y := fun {x y} => mset_same
    decreasing_trivial_pre_omega
    rw [mset_mset]
    refine ⟨⟨_, m1⟩, ?_⟩
    decreasing_trivial_pre_omega
    refine ⟨_, RgC.neg (by omega) (by omega) (by omega) (by omega), ?_⟩
    have hn4 : ((ks.length : Int) - 1 - -1).toNat = ks.length := by omega
    rw [hn4]
    unfold rngC
    decreasing_trivial_pre_omega
    refine lc1F (k := fun _ => True) (b := bName 5) (α := Nat) (fun j => plD (q ++ [ks.length - 1 - j], (ks[ks.length - 1 - j]?).getD .none)) trivial (fun j hj Rk z => ?_) (sz1000 (by rw [List.length_range]; omega)) ?_
    · have hj2 := List.mem_range.mp hj
      obtain ⟨kk, hkk⟩ : ∃ kk, ks[ks.length - 1 - j]? = some kk := ⟨ks[ks.length - 1 - j]'(by omega), List.getElem?_eq_getElem _⟩
      have h9 := atI_nat hkk
      rw [hkk] at z
      rw [show (ks.length : Int) - 1 + (j : Int) * -1 = ((ks.length - 1 - j : Nat) : Int) by omega]
      decreasing_trivial_pre_omega
      have ez : plD (q ++ [ks.length - 1 - j], (some kk).getD .none) = .tuple [.tuple (q.map (fun n : Nat => PyData.int (n : Int)) ++ [.int ((ks.length - 1 - j : Nat) : Int)]), kk] := by
        unfold plD pathD
        rw [List.map_append]
        rfl
      rw [ez] at z
      exact z
    · decreasing_trivial_pre_omega
      rw [eR]
      refine ⟨?_, ?_⟩
      · rw [List.length_map, List.length_map, List.length_reverse, kidsP_len]
        have := szS_len S'
        exact sz1000 (by unfold plW; rw [List.length_map]; omega)
      rw [m2]
      refine ⟨szS S' + nnAll ks, by omega, S' ++ (kidsP q 0 ks).reverse, G ++ [(q, .tuple [.str s0, .tuple ks])], _, _, _, rfl, ?_, fun x hx => ?_, ?_, ?_, ?_⟩
      · unfold plW
        rw [List.map_append, List.map_append, List.map_map]
        rfl
      · rcases List.mem_append.mp hx with hx | hx
        · exact hS x (List.mem_append.mpr (.inl hx))
        · have hx2 := List.mem_reverse.mp hx
          have h5 := hk _ (kidsP_mem q hx2)
          have h6 : x.1.length = q.length + 1 := by
            obtain ⟨j, hj⟩ := List.getElem?_of_mem hx2
            rw [kidsP_get] at hj
            obtain ⟨k, _, rfl⟩ := Option.map_eq_some_iff.mp hj
            simp
          rw [h6, show 12 - (q.length + 1) = n0 by omega]
          exact h5
      · rw [← hG, List.reverse_append, List.reverse_append, List.reverse_reverse, prS_app, ← prA_S, List.append_assoc, prS_app]
        have : prS [(q, PyData.tuple [PyData.str s0, PyData.tuple ks])].reverse = (q, .tuple [.str s0, .tuple ks]) :: prA q 0 ks := by
          show prP q (.tuple [.str s0, .tuple ks]) ++ [] = _
          rw [List.append_nil, prP]
        rw [this]
        rfl
      · rw [szS_app, szS_kids]
      · rw [List.length_append]
        show _ + (G.length + 1) ≤ 60
        omega
end
end Tl
set_option Elab.async false
set_option linter.all false
set_option maxRecDepth 100000
set_option maxHeartbeats 8000000
namespace Tl
open PySem L2 RZ
local macro_rules
  | `(tactic| decreasing_trivial) => `(tactic| ((with_reducible (conv => whnf)); (repeat ((first | (with_reducible refine exI (by first | exact mset_same | assumption | (rw [mset_ne (by assumption)]; first | exact mset_same | assumption)) ?_) | (with_reducible refine exI2 (by first | exact mset_same | assumption | (rw [mset_ne (by assumption)]; first | exact mset_same | assumption)) ?_) | (with_reducible refine gPut_n ?_) | (with_reducible refine gPut_0 ?_) | (with_reducible refine (gPut_s (by decide +kernel)) ?_) | (with_reducible refine (gO_i lk_num) ?_) | (with_reducible refine (gO_i lk_atN) ?_) | (with_reducible refine (gO_i lk_due) ?_) | (with_reducible refine gp_atN ?_) | (with_reducible refine gp_due ?_) | (with_reducible refine gDs_c ?_) | (with_reducible refine gDs_n ?_) | (with_reducible refine gNs_c ?_) | (with_reducible refine gNs_n ?_) | (with_reducible refine gO_i tyAny_lt ?_) | (with_reducible refine gIs_c ?_) | (with_reducible refine gIs_n ?_) | (with_reducible refine gBs_c ?_) | (with_reducible refine gBs_n ?_) | (with_reducible refine gSs_c ?_) | (with_reducible refine gSs_n ?_) | (with_reducible refine gO_i tyIs_int ?_) | (with_reducible refine gO_i tyIs_bool ?_) | (with_reducible refine gO_i tyIs_str ?_) | (with_reducible refine gO_i tyIs_tuple ?_) | (with_reducible refine gO_i tyIs_list ?_) | (with_reducible refine gDs_i ?_) | (with_reducible refine gO_i (Eq.refl _) ?_) | (with_reducible refine gO_i (by assumption) ?_) | (with_reducible refine gO_i at_0 ?_) | (with_reducible refine gO_i at_m0 ?_) | (with_reducible refine gO_i at_1 ?_) | (with_reducible refine gO_i at_m1 ?_) | (with_reducible refine gO_i at_2 ?_) | (with_reducible refine gO_i at_m2 ?_) | (with_reducible refine gO_i at_3 ?_) | (with_reducible refine gO_i at_m3 ?_) | (with_reducible refine gO_i at_4 ?_) | (with_reducible refine gO_i at_m4 ?_) | (with_reducible refine gO_i at_5 ?_) | (with_reducible refine gO_i at_m5 ?_) | (with_reducible refine gO_i at_6 ?_) | (with_reducible refine gO_i at_m6 ?_) | (with_reducible refine gO_i at_7 ?_) | (with_reducible refine gO_i at_m7 ?_) | (with_reducible refine IfB.ngf ?_) | (with_reducible refine IfB.ngt ?_) | (with_reducible refine IfB.not ?_) | (with_reducible refine IfB.nil ?_) | (with_reducible refine IfB.nilT ?_) | (with_reducible refine IfB.f isE_c ?_) | (with_reducible refine IfB.t isE_n ?_) | (with_reducible refine IfB.t ?gha ?_; (case gha => rfl)) | (with_reducible refine IfB.f ?gha ?_; (case gha => rfl)) | (with_reducible refine IfB.t ?gha ?_; (case gha => assumption)) | (with_reducible refine IfB.f ?gha ?_; (case gha => assumption)) | (with_reducible refine IfB.yes (Eq.refl _) ?_) | (with_reducible refine IfB.yes ?gha ?_; (case gha => (first | omega | (simp only [len_c, len_n, List.length_map]; omega)))) | (with_reducible refine IfB.no ?gha ?_; (case gha => (first | omega | (simp only [len_c, len_n, List.length_map]; omega)))) | (with_reducible refine IfB.t ?gha ?_; (case gha => decide +kernel)) | (with_reducible refine IfB.f ?gha ?_; (case gha => decide +kernel))); (with_reducible (conv => whnf))))))
local macro_rules
  | `(tactic| decreasing_trivial_pre_omega) => `(tactic| (decreasing_trivial; (repeat ((first | ((with_reducible refine And.intro ?gha ?_); (case gha => (first | assumption | omega | exact rfl | (exact mset_same) | (exact ⟨_, mset_same⟩) | (exact Exists.intro _ (by first | exact mset_same | assumption | (rw [mset_ne (by assumption)]; first | exact mset_same | assumption))) | (exact sm_of (by omega) (by omega)) | (exact sz1000 (by first | omega | (simp; done) | (simp; omega))) | (exact Or.inl ⟨by decide, by decide⟩) | decide | (simp; done) | (refine ⟨?_, ?_⟩ <;> (first | assumption | omega | exact rfl | (exact mset_same) | (exact ⟨_, mset_same⟩) | (exact Exists.intro _ (by first | exact mset_same | assumption | (rw [mset_ne (by assumption)]; first | exact mset_same | assumption))) | (exact sm_of (by omega) (by omega)) | (exact sz1000 (by first | omega | (simp; done) | (simp; omega))) | (exact Or.inl ⟨by decide, by decide⟩) | decide | (simp; done))) | (refine ⟨?_, ?_, ?_⟩ <;> (first | assumption | omega | exact rfl | (exact mset_same) | (exact ⟨_, mset_same⟩) | (exact Exists.intro _ (by first | exact mset_same | assumption | (rw [mset_ne (by assumption)]; first | exact mset_same | assumption))) | (exact sm_of (by omega) (by omega)) | (exact sz1000 (by first | omega | (simp; done) | (simp; omega))) | (exact Or.inl ⟨by decide, by decide⟩) | decide | (simp; done))) | (refine ⟨?_, ?_, ?_, ?_⟩ <;> (first | assumption | omega | exact rfl | (exact mset_same) | (exact ⟨_, mset_same⟩) | (exact Exists.intro _ (by first | exact mset_same | assumption | (rw [mset_ne (by assumption)]; first | exact mset_same | assumption))) | (exact sm_of (by omega) (by omega)) | (exact sz1000 (by first | omega | (simp; done) | (simp; omega))) | (exact Or.inl ⟨by decide, by decide⟩) | decide | (simp; done)))))) | (with_reducible refine exW (by first | exact mset_same | assumption | (rw [mset_ne (by assumption)]; first | exact mset_same | assumption)) ?_)); decreasing_trivial))))
/-- a reader's fields -/
def rdF (ds : List PyData) (i due : Int) : List (Str × W) := [("numbers", .d (.tuple ds)), ("at", .d (.int i)), ("due", .d (.int due))]
theorem lk_num {ds : List PyData} {i due : Int} : List.lookup ("numbers" : Str) (rdF ds i due) = some (.d (.tuple ds)) := by
  unfold rdF
  rw [List.lookup, show (("numbers" : Str) == "numbers") = true by decide +kernel]
theorem lk_atN {ds : List PyData} {i due : Int} : List.lookup ("at" : Str) (rdF ds i due) = some (.d (.int i)) := by
  unfold rdF
  rw [List.lookup, show (("at" : Str) == "numbers") = false by decide +kernel, List.lookup, show (("at" : Str) == "at") = true by decide +kernel]
theorem lk_due {ds : List PyData} {i due : Int} : List.lookup ("due" : Str) (rdF ds i due) = some (.d (.int due)) := by
  unfold rdF
  rw [List.lookup, show (("due" : Str) == "numbers") = false by decide +kernel, List.lookup, show (("due" : Str) == "at") = false by decide +kernel, List.lookup, show (("due" : Str) == "due") = true by decide +kernel]
theorem gp_atN {ds : List PyData} {i due j : Int} {k : List (Str × W) → Prop} (q : k (rdF ds j due)) : gPut "at" (.d (.int j)) (rdF ds i due) k := by
  unfold rdF at q ⊢
  exact gPut_s (by decide +kernel) (gPut_0 q)
theorem gp_due {ds : List PyData} {i due j : Int} {k : List (Str × W) → Prop} (q : k (rdF ds i j)) : gPut "due" (.d (.int j)) (rdF ds i due) k := by
  unfold rdF at q ⊢
  exact gPut_s (by decide +kernel) (gPut_s (by decide +kernel) (gPut_0 q))
theorem rdF_len {ds : List PyData} {i due : Int} : (rdF ds i due).length < 1000 := by
  show (3 : Nat) < 1000
  decide
structure RdC (K : PySem.W.Frag) (C : Addr) : Prop where
  cls : L2.Cls K C
  n1 : NoAttr K C "numbers"
  n2 : NoAttr K C "at"
  n3 : NoAttr K C "due"
@[reducible] def tfInitR (C : Addr) : TF := fun ws M R _ => ∃ (a : Addr) (ds : List PyData) (dx : Addr), ws = [.r a, .d (.tuple ds)] ∧ M a = some (.ins C dx []) ∧ R (.d .none) (mset M a (.ins C dx (rdF ds 0 1)))
@[reducible] def tfRdNum (C CT : Addr) : TF := fun ws M R RX => ∃ (a : Addr) (ds : List PyData) (dx : Addr) (i due : Nat) (lo hi : Int), ws = [.r a, .d (.int lo), .d (.int hi)] ∧ (M a = some (.ins C dx (rdF ds i due)) ∧ i ≤ ds.length ∧ txtAll ds = true) ∧ (∀ n, numAt ds i lo hi = some n → R (.d (.int (n : Nat))) (mset M a (.ins C dx (rdF ds ((i + 1 : Nat) : Int) due)))) ∧ (numAt ds i lo hi = none → RX ⟨.ref CT, [("at", .int (i : Nat))]⟩ M)
section
variable {P : Program} {w : World} {K : PySem.W.Frag} {mg : Str → Option Value} {base : Heap}
abbrev sInitR : Stmt := inClsN (top 35) 0
theorem scInitR : FnScope ["self", "numbers"] ["self", "numbers"] (defScope sInitR) := ⟨rfl, rfl, rfl, by decide +kernel, rfl, by decide +kernel, by decide +kernel⟩
theorem ok_initR {f C : Addr} {fd : FuncData} {k : Nat} (F : Fun K "__init__" "NumberReader.__init__" sInitR f fd) (MNumberReader : RdC K C) : FnOk P w K mg base (L2.CX P w) (k + 1) f fd ["self", "numbers"] (spD K 2 (tfInitR C)) := by
  refine okDX F scInitR rfl fun cdv A outer s H E hr => ?_
  refine ⟨_, fun RE => _, (pss_cons (ps_fld (pv 0) (pv 1) (by rfl))
    (pss_cons (ps_fld (pv 0) pe_int (by rfl))
    (pss_one (ps_fld (pv 0) pe_int (by rfl))))), fun RE => (ss_cons (ss_fld se_nm se_nm)
    (ss_cons (ss_fld se_int se_nm)
    (ss_fld se_int se_nm))), fun ws M R RX hl h => ?_⟩
  obtain ⟨a, ds, dx, rfl, hM, h2⟩ := h
  have c1 := MNumberReader.cls
  have c2 := MNumberReader.n1
  have c3 := MNumberReader.n2
  have c4 := MNumberReader.n3
  simp only [start0, len_c, len_n, map_c, map_n, app_c, app_n, rep_0, rep_s, Nat.reduceAdd, Nat.reduceSub]
  decreasing_trivial_pre_omega
  rw [mset_mset, mset_mset]
  exact h2
abbrev sRdNum : Stmt := inClsN (top 35) 1
theorem scRdNum : FnScope ["self", "low", "high", "thing"] ["self", "low", "high"] (defScope sRdNum) := ⟨rfl, rfl, rfl, by decide +kernel, rfl, by decide +kernel, by decide +kernel⟩
theorem ok_rdNum {f C CT : Addr} {fd : FuncData} {k j : Nat} (F : Fun K "read_number" "NumberReader.read_number" sRdNum f fd) (MNumberReader : RdC K C) (XTorn : ErF K mg "Torn" "Torn.__init__" "at" sI_Torn CT) (Uis_number : Use P w K mg base "is_number" ["thing", "most"] j (spD K 2 (tfB2 isNum))) (hj : j ≤ k) (hk : 2 ≤ k) (T : Bl mg) : FnOk P w K mg base (L2.CX P w) (k + 1) f fd ["self", "low", "high"] (spD K 3 (tfRdNum C CT)) := by
  obtain ⟨fiTorn, fdTorn, iTorn, tTorn, FTorn⟩ := XTorn.i
  have okTorn := okI_Torn (P := P) (w := w) (mg := mg) (base := base) (k := 0) FTorn XTorn.o XTorn.n
  have bTorn := FTorn.binds (ps := ["self", "at"]) fun _ _ _ _ _ _ us hl => match us, hl with | [_, _], _ => rfl
  refine okDX F scRdNum rfl fun cdv A outer s H E hr => ?_
  refine ⟨_, fun RE => _, (pss_cons (ps_if (pt_cmpR op_eq (pe_fld (pv 0) (by rfl)) (pe_callB call_len_seq (by rfl) T.len PySem.boot_len (pa_cons (pe_fld (pv 0) (by rfl)) pa_nil)) (nomark _)) (pss_one (ps_raise rfl (takes_of (E := E) rfl rfl rfl rfl) (pmk_oex XTorn.o iTorn tTorn okTorn (hr.mono (by omega)) bTorn .nil pass0 (by exact rfl) XTorn.g (pa_cons (pe_fld (pv 0) (by rfl)) pa_nil)))) pss_nil)
    (pss_cons (ps_set (i := 3) scRdNum.nd rfl (.inl rfl) (pe_ix ix_tup (pe_fld (pv 0) (by rfl)) (pe_fld (pv 0) (by rfl)) (fun _ _ => rfl)))
    (pss_cons (ps_if (PW.pt (pw_or (pt_not (pt_val (PE.nox (pe_call Uis_number.ok (hr.mono (by omega)) rfl Uis_number.m Uis_number.kp Uis_number.b .nil pass0 (pa_cons (pv 3) (pa_cons (pv 2) pa_nil)))))) (pw_or1 (pt_cmpR op_lt (pv 3) (pv 1) (nomark _))))) (pss_one (ps_raise rfl (takes_of (E := E) rfl rfl rfl rfl) (pmk_oex XTorn.o iTorn tTorn okTorn (hr.mono (by omega)) bTorn .nil pass0 (by exact rfl) XTorn.g (pa_cons (pe_fld (pv 0) (by rfl)) pa_nil)))) pss_nil)
    (pss_cons (ps_fldaug (pv 0) pe_int in_add)
    (pss_one (ps_ret (pv 3))))))), fun RE => (ss_cons (ss_if (st_test (se_op so_eqS (se_fld se_nm) (se_cb sc_len (sa_cons (se_fld se_nm) sa_nil)))) (ss_raiseF (sa_cons (se_fld se_nm) sa_nil)) ss_nil)
    (ss_cons (ss_set (se_op so_ixT (se_fld se_nm) (se_fld se_nm)))
    (ss_cons (ss_if (st_or (st_not (st_val (se_call (sa_cons se_nm (sa_cons se_nm sa_nil))))) (st_test (se_op so_lt se_nm se_nm))) (ss_raiseF (sa_cons (se_fld se_nm) sa_nil)) ss_nil)
    (ss_cons (ss_augF so_add se_nm se_int)
    (ss_ret se_nm))))), fun ws M R RX hl h => ?_⟩
  obtain ⟨a, ds, dx, i, due, lo, hi, rfl, ⟨hM, hil, htx⟩, h2, h3⟩ := h
  have c1 := MNumberReader.cls
  have c2 := MNumberReader.n1
  have c3 := MNumberReader.n2
  have c4 := MNumberReader.n3
  simp only [start0, len_c, len_n, map_c, map_n, app_c, app_n, rep_0, rep_s, Nat.reduceAdd, Nat.reduceSub]
  decreasing_trivial_pre_omega
  refine IfB.d (fun c1 => ?_) (fun c1 => ?_)
  · decreasing_trivial_pre_omega
    exact h3 (by unfold numAt; rw [List.getElem?_eq_none (by omega)])
  · obtain ⟨d, hd⟩ : ∃ d, ds[i]? = some d := ⟨ds[i]'(by omega), List.getElem?_eq_getElem _⟩
    have hdt := txtAll_get htx hd
    have hat : atI ds (i : Int) = some d := atI_nat hd
    unfold numAt at h2 h3
    rw [hd] at h2 h3
    cases d with
    | int n =>
      dsimp only at h2 h3
      by_cases c2 : 0 ≤ n ∧ n ≤ hi
      · have e : isNum hi (.int n) = true := by rw [isNum, decide_eq_true c2.1, decide_eq_true c2.2]; rfl
        decreasing_trivial_pre_omega
        refine IfB.d (fun c3 => ?_) (fun c3 => ?_)
        · rw [if_neg (by omega)] at h3
          decreasing_trivial_pre_omega
          exact h3 rfl
        · have h2 := h2 n.toNat (by rw [if_pos ⟨c2.1, by omega, c2.2⟩])
          rw [show ((n.toNat : Nat) : Int) = n by omega, show ((i + 1 : Nat) : Int) = (i : Int) + 1 by omega] at h2
          have hl := rdF_len (ds := ds) (i := i) (due := due)
          decreasing_trivial_pre_omega
          refine gp_atN ?_
          decreasing_trivial_pre_omega
          exact h2
      · have e : isNum hi (.int n) = false := by
          rw [isNum]
          cases e1 : decide (0 ≤ n) && decide (n ≤ hi) with
          | false => rfl
          | true =>
            rw [Bool.and_eq_true, decide_eq_true_eq, decide_eq_true_eq] at e1
            exact absurd e1 c2
        rw [if_neg (by omega)] at h3
        decreasing_trivial_pre_omega
        exact h3 rfl
    | none => have e : isNum hi .none = false := rfl; decreasing_trivial_pre_omega; exact h3 rfl
    | bool b => have e : isNum hi (.bool b) = false := rfl; decreasing_trivial_pre_omega; exact h3 rfl
    | str b => have e : isNum hi (.str b) = false := rfl; decreasing_trivial_pre_omega; exact h3 rfl
    | list b => have e : isNum hi (.list b) = false := rfl; decreasing_trivial_pre_omega; exact h3 rfl
    | tuple b => have e : isNum hi (.tuple b) = false := rfl; decreasing_trivial_pre_omega; exact h3 rfl
    | dict b => have e : isNum hi (.dict b) = false := rfl; decreasing_trivial_pre_omega; exact h3 rfl
end
end Tl
set_option Elab.async false
set_option linter.all false
set_option maxRecDepth 100000
set_option maxHeartbeats 8000000
namespace Tl
open PySem L2 RZ
local macro_rules
  | `(tactic| decreasing_trivial) => `(tactic| ((with_reducible (conv => whnf)); (repeat ((first | (with_reducible refine exI (by first | exact mset_same | assumption | (rw [mset_ne (by assumption)]; first | exact mset_same | assumption)) ?_) | (with_reducible refine exI2 (by first | exact mset_same | assumption | (rw [mset_ne (by assumption)]; first | exact mset_same | assumption)) ?_) | (with_reducible refine (gO_i lk_num) ?_) | (with_reducible refine (gO_i lk_atN) ?_) | (with_reducible refine (gO_i lk_due) ?_) | (with_reducible refine gp_atN ?_) | (with_reducible refine gp_due ?_) | (with_reducible refine gDs_c ?_) | (with_reducible refine gDs_n ?_) | (with_reducible refine gNs_c ?_) | (with_reducible refine gNs_n ?_) | (with_reducible refine gO_i tyAny_lt ?_) | (with_reducible refine gIs_c ?_) | (with_reducible refine gIs_n ?_) | (with_reducible refine gBs_c ?_) | (with_reducible refine gBs_n ?_) | (with_reducible refine gSs_c ?_) | (with_reducible refine gSs_n ?_) | (with_reducible refine gO_i tyIs_int ?_) | (with_reducible refine gO_i tyIs_bool ?_) | (with_reducible refine gO_i tyIs_str ?_) | (with_reducible refine gO_i tyIs_tuple ?_) | (with_reducible refine gO_i tyIs_list ?_) | (with_reducible refine gDs_i ?_) | (with_reducible refine gO_i (Eq.refl _) ?_) | (with_reducible refine gO_i (by assumption) ?_) | (with_reducible refine gO_i at_0 ?_) | (with_reducible refine gO_i at_m0 ?_) | (with_reducible refine gO_i at_1 ?_) | (with_reducible refine gO_i at_m1 ?_) | (with_reducible refine gO_i at_2 ?_) | (with_reducible refine gO_i at_m2 ?_) | (with_reducible refine gO_i at_3 ?_) | (with_reducible refine gO_i at_m3 ?_) | (with_reducible refine gO_i at_4 ?_) | (with_reducible refine gO_i at_m4 ?_) | (with_reducible refine gO_i at_5 ?_) | (with_reducible refine gO_i at_m5 ?_) | (with_reducible refine gO_i at_6 ?_) | (with_reducible refine gO_i at_m6 ?_) | (with_reducible refine gO_i at_7 ?_) | (with_reducible refine gO_i at_m7 ?_) | (with_reducible refine IfB.ngf ?_) | (with_reducible refine IfB.ngt ?_) | (with_reducible refine IfB.not ?_) | (with_reducible refine IfB.nil ?_) | (with_reducible refine IfB.nilT ?_) | (with_reducible refine IfB.f isE_c ?_) | (with_reducible refine IfB.t isE_n ?_) | (with_reducible refine IfB.t ?gha ?_; (case gha => rfl)) | (with_reducible refine IfB.f ?gha ?_; (case gha => rfl)) | (with_reducible refine IfB.t ?gha ?_; (case gha => assumption)) | (with_reducible refine IfB.f ?gha ?_; (case gha => assumption)) | (with_reducible refine IfB.yes (Eq.refl _) ?_) | (with_reducible refine IfB.yes ?gha ?_; (case gha => (first | omega | (simp only [len_c, len_n, List.length_map]; omega)))) | (with_reducible refine IfB.no ?gha ?_; (case gha => (first | omega | (simp only [len_c, len_n, List.length_map]; omega)))) | (with_reducible refine IfB.t ?gha ?_; (case gha => decide +kernel)) | (with_reducible refine IfB.f ?gha ?_; (case gha => decide +kernel))); (with_reducible (conv => whnf))))))
local macro_rules
  | `(tactic| decreasing_trivial_pre_omega) => `(tactic| (decreasing_trivial; (repeat ((first | ((with_reducible refine And.intro ?gha ?_); (case gha => (first | assumption | omega | exact rfl | (exact mset_same) | (exact ⟨_, mset_same⟩) | (exact Exists.intro _ (by first | exact mset_same | assumption | (rw [mset_ne (by assumption)]; first | exact mset_same | assumption))) | (exact sm_of (by omega) (by omega)) | (exact sz1000 (by first | omega | (simp; done) | (simp; omega))) | (exact Or.inl ⟨by decide, by decide⟩) | decide | (simp; done) | (refine ⟨?_, ?_⟩ <;> (first | assumption | omega | exact rfl | (exact mset_same) | (exact ⟨_, mset_same⟩) | (exact Exists.intro _ (by first | exact mset_same | assumption | (rw [mset_ne (by assumption)]; first | exact mset_same | assumption))) | (exact sm_of (by omega) (by omega)) | (exact sz1000 (by first | omega | (simp; done) | (simp; omega))) | (exact Or.inl ⟨by decide, by decide⟩) | decide | (simp; done))) | (refine ⟨?_, ?_, ?_⟩ <;> (first | assumption | omega | exact rfl | (exact mset_same) | (exact ⟨_, mset_same⟩) | (exact Exists.intro _ (by first | exact mset_same | assumption | (rw [mset_ne (by assumption)]; first | exact mset_same | assumption))) | (exact sm_of (by omega) (by omega)) | (exact sz1000 (by first | omega | (simp; done) | (simp; omega))) | (exact Or.inl ⟨by decide, by decide⟩) | decide | (simp; done))) | (refine ⟨?_, ?_, ?_, ?_⟩ <;> (first | assumption | omega | exact rfl | (exact mset_same) | (exact ⟨_, mset_same⟩) | (exact Exists.intro _ (by first | exact mset_same | assumption | (rw [mset_ne (by assumption)]; first | exact mset_same | assumption))) | (exact sm_of (by omega) (by omega)) | (exact sz1000 (by first | omega | (simp; done) | (simp; omega))) | (exact Or.inl ⟨by decide, by decide⟩) | decide | (simp; done)))))) | (with_reducible refine exW (by first | exact mset_same | assumption | (rw [mset_ne (by assumption)]; first | exact mset_same | assumption)) ?_)); decreasing_trivial))))
@[reducible] def tfRdTag (C CT : Addr) : TF := fun ws M R RX => ∃ (a : Addr) (ds : List PyData) (dx : Addr) (i due : Nat), ws = [.r a] ∧ (M a = some (.ins C dx (rdF ds i due)) ∧ i ≤ ds.length ∧ txtAll ds = true) ∧ (∀ cs i2, rdTag ds i = .inr (cs, i2) → R (.d (.str (ltr cs))) (mset M a (.ins C dx (rdF ds (i2 : Nat) due)))) ∧ (∀ j, rdTag ds i = .inl j → RX ⟨.ref CT, [("at", .int (j : Nat))]⟩ (mset M a (.ins C dx (rdF ds (j : Nat) due))))
def joinL (cs : List Nat) : Nat ⊕ List Nat → Nat ⊕ List Nat
  | .inl j => .inl j
  | .inr r => .inr (cs ++ r)
theorem numAt_some {ds : List PyData} {i : Nat} {lo hi : Int} {n : Nat} (h : numAt ds i lo hi = some n) : i < ds.length ∧ lo ≤ (n : Int) ∧ (n : Int) ≤ hi := by
  unfold numAt at h
  cases e : ds[i]? with
  | none => rw [e] at h; cases h
  | some d =>
    have hi := (List.getElem?_eq_some_iff.mp e).1
    rw [e] at h
    cases d with
    | int x =>
      dsimp only at h
      split at h
      · cases h
        omega
      · cases h
    | _ => cases h
theorem letters_at : ∀ c < 26, lettersS.cps.toList[c]? = some (97 + c) := by decide +kernel
theorem ltr_snoc (cs : List Nat) (c : Nat) : ltr cs ++ (⟨#[c + 96]⟩ : Str) = ltr (cs ++ [c]) := by
  unfold ltr
  rw [List.map_append, List.map_singleton]
  show (⟨_ ++ _⟩ : Str) = _
  simp
theorem ltr_len (cs : List Nat) : (ltr cs).length = cs.length := by
  unfold ltr
  show (cs.map _).toArray.size = _
  simp
theorem rdLet_none {ds : List PyData} {m i : Nat} (h : numAt ds i 1 26 = none) : rdLet ds (m + 1) i = .inl i := by rw [rdLet, h]
theorem rdLet_some {ds : List PyData} {m i c : Nat} (h : numAt ds i 1 26 = some c) : rdLet ds (m + 1) i = joinL [c] (rdLet ds m (i + 1)) := by
  rw [rdLet, h]
  dsimp only
  cases rdLet ds m (i + 1) <;> rfl
theorem joinL_app (a b : List Nat) (x : Nat ⊕ List Nat) : joinL a (joinL b x) = joinL (a ++ b) x := by
  cases x with
  | inl j => rfl
  | inr r => show Sum.inr _ = Sum.inr _; rw [List.append_assoc]
theorem joinL_nil (x : Nat ⊕ List Nat) : joinL [] x = x := by cases x <;> rfl
section
variable {P : Program} {w : World} {K : PySem.W.Frag} {mg : Str → Option Value} {base : Heap}
abbrev sRdTag : Stmt := inClsN (top 35) 3
theorem scRdTag : FnScope ["self", "length", "tag", "at"] ["self"] (defScope sRdTag) := ⟨rfl, rfl, rfl, by decide +kernel, rfl, by decide +kernel, by decide +kernel⟩
theorem ok_rdTag {f C CT : Addr} {fd : FuncData} {k j : Nat} (F : Fun K "read_tag" "NumberReader.read_tag" sRdTag f fd) (MNumberReader : RdC K C) (UNumberReader_read_number : UseMX P w K mg base C "read_number" ["self", "low", "high"] j (spD K 3 (tfRdNum C CT))) (hj : j ≤ k) (T : Bl mg) (Cs' : Cs mg) (CL : ∃ t, mg "LETTERS" = some (.str lettersS t)) : FnOk P w K mg base (L2.CX P w) (k + 1) f fd ["self"] (spD K 1 (tfRdTag C CT)) := by
  refine okDX F scRdTag rfl fun cdv A outer s H E hr => ?_
  refine ⟨_, fun RE => _, (pss_cons (ps_set (i := 1) scRdTag.nd rfl (.inl rfl) (pe_methE (pv 0) MNumberReader.cls UNumberReader_read_number.hm UNumberReader_read_number.ok (hr.mono (by omega)) UNumberReader_read_number.b (fun σ => passAt (takes_of (E := E) rfl rfl rfl rfl) σ) (pa_cons pe_int (pa_cons (c_SIGNS Cs') pa_nil))))
    (pss_cons (ps_set (i := 2) scRdTag.nd rfl (.inl rfl) pe_str)
    (pss_cons (ps_for (passes_of rfl) rfl (pi_range1 (by rfl) T.range (pa_cons (pv 1) pa_nil)) (pg_name (i := 3) scRdTag.nd rfl (.inl rfl)) (pss_one (ps_aug (i := 2) scRdTag.nd rfl (.inl rfl) (pe_ix ix_str (c_str CL) (pe_op op_sub (pe_methE (pv 0) MNumberReader.cls UNumberReader_read_number.hm UNumberReader_read_number.ok (hr.mono (by omega)) UNumberReader_read_number.b (fun σ => passAt (takes_of (E := E) rfl rfl rfl rfl) σ) (pa_cons pe_int (pa_cons (pe_callB call_len_str (by rfl) T.len PySem.boot_len (pa_cons (c_str CL) pa_nil)) pa_nil))) pe_int) (fun _ _ => rfl)) in_addS)))
    (pss_one (ps_ret (pv 2)))))), fun RE => (ss_cons (ss_set (se_methX se_nm (sa_cons se_int (sa_cons se_int sa_nil))))
    (ss_cons (ss_set se_str)
    (ss_cons (ss_for (si_r1 (sa_cons se_nm sa_nil)) sg_name (ss_augO so_addS (se_op so_ixS se_str (se_op so_sub (se_methX se_nm (sa_cons se_int (sa_cons (se_cb sc_lenS (sa_cons se_str sa_nil)) sa_nil))) se_int))))
    (ss_ret se_nm)))), fun ws M R RX hl h => ?_⟩
  obtain ⟨a, ds, dx, i, due, rfl, ⟨hM, hil, htx⟩, h2, h3⟩ := h
  have c1 := MNumberReader.cls
  simp only [start0, len_c, len_n, map_c, map_n, app_c, app_n, rep_0, rep_s, Nat.reduceAdd, Nat.reduceSub]
  decreasing_trivial_pre_omega
  unfold rdTag at h2 h3
  refine ⟨a, ds, dx, i, due, 1, 8, rfl, ⟨hM, hil, htx⟩, fun m hm => ?_, fun hn => ?_⟩
  · rw [hm] at h2 h3
    dsimp only at h2 h3
    obtain ⟨hi1, hm1, hm8⟩ := numAt_some hm
    decreasing_trivial_pre_omega
    rw [show ((m : Nat) : Int).toNat = m by omega]
    refine forR (n := m) (fun n ρ M' => ∃ (cs : List Nat) (y : Option W), ρ = [some (W.r a), some (.d (.int (m : Int))), some (.d (.str (ltr cs))), y] ∧ M' = mset M a (.ins C dx (rdF ds ((i + 1 + n : Nat) : Int) due)) ∧ cs.length = n ∧ i + 1 + n ≤ ds.length ∧ rdLet ds m (i + 1) = joinL cs (rdLet ds (m - n) (i + 1 + n))) ⟨[], none, rfl, rfl, rfl, by omega, by rw [joinL_nil]; rfl⟩ (fun _ _ _ _ _ => trivial) (fun n ρ M' N hn p hN => ?_) (fun ρ M' p => ?_)
    · obtain ⟨cs, y, rfl, rfl, hcl, hil2, hrd⟩ := p
      have hM' : mset M a (.ins C dx (rdF ds ((i + 1 + n : Nat) : Int) due)) a = some (.ins C dx (rdF ds ((i + 1 + n : Nat) : Int) due)) := mset_same
      decreasing_trivial_pre_omega
      refine ⟨a, ds, dx, i + 1 + n, due, 1, 26, rfl, ⟨mset_same, hil2, htx⟩, fun c hc => ?_, fun hc => ?_⟩
      · obtain ⟨hi2, hc1, hc2⟩ := numAt_some hc
        have hix : atI lettersS.cps.toList ((c : Int) - 1) = some (c + 96) := by
          have := letters_at (c - 1) (by omega)
          rw [show (c : Int) - 1 = ((c - 1 : Nat) : Int) by omega, show c + 96 = 97 + (c - 1) by omega]
          exact atI_nat this
        have hll : lettersS.length ≤ sizeLine := sz1000 (by decide)
        have hcl2 : (ltr cs).length + (⟨#[c + 96]⟩ : Str).length ≤ sizeLine := by
          rw [ltr_len]
          exact sz1000 (show cs.length + 1 ≤ 1000 by omega)
        decreasing_trivial_pre_omega
        rw [mset_mset, ltr_snoc]
        refine hN _ _ ⟨cs ++ [c], _, rfl, rfl, by rw [List.length_append, hcl]; rfl, by omega, ?_⟩
        rw [hrd, show m - n = (m - (n + 1)) + 1 by omega, rdLet_some hc, joinL_app]
        rfl
      · rw [hrd, show m - n = (m - n - 1) + 1 by omega, rdLet_none hc] at h3
        exact h3 (i + 1 + n) rfl
    · obtain ⟨cs, y, rfl, rfl, hcl, hil2, hrd⟩ := p
      rw [Nat.sub_self, rdLet, joinL, List.append_nil] at hrd
      rw [hrd] at h2
      have := h2 cs _ rfl
      decreasing_trivial_pre_omega
      exact this
  · rw [hn] at h3
    have := h3 i rfl
    rw [mset_eta hM] at this
    exact this
end
end Tl
set_option Elab.async false
set_option linter.all false
set_option maxRecDepth 100000
set_option maxHeartbeats 8000000
namespace Tl
open PySem L2 RZ
local macro_rules
  | `(tactic| decreasing_trivial) => `(tactic| ((with_reducible (conv => whnf)); (repeat ((first | (with_reducible refine exI (by first | exact mset_same | assumption | (rw [mset_ne (by assumption)]; first | exact mset_same | assumption)) ?_) | (with_reducible refine exI2 (by first | exact mset_same | assumption | (rw [mset_ne (by assumption)]; first | exact mset_same | assumption)) ?_) | (with_reducible refine (gO_i lk_num) ?_) | (with_reducible refine (gO_i lk_atN) ?_) | (with_reducible refine (gO_i lk_due) ?_) | (with_reducible refine gp_atN ?_) | (with_reducible refine gp_due ?_) | (with_reducible refine gDs_c ?_) | (with_reducible refine gDs_n ?_) | (with_reducible refine gNs_c ?_) | (with_reducible refine gNs_n ?_) | (with_reducible refine gO_i tyAny_lt ?_) | (with_reducible refine gIs_c ?_) | (with_reducible refine gIs_n ?_) | (with_reducible refine gBs_c ?_) | (with_reducible refine gBs_n ?_) | (with_reducible refine gSs_c ?_) | (with_reducible refine gSs_n ?_) | (with_reducible refine gO_i tyIs_int ?_) | (with_reducible refine gO_i tyIs_bool ?_) | (with_reducible refine gO_i tyIs_str ?_) | (with_reducible refine gO_i tyIs_tuple ?_) | (with_reducible refine gO_i tyIs_list ?_) | (with_reducible refine gDs_i ?_) | (with_reducible refine gO_i (Eq.refl _) ?_) | (with_reducible refine gO_i (by assumption) ?_) | (with_reducible refine gO_i at_0 ?_) | (with_reducible refine gO_i at_m0 ?_) | (with_reducible refine gO_i at_1 ?_) | (with_reducible refine gO_i at_m1 ?_) | (with_reducible refine gO_i at_2 ?_) | (with_reducible refine gO_i at_m2 ?_) | (with_reducible refine gO_i at_3 ?_) | (with_reducible refine gO_i at_m3 ?_) | (with_reducible refine gO_i at_4 ?_) | (with_reducible refine gO_i at_m4 ?_) | (with_reducible refine gO_i at_5 ?_) | (with_reducible refine gO_i at_m5 ?_) | (with_reducible refine gO_i at_6 ?_) | (with_reducible refine gO_i at_m6 ?_) | (with_reducible refine gO_i at_7 ?_) | (with_reducible refine gO_i at_m7 ?_) | (with_reducible refine IfB.ngf ?_) | (with_reducible refine IfB.ngt ?_) | (with_reducible refine IfB.not ?_) | (with_reducible refine IfB.nil ?_) | (with_reducible refine IfB.nilT ?_) | (with_reducible refine IfB.f isE_c ?_) | (with_reducible refine IfB.t isE_n ?_) | (with_reducible refine IfB.t ?gha ?_; (case gha => rfl)) | (with_reducible refine IfB.f ?gha ?_; (case gha => rfl)) | (with_reducible refine IfB.t ?gha ?_; (case gha => assumption)) | (with_reducible refine IfB.f ?gha ?_; (case gha => assumption)) | (with_reducible refine IfB.yes (Eq.refl _) ?_) | (with_reducible refine IfB.yes ?gha ?_; (case gha => (first | omega | (simp only [len_c, len_n, List.length_map]; omega)))) | (with_reducible refine IfB.no ?gha ?_; (case gha => (first | omega | (simp only [len_c, len_n, List.length_map]; omega)))) | (with_reducible refine IfB.t ?gha ?_; (case gha => decide +kernel)) | (with_reducible refine IfB.f ?gha ?_; (case gha => decide +kernel))); (with_reducible (conv => whnf))))))
local macro_rules
  | `(tactic| decreasing_trivial_pre_omega) => `(tactic| (decreasing_trivial; (repeat ((first | ((with_reducible refine And.intro ?gha ?_); (case gha => (first | assumption | omega | exact rfl | (exact mset_same) | (exact ⟨_, mset_same⟩) | (exact Exists.intro _ (by first | exact mset_same | assumption | (rw [mset_ne (by assumption)]; first | exact mset_same | assumption))) | (exact sm_of (by omega) (by omega)) | (exact sz1000 (by first | omega | (simp; done) | (simp; omega))) | (exact Or.inl ⟨by decide, by decide⟩) | decide | (simp; done) | (refine ⟨?_, ?_⟩ <;> (first | assumption | omega | exact rfl | (exact mset_same) | (exact ⟨_, mset_same⟩) | (exact Exists.intro _ (by first | exact mset_same | assumption | (rw [mset_ne (by assumption)]; first | exact mset_same | assumption))) | (exact sm_of (by omega) (by omega)) | (exact sz1000 (by first | omega | (simp; done) | (simp; omega))) | (exact Or.inl ⟨by decide, by decide⟩) | decide | (simp; done))) | (refine ⟨?_, ?_, ?_⟩ <;> (first | assumption | omega | exact rfl | (exact mset_same) | (exact ⟨_, mset_same⟩) | (exact Exists.intro _ (by first | exact mset_same | assumption | (rw [mset_ne (by assumption)]; first | exact mset_same | assumption))) | (exact sm_of (by omega) (by omega)) | (exact sz1000 (by first | omega | (simp; done) | (simp; omega))) | (exact Or.inl ⟨by decide, by decide⟩) | decide | (simp; done))) | (refine ⟨?_, ?_, ?_, ?_⟩ <;> (first | assumption | omega | exact rfl | (exact mset_same) | (exact ⟨_, mset_same⟩) | (exact Exists.intro _ (by first | exact mset_same | assumption | (rw [mset_ne (by assumption)]; first | exact mset_same | assumption))) | (exact sm_of (by omega) (by omega)) | (exact sz1000 (by first | omega | (simp; done) | (simp; omega))) | (exact Or.inl ⟨by decide, by decide⟩) | decide | (simp; done)))))) | (with_reducible refine exW (by first | exact mset_same | assumption | (rw [mset_ne (by assumption)]; first | exact mset_same | assumption)) ?_)); decreasing_trivial))))
@[reducible] def tfRdPart (C CT : Addr) (lv : Nat) : TF := fun ws M R RX => ∃ (a : Addr) (ds : List PyData) (dx : Addr) (i due : Nat), ws = [.r a, .d (.int (13 - (lv : Nat)))] ∧ (M a = some (.ins C dx (rdF ds i due)) ∧ i ≤ ds.length ∧ txtAll ds = true ∧ 1 ≤ lv ∧ lv ≤ 12) ∧ (∀ d i2 due2, rdPart ds lv i due = .inr (d, i2, due2) → R (.d d) (mset M a (.ins C dx (rdF ds (i2 : Nat) (due2 : Nat))))) ∧ (∀ j, rdPart ds lv i due = .inl j → ∀ due2 : Int, RX ⟨.ref CT, [("at", .int (j : Nat))]⟩ (mset M a (.ins C dx (rdF ds (j : Nat) due2))))
theorem rep_no {f : Nat → Nat → Nat ⊕ (PyData × Nat × Nat)} {m i due j : Nat} (h : f i due = .inl j) : rep f (m + 1) i due = .inl j := by rw [rep, h]
theorem rep_yes {f : Nat → Nat → Nat ⊕ (PyData × Nat × Nat)} {m i due i2 due2 : Nat} {d : PyData} (h : f i due = .inr (d, i2, due2)) : rep f (m + 1) i due = joinK [d] (rep f m i2 due2) := by
  rw [rep, h]
  dsimp only
  rcases rep f m i2 due2 with _ | ⟨_, _, _⟩ <;> rfl
theorem rdLet_len {ds : List PyData} : ∀ {m i : Nat} {cs : List Nat}, i ≤ ds.length → rdLet ds m i = .inr cs → i + m ≤ ds.length ∧ cs.length = m ∧ ∀ c ∈ cs, 1 ≤ c ∧ c ≤ 26
  | 0, i, cs, hi, h => by cases h; exact ⟨hi, rfl, fun c h => by cases h⟩
  | m + 1, i, cs, hi, h => by
    rw [rdLet] at h
    split at h
    · cases h
    · rename_i c hc
      split at h
      · cases h
      · rename_i cs2 h2
        cases h
        obtain ⟨a1, a2, a3⟩ := numAt_some hc
        obtain ⟨b1, b2, b3⟩ := rdLet_len (i := i + 1) (by omega) h2
        refine ⟨by omega, by rw [List.length_cons, b2], fun x hx => ?_⟩
        rcases List.mem_cons.mp hx with e | e
        · omega
        · exact b3 x e
theorem rdTag_len {ds : List PyData} {i i2 : Nat} {cs : List Nat} (h : rdTag ds i = .inr (cs, i2)) : i2 ≤ ds.length ∧ i2 = i + 1 + cs.length ∧ 1 ≤ cs.length ∧ cs.length ≤ 8 ∧ (∀ c ∈ cs, 1 ≤ c ∧ c ≤ 26) ∧ numAt ds i 1 8 = some cs.length ∧ rdLet ds cs.length (i + 1) = .inr cs := by
  unfold rdTag at h
  split at h
  · cases h
  · rename_i m hm
    split at h
    · cases h
    · rename_i cs2 h2
      cases h
      obtain ⟨a1, a2, a3⟩ := numAt_some hm
      obtain ⟨b1, b2, b3⟩ := rdLet_len (by omega) h2
      rw [b2]
      exact ⟨by omega, rfl, by omega, by omega, b3, hm, h2⟩
theorem rep_len {ds : List PyData} {f : Nat → Nat → Nat ⊕ (PyData × Nat × Nat)} (hf : ∀ i due d i2 due2, i ≤ ds.length → f i due = .inr (d, i2, due2) → i2 ≤ ds.length) : ∀ {m i due : Nat} {ks : List PyData} {i2 due2 : Nat}, i ≤ ds.length → rep f m i due = .inr (ks, i2, due2) → i2 ≤ ds.length ∧ ks.length = m
  | 0, i, due, ks, i2, due2, hi, h => by cases h; exact ⟨hi, rfl⟩
  | m + 1, i, due, ks, i2, due2, hi, h => by
    rw [rep] at h
    split at h
    · cases h
    · rename_i d i3 due3 h3
      split at h
      · cases h
      · rename_i ks4 i4 due4 h4
        cases h
        obtain ⟨b1, b2⟩ := rep_len hf (hf _ _ _ _ _ hi h3) h4
        exact ⟨b1, by rw [List.length_cons, b2]⟩
theorem rdPart_len {ds : List PyData} : ∀ {lv i due : Nat} {d : PyData} {i2 due2 : Nat}, rdPart ds lv i due = .inr (d, i2, due2) → i2 ≤ ds.length
  | 0, _, _, _, _, _, h => by cases h
  | lv + 1, i, due, d, i2, due2, h => by
    rw [rdPart] at h
    split at h
    · cases h
    · split at h
      · cases h
      · rename_i cs i3 h3
        split at h
        · cases h
        · rename_i ks i4 due4 h4
          cases h
          exact (rep_len (fun _ _ _ _ _ _ q => rdPart_len q) (rdTag_len h3).1 h4).1
section
variable {P : Program} {w : World} {K : PySem.W.Frag} {mg : Str → Option Value} {base : Heap}
abbrev sRdPart : Stmt := inClsN (top 35) 2
theorem scRdPart : FnScope ["self", "level", "most", "many", "tag", "kids", "at"] ["self", "level"] (defScope sRdPart) := ⟨rfl, rfl, rfl, by decide +kernel, rfl, by decide +kernel, by decide +kernel⟩
theorem ok_rdPart1 {f C CT : Addr} {fd : FuncData} {j lv : Nat} (F : Fun K "read_part" "NumberReader.read_part" sRdPart f fd) (MNumberReader : RdC K C) (UNumberReader_read_number : UseMX P w K mg base C "read_number" ["self", "low", "high"] j (spD K 3 (tfRdNum C CT))) (UNumberReader_read_tag : UseMX P w K mg base C "read_tag" ["self"] j (spD K 1 (tfRdTag C CT))) (UNumberReader_read_part : UseMX P w K mg base C "read_part" ["self", "level"] (j + lv) (spD K 2 (tfRdPart C CT lv))) (T : Bl mg) (Cs' : Cs mg) : FnOk P w K mg base (L2.CX P w) (j + lv + 1) f fd ["self", "level"] (spD K 2 (tfRdPart C CT (lv + 1))) := by
  refine okDXLL F scRdPart rfl fun cdv A outer s H E hr => ?_
  refine ⟨_, fun RE => _, (pss_cons (ps_set (i := 2) scRdPart.nd rfl (.inl rfl) (pe_ifExp (pt_cmpR op_lt (pv 1) (c_DEPTH Cs') (nomark _)) (pe_op op_sub (c_SIZE Cs') (pe_fld (pv 0) (by rfl))) pe_int))
    (pss_cons (ps_set (i := 3) scRdPart.nd rfl (.inl rfl) (pe_methE (pv 0) MNumberReader.cls UNumberReader_read_number.hm UNumberReader_read_number.ok (hr.mono (by omega)) UNumberReader_read_number.b (fun σ => passAt (takes_of (E := E) rfl rfl rfl rfl) σ) (pa_cons pe_int (pa_cons (pv 2) pa_nil))))
    (pss_cons (ps_fldaug (pv 0) (pv 3) in_add)
    (pss_cons (ps_set (i := 4) scRdPart.nd rfl (.inl rfl) (pe_methE0 (pv 0) MNumberReader.cls UNumberReader_read_tag.hm UNumberReader_read_tag.ok (hr.mono (by omega)) UNumberReader_read_tag.b (fun σ => passAt (takes_of (E := E) rfl rfl rfl rfl) σ)))
    (pss_cons (ps_set (i := 5) scRdPart.nd rfl (.inl rfl) (pe_lst pa_nil))
    (pss_cons (ps_for (passes_of rfl) rfl (pi_range1 (by rfl) T.range (pa_cons (pv 3) pa_nil)) (pg_name (i := 6) scRdPart.nd rfl (.inl rfl)) (pss_one (ps_expr (pe_bm PySem.F.plainAttrs_list PySem.F.slot_list_append PySem.F.type_list_append mt_append (pv 5) (pa_cons (pe_methE (pv 0) MNumberReader.cls UNumberReader_read_part.hm UNumberReader_read_part.ok (hr.mono (by omega)) UNumberReader_read_part.b (fun σ => passAt (takes_of (E := E) rfl rfl rfl rfl) σ) (pa_cons (pe_op op_add (pv 1) pe_int) pa_nil)) pa_nil)))))
    (pss_one (ps_ret (pe_tup (pa_cons (pv 4) (pa_cons (pe_callTy call_tuple_of (by rfl) T.tuple PyProof.Rows.boot_tuple (pa_cons (pv 5) pa_nil)) pa_nil))))))))))), fun RE => (ss_cons (ss_set (se_if (st_test (se_op so_lt se_nm se_int)) (se_op so_sub se_int (se_fld se_nm)) se_int))
    (ss_cons (ss_set (se_methX se_nm (sa_cons se_int (sa_cons se_nm sa_nil))))
    (ss_cons (ss_augF so_add se_nm se_nm)
    (ss_cons (ss_set (se_methX se_nm sa_nil))
    (ss_cons (ss_set (se_lst sa_nil))
    (ss_cons (ss_for (si_r1 (sa_cons se_nm sa_nil)) sg_name (ss_drop (se_bmL sm_append se_nm (sa_cons (se_methX se_nm (sa_cons (se_op so_add se_nm se_int) sa_nil)) sa_nil))))
    (ss_ret (se_tup (sa_cons se_nm (sa_cons (se_cb sc_tuple (sa_cons se_nm sa_nil)) sa_nil)))))))))), fun ws M R RX hl h => ?_⟩
  obtain ⟨a, ds, dx, i, due, rfl, ⟨hM, hil, htx, _, hlv⟩, h2, h3⟩ := h
  have c1 := MNumberReader.cls
  have c2 := MNumberReader.n3
  simp only [start0, len_c, len_n, map_c, map_n, app_c, app_n, rep_0, rep_s, Nat.reduceAdd, Nat.reduceSub]
  decreasing_trivial_pre_omega
  refine IfB.d (fun c => ?_) (fun c => ?_)
  · have hlv0 : lv ≠ 0 := by omega
    decreasing_trivial_pre_omega
    rw [rdPart, if_neg hlv0] at h2 h3
    refine ⟨a, ds, dx, i, due, 0, 60 - (due : Int), rfl, ⟨hM, hil, htx⟩, fun m hm => ?_, fun hn => ?_⟩
    · rw [hm] at h2 h3
      dsimp only at h2 h3
      obtain ⟨hi1, hm1, hm2⟩ := numAt_some hm
      have hl := rdF_len (ds := ds) (i := ((i + 1 : Nat) : Int)) (due := due)
      have hM1 : mset M a (.ins C dx (rdF ds ((i + 1 : Nat) : Int) due)) a = some (.ins C dx (rdF ds ((i + 1 : Nat) : Int) due)) := mset_same
      decreasing_trivial_pre_omega
      rw [mset_mset, show ((due : Int) + (m : Int)) = ((due + m : Nat) : Int) by omega]
      refine ⟨a, ds, dx, i + 1, due + m, rfl, ⟨mset_same, by omega, htx⟩, fun cs i2 ht => ?_, fun jj ht => ?_⟩
      · rw [ht] at h2 h3
        dsimp only at h2 h3
        obtain ⟨t1, t2, t3, t4, t5⟩ := rdTag_len ht
        decreasing_trivial_pre_omega
        intro p hp
        rw [mset_mset] at hp ⊢
        have hpa : p ≠ a := fun z => by rw [z, mset_same] at hp; cases hp
        have hMp : M p = none := by rw [mset_ne hpa] at hp; exact hp
        decreasing_trivial_pre_omega
        rw [show ((m : Nat) : Int).toNat = m by omega]
        refine forR (n := m) (fun n ρ M' => ∃ (ks : List PyData) (i' due' : Nat) (y : Option W), ρ = [some (W.r a), some (.d (.int (13 - ((lv + 1 : Nat) : Int)))), some (.d (.int (60 - (due : Int)))), some (.d (.int (m : Int))), some (.d (.str (ltr cs))), some (.r p), y] ∧ M' = mset (mset M a (.ins C dx (rdF ds (i' : Nat) (due' : Nat)))) p (.lst (ks.map W.d)) ∧ ks.length = n ∧ i' ≤ ds.length ∧ rep (rdPart ds lv) m i2 (due + m) = joinK ks (rep (rdPart ds lv) (m - n) i' due')) ⟨[], i2, due + m, none, rfl, rfl, rfl, t1, by rw [joinK_nil]; rfl⟩ (fun _ _ _ _ _ => trivial) (fun n ρ M' N hn pv hN => ?_) (fun ρ M' pv => ?_)
        · obtain ⟨ks, i', due', y, rfl, rfl, hkl, hil', hrep⟩ := pv
          have hMa : mset (mset M a (.ins C dx (rdF ds (i' : Nat) (due' : Nat)))) p (.lst (ks.map W.d)) a = some (.ins C dx (rdF ds (i' : Nat) (due' : Nat))) := by rw [mset_ne (fun z => hpa z.symm)]; exact mset_same
          decreasing_trivial_pre_omega
          refine ⟨a, ds, dx, i', due', by dsimp only; rw [show (13 - ((lv + 1 : Nat) : Int) + 1) = 13 - (lv : Int) by omega], ⟨hMa, hil', htx, by omega, by omega⟩, fun d i4 due4 hd => ?_, fun jj hj due4 => ?_⟩
          · have hszk : (ks.map W.d).length < sizeLine := by
              rw [List.length_map]
              exact Nat.lt_of_le_of_lt (show ks.length ≤ 100000 by omega) (by decide)
            rw [mset_swap hpa]
            decreasing_trivial_pre_omega
            rw [mset_mset]
            refine hN _ _ ⟨ks ++ [d], i4, due4, _, rfl, by rw [List.map_append]; rfl, by rw [List.length_append, hkl]; rfl, rdPart_len hd, ?_⟩
            rw [hrep, show m - n = (m - (n + 1)) + 1 by omega, rep_yes hd, joinK_app]
          · rw [hrep, show m - n = (m - n - 1) + 1 by omega, rep_no hj] at h3
            have := h3 jj rfl due4
            rw [mset_swap hpa]
            exact ⟨_, fun b o h => by rw [mset_ne (fun z => by rw [z, mset_ne hpa, hMp] at h; cases h)]; exact h, this⟩
        · obtain ⟨ks, i', due', y, rfl, rfl, hkl, hil', hrep⟩ := pv
          rw [Nat.sub_self, rep, joinK, List.append_nil] at hrep
          rw [hrep] at h2
          have := h2 _ _ _ rfl
          decreasing_trivial_pre_omega
          exact ⟨_, fun b o h => by rw [mset_ne (fun z => by rw [z, mset_ne hpa, hMp] at h; cases h)]; exact h, this⟩
      · rw [ht] at h3
        have := h3 jj rfl ((due + m : Nat) : Int)
        rw [mset_mset]
        exact ⟨_, fun _ _ h => h, this⟩
    · rw [hn] at h3
      have := h3 i rfl due
      rw [mset_eta hM] at this
      exact ⟨_, fun _ _ h => h, this⟩
  · have hlv0 : lv = 0 := by omega
    decreasing_trivial_pre_omega
    rw [rdPart, if_pos hlv0] at h2 h3
    refine ⟨a, ds, dx, i, due, 0, 0, rfl, ⟨hM, hil, htx⟩, fun m hm => ?_, fun hn => ?_⟩
    · rw [hm] at h2 h3
      dsimp only at h2 h3
      obtain ⟨hi1, hm1, hm2⟩ := numAt_some hm
      have hl := rdF_len (ds := ds) (i := ((i + 1 : Nat) : Int)) (due := due)
      have hM1 : mset M a (.ins C dx (rdF ds ((i + 1 : Nat) : Int) due)) a = some (.ins C dx (rdF ds ((i + 1 : Nat) : Int) due)) := mset_same
      decreasing_trivial_pre_omega
      rw [mset_mset, show ((due : Int) + (m : Int)) = ((due + m : Nat) : Int) by omega]
      refine ⟨a, ds, dx, i + 1, due + m, rfl, ⟨mset_same, by omega, htx⟩, fun cs i2 ht => ?_, fun jj ht => ?_⟩
      · rw [ht] at h2 h3
        dsimp only at h2 h3
        obtain ⟨t1, t2, t3, t4, t5⟩ := rdTag_len ht
        decreasing_trivial_pre_omega
        intro p hp
        rw [mset_mset] at hp ⊢
        have hpa : p ≠ a := fun z => by rw [z, mset_same] at hp; cases hp
        have hMp : M p = none := by rw [mset_ne hpa] at hp; exact hp
        decreasing_trivial_pre_omega
        rw [show ((m : Nat) : Int).toNat = m by omega]
        refine forR (n := m) (fun n ρ M' => ∃ (ks : List PyData) (i' due' : Nat) (y : Option W), ρ = [some (W.r a), some (.d (.int (13 - ((lv + 1 : Nat) : Int)))), some (.d (.int (0))), some (.d (.int (m : Int))), some (.d (.str (ltr cs))), some (.r p), y] ∧ M' = mset (mset M a (.ins C dx (rdF ds (i' : Nat) (due' : Nat)))) p (.lst (ks.map W.d)) ∧ ks.length = n ∧ i' ≤ ds.length ∧ rep (rdPart ds lv) m i2 (due + m) = joinK ks (rep (rdPart ds lv) (m - n) i' due')) ⟨[], i2, due + m, none, rfl, rfl, rfl, t1, by rw [joinK_nil]; rfl⟩ (fun _ _ _ _ _ => trivial) (fun n ρ M' N hn pv hN => ?_) (fun ρ M' pv => ?_)
        · obtain ⟨ks, i', due', y, rfl, rfl, hkl, hil', hrep⟩ := pv
          have hMa : mset (mset M a (.ins C dx (rdF ds (i' : Nat) (due' : Nat)))) p (.lst (ks.map W.d)) a = some (.ins C dx (rdF ds (i' : Nat) (due' : Nat))) := by rw [mset_ne (fun z => hpa z.symm)]; exact mset_same
          decreasing_trivial_pre_omega
          refine ⟨a, ds, dx, i', due', by dsimp only; rw [show (13 - ((lv + 1 : Nat) : Int) + 1) = 13 - (lv : Int) by omega], ⟨hMa, hil', htx, by omega, by omega⟩, fun d i4 due4 hd => ?_, fun jj hj due4 => ?_⟩
          · have hszk : (ks.map W.d).length < sizeLine := by
              rw [List.length_map]
              exact Nat.lt_of_le_of_lt (show ks.length ≤ 100000 by omega) (by decide)
            rw [mset_swap hpa]
            decreasing_trivial_pre_omega
            rw [mset_mset]
            refine hN _ _ ⟨ks ++ [d], i4, due4, _, rfl, by rw [List.map_append]; rfl, by rw [List.length_append, hkl]; rfl, rdPart_len hd, ?_⟩
            rw [hrep, show m - n = (m - (n + 1)) + 1 by omega, rep_yes hd, joinK_app]
          · rw [hrep, show m - n = (m - n - 1) + 1 by omega, rep_no hj] at h3
            have := h3 jj rfl due4
            rw [mset_swap hpa]
            exact ⟨_, fun b o h => by rw [mset_ne (fun z => by rw [z, mset_ne hpa, hMp] at h; cases h)]; exact h, this⟩
        · obtain ⟨ks, i', due', y, rfl, rfl, hkl, hil', hrep⟩ := pv
          rw [Nat.sub_self, rep, joinK, List.append_nil] at hrep
          rw [hrep] at h2
          have := h2 _ _ _ rfl
          decreasing_trivial_pre_omega
          exact ⟨_, fun b o h => by rw [mset_ne (fun z => by rw [z, mset_ne hpa, hMp] at h; cases h)]; exact h, this⟩
      · rw [ht] at h3
        have := h3 jj rfl ((due + m : Nat) : Int)
        rw [mset_mset]
        exact ⟨_, fun _ _ h => h, this⟩
    · rw [hn] at h3
      have := h3 i rfl due
      rw [mset_eta hM] at this
      exact ⟨_, fun _ _ h => h, this⟩
theorem ok_rdPart {f C CT : Addr} {fd : FuncData} {j : Nat} (F : Fun K "read_part" "NumberReader.read_part" sRdPart f fd) (hm : L2.Meth K C "read_part" f) (MNumberReader : RdC K C) (U1 : UseMX P w K mg base C "read_number" ["self", "low", "high"] j (spD K 3 (tfRdNum C CT))) (U2 : UseMX P w K mg base C "read_tag" ["self"] j (spD K 1 (tfRdTag C CT))) (T : Bl mg) (Cs' : Cs mg) : ∀ lv, FnOk P w K mg base (L2.CX P w) (j + lv) f fd ["self", "level"] (spD K 2 (tfRdPart C CT lv))
  | 0 => no0 fun ws M R RX ⟨_, _, _, _, _, _, ⟨_, _, _, h, _⟩, _⟩ => by omega
  | lv + 1 => ok_rdPart1 F MNumberReader U1 U2 ⟨f, fd, ok_rdPart F hm MNumberReader U1 U2 T Cs' lv, hm, F.binds (ps := ["self", "level"]) fun _ _ _ _ _ _ us hl => match us, hl with | [_, _], _ => rfl⟩ T Cs'
end
end Tl
set_option Elab.async false
set_option linter.all false
set_option maxRecDepth 100000
set_option maxHeartbeats 8000000
namespace Tl
open PySem L2 RZ
local macro_rules
  | `(tactic| decreasing_trivial) => `(tactic| ((with_reducible (conv => whnf)); (repeat ((first | (with_reducible refine exI (by first | exact mset_same | assumption | (rw [mset_ne (by assumption)]; first | exact mset_same | assumption)) ?_) | (with_reducible refine exI2 (by first | exact mset_same | assumption | (rw [mset_ne (by assumption)]; first | exact mset_same | assumption)) ?_) | (with_reducible refine (gO_i lk_num) ?_) | (with_reducible refine (gO_i lk_atN) ?_) | (with_reducible refine (gO_i lk_due) ?_) | (with_reducible refine gp_atN ?_) | (with_reducible refine gp_due ?_) | (with_reducible refine gDs_c ?_) | (with_reducible refine gDs_n ?_) | (with_reducible refine gNs_c ?_) | (with_reducible refine gNs_n ?_) | (with_reducible refine gO_i tyAny_lt ?_) | (with_reducible refine gIs_c ?_) | (with_reducible refine gIs_n ?_) | (with_reducible refine gBs_c ?_) | (with_reducible refine gBs_n ?_) | (with_reducible refine gSs_c ?_) | (with_reducible refine gSs_n ?_) | (with_reducible refine gO_i tyIs_int ?_) | (with_reducible refine gO_i tyIs_bool ?_) | (with_reducible refine gO_i tyIs_str ?_) | (with_reducible refine gO_i tyIs_tuple ?_) | (with_reducible refine gO_i tyIs_list ?_) | (with_reducible refine gDs_i ?_) | (with_reducible refine gO_i (Eq.refl _) ?_) | (with_reducible refine gO_i (by assumption) ?_) | (with_reducible refine gO_i at_0 ?_) | (with_reducible refine gO_i at_m0 ?_) | (with_reducible refine gO_i at_1 ?_) | (with_reducible refine gO_i at_m1 ?_) | (with_reducible refine gO_i at_2 ?_) | (with_reducible refine gO_i at_m2 ?_) | (with_reducible refine gO_i at_3 ?_) | (with_reducible refine gO_i at_m3 ?_) | (with_reducible refine gO_i at_4 ?_) | (with_reducible refine gO_i at_m4 ?_) | (with_reducible refine gO_i at_5 ?_) | (with_reducible refine gO_i at_m5 ?_) | (with_reducible refine gO_i at_6 ?_) | (with_reducible refine gO_i at_m6 ?_) | (with_reducible refine gO_i at_7 ?_) | (with_reducible refine gO_i at_m7 ?_) | (with_reducible refine IfB.ngf ?_) | (with_reducible refine IfB.ngt ?_) | (with_reducible refine IfB.not ?_) | (with_reducible refine IfB.nil ?_) | (with_reducible refine IfB.nilT ?_) | (with_reducible refine IfB.f isE_c ?_) | (with_reducible refine IfB.t isE_n ?_) | (with_reducible refine IfB.t ?gha ?_; (case gha => rfl)) | (with_reducible refine IfB.f ?gha ?_; (case gha => rfl)) | (with_reducible refine IfB.t ?gha ?_; (case gha => assumption)) | (with_reducible refine IfB.f ?gha ?_; (case gha => assumption)) | (with_reducible refine IfB.yes (Eq.refl _) ?_) | (with_reducible refine IfB.yes ?gha ?_; (case gha => (first | omega | (simp only [len_c, len_n, List.length_map]; omega)))) | (with_reducible refine IfB.no ?gha ?_; (case gha => (first | omega | (simp only [len_c, len_n, List.length_map]; omega)))) | (with_reducible refine IfB.t ?gha ?_; (case gha => decide +kernel)) | (with_reducible refine IfB.f ?gha ?_; (case gha => decide +kernel))); (with_reducible (conv => whnf))))))
local macro_rules
  | `(tactic| decreasing_trivial_pre_omega) => `(tactic| (decreasing_trivial; (repeat ((first | ((with_reducible refine And.intro ?gha ?_); (case gha => (first | assumption | omega | exact rfl | (exact mset_same) | (exact ⟨_, mset_same⟩) | (exact Exists.intro _ (by first | exact mset_same | assumption | (rw [mset_ne (by assumption)]; first | exact mset_same | assumption))) | (exact sm_of (by omega) (by omega)) | (exact sz1000 (by first | omega | (simp; done) | (simp; omega))) | (exact Or.inl ⟨by decide, by decide⟩) | decide | (simp; done) | (refine ⟨?_, ?_⟩ <;> (first | assumption | omega | exact rfl | (exact mset_same) | (exact ⟨_, mset_same⟩) | (exact Exists.intro _ (by first | exact mset_same | assumption | (rw [mset_ne (by assumption)]; first | exact mset_same | assumption))) | (exact sm_of (by omega) (by omega)) | (exact sz1000 (by first | omega | (simp; done) | (simp; omega))) | (exact Or.inl ⟨by decide, by decide⟩) | decide | (simp; done))) | (refine ⟨?_, ?_, ?_⟩ <;> (first | assumption | omega | exact rfl | (exact mset_same) | (exact ⟨_, mset_same⟩) | (exact Exists.intro _ (by first | exact mset_same | assumption | (rw [mset_ne (by assumption)]; first | exact mset_same | assumption))) | (exact sm_of (by omega) (by omega)) | (exact sz1000 (by first | omega | (simp; done) | (simp; omega))) | (exact Or.inl ⟨by decide, by decide⟩) | decide | (simp; done))) | (refine ⟨?_, ?_, ?_, ?_⟩ <;> (first | assumption | omega | exact rfl | (exact mset_same) | (exact ⟨_, mset_same⟩) | (exact Exists.intro _ (by first | exact mset_same | assumption | (rw [mset_ne (by assumption)]; first | exact mset_same | assumption))) | (exact sm_of (by omega) (by omega)) | (exact sz1000 (by first | omega | (simp; done) | (simp; omega))) | (exact Or.inl ⟨by decide, by decide⟩) | decide | (simp; done)))))) | (with_reducible refine exW (by first | exact mset_same | assumption | (rw [mset_ne (by assumption)]; first | exact mset_same | assumption)) ?_)); decreasing_trivial))))
theorem occ_letter : ∀ c < 26, occ1 lettersS ⟨#[97 + c]⟩ = some c := by decide +kernel
/-- the numbers of a part -/
@[reducible] def tfNums (n : Nat) : TF := fun ws M R _ => g1 ws fun x => gD x fun d => (TrT n d ∧ nn d ≤ 60 ∧ n ≤ 12) ∧ ∀ p, M p = none → R (.r p) (mset M p (.lst ((nums d).map W.d)))
@[reducible] def tfNumsD (n : Nat) : TF := fun ws M R _ => g1 ws fun x => gD x fun d => (TrT n d ∧ nn d ≤ 60 ∧ n ≤ 12) ∧ R (.d (.list (nums d))) M
section
variable {P : Program} {w : World} {K : PySem.W.Frag} {mg : Str → Option Value} {base : Heap}
abbrev sNumsW : Stmt := top 31
theorem scNumsW : FnScope ["tree", "numbers", "kid", "tag", "kids", "sign"] ["tree"] (defScope sNumsW) := ⟨rfl, rfl, rfl, by decide +kernel, rfl, by decide +kernel, by decide +kernel⟩
theorem ok_numsW1 {f : Addr} {fd : FuncData} {n : Nat} (F : Fun K "numbers_within" "numbers_within" sNumsW f fd) (Unumbers_within : Use P w K mg base "numbers_within" ["tree"] n (spD K 1 (tfNumsD n))) (T : Bl mg) (CL : ∃ t, mg "LETTERS" = some (.str lettersS t)) : FnOk P w K mg base CX0 (n + 1) f fd ["tree"] (spD K 1 (tfNums (n + 1))) := by
  refine okD F scNumsW rfl fun cdv A outer s H E hr => ?_
  refine ⟨_, _, (pss_cons (ps_asg (pv 0) (pg_tup rfl (pgs_cons (pg_name (i := 3) scNumsW.nd rfl (.inl rfl)) (pgs_cons (pg_name (i := 4) scNumsW.nd rfl (.inl rfl)) pgs_nil))))
    (pss_cons (ps_set (i := 1) scNumsW.nd rfl (.inl rfl) (pe_lst (pa_cons (pe_callB call_len_seq (by rfl) T.len PySem.boot_len (pa_cons (pv 4) pa_nil)) (pa_cons (pe_callB call_len_str (by rfl) T.len PySem.boot_len (pa_cons (pv 3) pa_nil)) pa_nil))))
    (pss_cons (ps_expr (pe_bm PySem.F.plainAttrs_list PySem.F.slot_list_extend PySem.F.type_list_extend mt_extend (pv 1) (pa_cons (pe_lc (own := [("sign", 5)]) (g := gName 5) (tt := tYes) (by rfl) scNumsW.nd (pi_str (pv 3)) (blkOk_by (N := ["tree", "numbers", "kid", "tag", "kids", "sign"]) (sc := defScope sNumsW) (own := [("sign", 5)]) (by decide +kernel)) (fun _ _ _ _ _ => pg_name (i := 5) scNumsW.nd rfl (Or.inl rfl)) (fun _ _ _ _ _ => pts_nil) (fun _ _ _ _ _ => (pe_op op_add (pe_bm PySem.F.plainAttrs_str PySem.F.slot_str_index PySem.F.type_str_index mt_sindex (c_str CL) (pa_cons (pv 5) pa_nil)) pe_int))) pa_nil)))
    (pss_cons (ps_for PassesOwn.never rfl (pi_tup (pv 4)) (pg_name (i := 2) scNumsW.nd rfl (.inl rfl)) (pss_one (ps_expr (pe_bm PySem.F.plainAttrs_list PySem.F.slot_list_extend PySem.F.type_list_extend mt_extend (pv 1) (pa_cons (pe_call Unumbers_within.ok (hr.mono (by omega)) rfl Unumbers_within.m Unumbers_within.kp Unumbers_within.b .nil pass0 (pa_cons (pv 2) pa_nil)) pa_nil)))))
    (pss_one (ps_ret (pv 1))))))),
    (ss_cons (ss_unp sg_tup2 se_nm)
    (ss_cons (ss_set (se_lst (sa_cons (se_cb sc_len (sa_cons se_nm sa_nil)) (sa_cons (se_cb sc_lenS (sa_cons se_nm sa_nil)) sa_nil))))
    (ss_cons (ss_drop (se_bmL sm_extend se_nm (sa_cons (se_lcF (si_str se_nm) sg_name st_yes (se_op so_add (se_sidx se_str (sa_cons se_nm sa_nil)) se_int)) sa_nil)))
    (ss_cons (ss_for (si_tup se_nm) sg_name (ss_drop (se_bmL sm_extend se_nm (sa_cons (se_call (sa_cons se_nm sa_nil)) sa_nil))))
    (ss_ret se_nm))))), fun ws M R RX hl h => ?_⟩
  obtain ⟨x, rfl, h1⟩ := g1_of h
  obtain ⟨d, rfl, ⟨ht, hn, hn12⟩, h2⟩ := gD_of h1
  obtain ⟨s0, ks, rfl, hs, hk⟩ := ht
  obtain ⟨l1, l2, l3⟩ := tag_let hs
  rw [nn] at hn
  simp only [start0, len_c, len_n, map_c, map_n, app_c, app_n, rep_0, rep_s, Nat.reduceAdd, Nat.reduceSub]
  decreasing_trivial_pre_omega
  intro p hp
  decreasing_trivial_pre_omega
  have hl2 : s0.cps.toList.length = s0.length := by rw [Array.length_toList]; rfl
  refine lc1F (k := fun _ => True) (b := bName 5) (fun c : Nat => PyData.int ((c : Int) - 96)) trivial (fun c hc Rk q => ?_) (sz1000 (by omega)) ?_
  · obtain ⟨kk, hk26, rfl⟩ := l3 c hc
    have ho := occ_letter kk hk26
    rw [show ((97 + kk : Nat) : Int) - 96 = (kk : Int) + 1 by omega] at q
    decreasing_trivial_pre_omega
    exact q
  · decreasing_trivial_pre_omega
    have hlk := len_nnA ks
    have hsz2 : s0.cps.size = s0.length := rfl
    refine ⟨sz1000 (by simp; omega), ?_⟩
    rw [mset_mset]
    have e0 : [W.d (PyData.int (ks.length : Nat)), W.d (PyData.int (s0.length : Nat))] ++ (s0.cps.toList.map fun c : Nat => PyData.int ((c : Int) - 96)).map W.d = ((PyData.int (ks.length : Nat) :: .int (s0.length : Nat) :: s0.cps.toList.map fun c : Nat => PyData.int ((c : Int) - 96)) ++ numsAll (ks.take 0)).map W.d := by rw [List.take_zero, numsAll, List.append_nil]; rfl
    rw [e0]
    have hd0 : (PyData.int (ks.length : Nat) :: .int (s0.length : Nat) :: s0.cps.toList.map fun c : Nat => PyData.int ((c : Int) - 96)).length = 2 + s0.length := by simp [hl2]; omega
    have hnum : nums (.tuple [.str s0, .tuple ks]) = (PyData.int (ks.length : Nat) :: .int (s0.length : Nat) :: s0.cps.toList.map fun c : Nat => PyData.int ((c : Int) - 96)) ++ numsAll ks := by rw [nums]
    rw [hnum] at h2
    generalize (PyData.int (ks.length : Nat) :: .int (s0.length : Nat) :: s0.cps.toList.map fun c : Nat => PyData.int ((c : Int) - 96)) = hd at h2 hd0 ⊢
    clear hnum e0
    decreasing_trivial_pre_omega
    refine for1 (fun i ρ M' => ∃ y, M' = mset M p (.lst ((hd ++ numsAll (ks.take i)).map W.d)) ∧ ρ = [some (W.d (PyData.tuple [PyData.str s0, PyData.tuple ks])), some (.r p), y, some (.d (.str s0)), some (.d (.tuple ks)), none]) ⟨none, rfl, rfl⟩ (fun _ _ _ _ _ => trivial) (fun i kd ρ M' N hkd pv hN => ?_) (fun ρ M' pv => ?_)
    · obtain ⟨y, rfl, rfl⟩ := pv
      have hm := List.mem_of_getElem? hkd
      have h1 := nn_memA hm
      decreasing_trivial_pre_omega
      refine ⟨⟨hk kd hm, by omega, by omega⟩, ?_⟩
      decreasing_trivial_pre_omega
      have b1 := numsAll_len (n := n) (ks := ks.take i) fun x hx => hk x (List.mem_of_mem_take hx)
      have b2 := nums_len (hk kd hm)
      have b3 := nnA_snoc hkd
      refine ⟨sz1000 (by simp; omega), ?_⟩
      rw [mset_mset]
      refine hN _ _ ⟨_, ?_, rfl⟩
      rw [List.take_add_one, hkd, numsAll_app, ← List.map_append, List.append_assoc]
      show _ = mset M p (.lst ((hd ++ (numsAll (ks.take i) ++ numsAll [kd])).map W.d))
      rw [numsAll, numsAll, List.append_nil]
    · obtain ⟨y, rfl, rfl⟩ := pv
      rw [List.take_length]
      decreasing_trivial_pre_omega
      exact h2 p hp
theorem ok_numsW {f : Addr} {fd : FuncData} (F : Fun K "numbers_within" "numbers_within" sNumsW f fd) (mF : mg "numbers_within" = some (.ref f)) (T : Bl mg) (CL : ∃ t, mg "LETTERS" = some (.str lettersS t)) : ∀ n, FnOk P w K mg base CX0 n f fd ["tree"] (spD K 1 (tfNums n))
  | 0 => no0 fun ws M R RX h => by
    obtain ⟨x, rfl, h1⟩ := g1_of h
    obtain ⟨d, rfl, ⟨h, _⟩, _⟩ := gD_of h1
    exact h
  | n + 1 => ok_numsW1 F ⟨f, fd, FnOk.dat (ok_numsW F mF T CL n) fun ws M R RX hl h => by
    obtain ⟨x, rfl, h1⟩ := g1_of h
    obtain ⟨d, rfl, q1, q2⟩ := gD_of h1
    exact ⟨q1, fun p hp => ⟨p, _, rfl, hp, rfl, q2⟩⟩, mF, F.kp, F.binds (ps := ["tree"]) fun _ _ _ _ _ _ us hl => match us, hl with | [_], _ => rfl⟩ T CL
theorem ok_numsWD {f : Addr} {fd : FuncData} (F : Fun K "numbers_within" "numbers_within" sNumsW f fd) (mF : mg "numbers_within" = some (.ref f)) (T : Bl mg) (CL : ∃ t, mg "LETTERS" = some (.str lettersS t)) (n : Nat) : FnOk P w K mg base CX0 n f fd ["tree"] (spD K 1 (tfNumsD n)) :=
  FnOk.dat (ok_numsW F mF T CL n) fun ws M R RX hl h => by
    obtain ⟨x, rfl, h1⟩ := g1_of h
    obtain ⟨d, rfl, q1, q2⟩ := gD_of h1
    exact ⟨q1, fun p hp => ⟨p, _, rfl, hp, rfl, q2⟩⟩
@[reducible] def tfSent (C : Addr) : TF := fun ws M R RX => g1 ws fun x => gD x fun d => txt d = true ∧ (isTreeD d = true → R (.d (.tuple (nums d))) M) ∧ (isTreeD d = false → RX ⟨.ref C, []⟩ M)
abbrev sSent : Stmt := top 30
theorem scSent : FnScope ["tree"] ["tree"] (defScope sSent) := ⟨rfl, rfl, rfl, by decide +kernel, rfl, by decide +kernel, by decide +kernel⟩
theorem ok_sent {f C : Addr} {fd : FuncData} {k j : Nat} (F : Fun K "sent_numbers" "sent_numbers" sSent f fd) (Ucheck_tree : UseX P w K mg base "check_tree" ["thing"] j (spD K 1 (tfChk isTreeD C))) (Unumbers_within : Use P w K mg base "numbers_within" ["tree"] j (spD K 1 (tfNumsD 12))) (hj : j ≤ k) (T : Bl mg) : FnOk P w K mg base (L2.CX P w) (k + 1) f fd ["tree"] (spD K 1 (tfSent C)) := by
  refine okDX F scSent rfl fun cdv A outer s H E hr => ?_
  refine ⟨_, fun RE => _, (pss_cons (ps_expr (pe_callS Ucheck_tree.ok (hr.mono (by omega)) rfl Ucheck_tree.m Ucheck_tree.kp Ucheck_tree.b (fun σ => passAt (takes_of (E := E) rfl rfl rfl rfl) σ) (pa_cons (pv 0) pa_nil)))
    (pss_one (ps_ret (pe_callTy call_tuple_of (by rfl) T.tuple PyProof.Rows.boot_tuple (pa_cons (PE.nox (pe_call Unumbers_within.ok (hr.mono (by omega)) rfl Unumbers_within.m Unumbers_within.kp Unumbers_within.b .nil pass0 (pa_cons (pv 0) pa_nil))) pa_nil))))), fun RE => (ss_cons (ss_drop (se_callX (sa_cons se_nm sa_nil)))
    (ss_ret (se_cb sc_tuple (sa_cons (se_call (sa_cons se_nm sa_nil)) sa_nil)))), fun ws M R RX hl h => ?_⟩
  obtain ⟨x, rfl, h1⟩ := g1_of h
  obtain ⟨d, rfl, ht, h2, h3⟩ := gD_of h1
  simp only [start0, len_c, len_n, map_c, map_n, app_c, app_n, rep_0, rep_s, Nat.reduceAdd, Nat.reduceSub]
  decreasing_trivial_pre_omega
  refine ⟨fun c => ?_, h3⟩
  obtain ⟨t1, t2⟩ := tree_iff.mp c
  decreasing_trivial_pre_omega
  exact h2 c
@[reducible] def tfTon (CN CT : Addr) : TF := fun ws M R RX => g1 ws fun x => gD x fun d => txt d = true ∧ (∀ ds, d = .tuple ds → (∀ t, rdTop ds = .inr t → R (.d t) M) ∧ (∀ j, rdTop ds = .inl j → RX ⟨.ref CT, [("at", .int (j : Nat))]⟩ M)) ∧ ((∀ ds, d ≠ .tuple ds) → RX ⟨.ref CN, []⟩ M)
abbrev sTon : Stmt := top 33
theorem scTon : FnScope ["numbers", "reader", "tree"] ["numbers"] (defScope sTon) := ⟨rfl, rfl, rfl, by decide +kernel, rfl, by decide +kernel, by decide +kernel⟩
theorem ok_ton {f CN CT CR : Addr} {fd : FuncData} {k j : Nat} (F : Fun K "tree_of_numbers" "tree_of_numbers" sTon f fd) (XNoNumbers : Er K mg "NoNumbers" CN) (XTorn : ErF K mg "Torn" "Torn.__init__" "at" sI_Torn CT) (MNumberReader : RdC K CR) (UNumberReader : UseC P w K mg base CR "NumberReader" ["self", "numbers"] j (spD K 2 (tfInitR CR))) (UNumberReader_read_part : UseMX P w K mg base CR "read_part" ["self", "level"] j (spD K 2 (tfRdPart CR CT 12))) (hj : j + 1 ≤ k) (hk : 2 ≤ k) (T : Bl mg) : FnOk P w K mg base (L2.CX P w) (k + 1) f fd ["numbers"] (spD K 1 (tfTon CN CT)) := by
  obtain ⟨fiTorn, fdTorn, iTorn, tTorn, FTorn⟩ := XTorn.i
  have okTorn := okI_Torn (P := P) (w := w) (mg := mg) (base := base) (k := 0) FTorn XTorn.o XTorn.n
  have bTorn := FTorn.binds (ps := ["self", "at"]) fun _ _ _ _ _ _ us hl => match us, hl with | [_, _], _ => rfl
  refine okDXLL F scTon rfl fun cdv A outer s H E hr => ?_
  refine ⟨_, fun RE => _, (pss_cons (ps_if (pt_not (pt_val (pe_callB (r := rIsi K) call_isi (by rfl) T.isi PyProof.Rows.boot_isinstance (pa_cons (pv 0) (pa_cons (b_tuple T) pa_nil))))) (pss_one (ps_raise rfl (takes_of (E := E) rfl rfl rfl rfl) (pmk_own0 PySem.F.excBase_ValueError XNoNumbers.x XNoNumbers.g XNoNumbers.k (raises_own XNoNumbers.b XNoNumbers.t) (by exact rfl)))) pss_nil)
    (pss_cons (ps_set (i := 1) scTon.nd rfl (.inl rfl) (pe_makeE UNumberReader.made UNumberReader.ok (hr.mono (by omega)) (by rfl) UNumberReader.m UNumberReader.b (fun σ => passAt (takes_of (E := E) rfl rfl rfl rfl) σ) (pa_cons (pv 0) pa_nil)))
    (pss_cons (ps_set (i := 2) scTon.nd rfl (.inl rfl) (pe_methE (pv 1) MNumberReader.cls UNumberReader_read_part.hm UNumberReader_read_part.ok (hr.mono (by omega)) UNumberReader_read_part.b (fun σ => passAt (takes_of (E := E) rfl rfl rfl rfl) σ) (pa_cons pe_int pa_nil)))
    (pss_cons (ps_if (pt_cmpR op_lt (pe_fld (pv 1) (by rfl)) (pe_callB call_len_seq (by rfl) T.len PySem.boot_len (pa_cons (pv 0) pa_nil)) (nomark _)) (pss_one (ps_raise rfl (takes_of (E := E) rfl rfl rfl rfl) (pmk_oex XTorn.o iTorn tTorn okTorn (hr.mono (by omega)) bTorn .nil pass0 (by exact rfl) XTorn.g (pa_cons (pe_fld (pv 1) (by rfl)) pa_nil)))) pss_nil)
    (pss_one (ps_ret (pv 2))))))), fun RE => (ss_cons (ss_if (st_not (st_val (se_cb sc_isi (sa_cons se_nm (sa_cons se_o sa_nil))))) ss_raise0 ss_nil)
    (ss_cons (ss_set (se_makeX (sa_cons se_nm sa_nil)))
    (ss_cons (ss_set (se_methX se_nm (sa_cons se_int sa_nil)))
    (ss_cons (ss_if (st_test (se_op so_lt (se_fld se_nm) (se_cb sc_len (sa_cons se_nm sa_nil)))) (ss_raiseF (sa_cons (se_fld se_nm) sa_nil)) ss_nil)
    (ss_ret se_nm))))), fun ws M R RX hl h => ?_⟩
  obtain ⟨x, rfl, h1⟩ := g1_of h
  obtain ⟨d, rfl, ht, h2, h3⟩ := gD_of h1
  have c1 := MNumberReader.cls
  have c2 := MNumberReader.n2
  cases d with
  | tuple ds =>
    obtain ⟨h2, h4⟩ := h2 ds rfl
    rw [txt] at ht
    simp only [start0, len_c, len_n, map_c, map_n, app_c, app_n, rep_0, rep_s, Nat.reduceAdd, Nat.reduceSub]
    decreasing_trivial_pre_omega
    intro a dx ha
    refine ⟨a, ds, dx, rfl, mset_same, rfl, ?_⟩
    rw [mset_mset]
    have hMa : mset M a (.ins CR dx (rdF ds 0 1)) a = some (.ins CR dx (rdF ds 0 1)) := mset_same
    have drop : ∀ x b o, M b = some o → mset M a x b = some o := fun x b o h => by rw [mset_ne (fun z => by rw [z, ha] at h; cases h)]; exact h
    unfold rdTop at h2 h4
    decreasing_trivial_pre_omega
    refine ⟨a, ds, dx, 0, 1, rfl, ⟨hMa, Nat.zero_le _, ht, by decide, by decide⟩, fun t i2 due2 hd => ?_, fun jj hd due2 => ?_⟩
    · rw [hd] at h2 h4
      dsimp only at h2 h4
      rw [mset_mset]
      have hMb : mset M a (.ins CR dx (rdF ds (i2 : Nat) (due2 : Nat))) a = some (.ins CR dx (rdF ds (i2 : Nat) (due2 : Nat))) := mset_same
      decreasing_trivial_pre_omega
      refine IfB.d (fun c => ?_) (fun c => ?_)
      · rw [if_pos (by omega)] at h4
        decreasing_trivial_pre_omega
        exact ⟨M, drop _, h4 i2 rfl⟩
      · rw [if_neg (by omega)] at h2
        decreasing_trivial_pre_omega
        exact ⟨M, drop _, h2 t rfl⟩
    · rw [hd] at h4
      rw [mset_mset]
      exact ⟨M, drop _, h4 jj rfl⟩
  | _ =>
    simp only [start0, len_c, len_n, map_c, map_n, app_c, app_n, rep_0, rep_s, Nat.reduceAdd, Nat.reduceSub]
    decreasing_trivial_pre_omega
    exact ⟨M, fun _ _ h => h, h3 fun ds e => by cases e⟩
end
end Tl
set_option Elab.async false
set_option linter.all false
set_option maxRecDepth 100000
set_option maxHeartbeats 8000000
namespace Tl
open PySem L2 RZ
local macro_rules
  | `(tactic| decreasing_trivial) => `(tactic| ((with_reducible (conv => whnf)); (repeat ((first | (with_reducible refine gDs_c ?_) | (with_reducible refine gDs_n ?_) | (with_reducible refine gNs_c ?_) | (with_reducible refine gNs_n ?_) | (with_reducible refine gO_i tyAny_lt ?_) | (with_reducible refine gIs_c ?_) | (with_reducible refine gIs_n ?_) | (with_reducible refine gBs_c ?_) | (with_reducible refine gBs_n ?_) | (with_reducible refine gSs_c ?_) | (with_reducible refine gSs_n ?_) | (with_reducible refine gO_i tyIs_int ?_) | (with_reducible refine gO_i tyIs_bool ?_) | (with_reducible refine gO_i tyIs_str ?_) | (with_reducible refine gO_i tyIs_tuple ?_) | (with_reducible refine gO_i tyIs_list ?_) | (with_reducible refine gDs_i ?_) | (with_reducible refine gO_i (Eq.refl _) ?_) | (with_reducible refine gO_i (by assumption) ?_) | (with_reducible refine gO_i at_0 ?_) | (with_reducible refine gO_i at_m0 ?_) | (with_reducible refine gO_i at_1 ?_) | (with_reducible refine gO_i at_m1 ?_) | (with_reducible refine gO_i at_2 ?_) | (with_reducible refine gO_i at_m2 ?_) | (with_reducible refine gO_i at_3 ?_) | (with_reducible refine gO_i at_m3 ?_) | (with_reducible refine gO_i at_4 ?_) | (with_reducible refine gO_i at_m4 ?_) | (with_reducible refine gO_i at_5 ?_) | (with_reducible refine gO_i at_m5 ?_) | (with_reducible refine gO_i at_6 ?_) | (with_reducible refine gO_i at_m6 ?_) | (with_reducible refine gO_i at_7 ?_) | (with_reducible refine gO_i at_m7 ?_) | (with_reducible refine IfB.ngf ?_) | (with_reducible refine IfB.ngt ?_) | (with_reducible refine IfB.not ?_) | (with_reducible refine IfB.nil ?_) | (with_reducible refine IfB.nilT ?_) | (with_reducible refine IfB.f isE_c ?_) | (with_reducible refine IfB.t isE_n ?_) | (with_reducible refine IfB.t ?gha ?_; (case gha => rfl)) | (with_reducible refine IfB.f ?gha ?_; (case gha => rfl)) | (with_reducible refine IfB.t ?gha ?_; (case gha => assumption)) | (with_reducible refine IfB.f ?gha ?_; (case gha => assumption)) | (with_reducible refine IfB.yes (Eq.refl _) ?_) | (with_reducible refine IfB.yes ?gha ?_; (case gha => (first | omega | (simp only [len_c, len_n, List.length_map]; omega)))) | (with_reducible refine IfB.no ?gha ?_; (case gha => (first | omega | (simp only [len_c, len_n, List.length_map]; omega)))) | (with_reducible refine IfB.t ?gha ?_; (case gha => decide +kernel)) | (with_reducible refine IfB.f ?gha ?_; (case gha => decide +kernel))); (with_reducible (conv => whnf))))))
local macro_rules
  | `(tactic| decreasing_trivial_pre_omega) => `(tactic| (decreasing_trivial; (repeat ((first | ((with_reducible refine And.intro ?gha ?_); (case gha => (first | assumption | omega | exact rfl | (exact mset_same) | (exact ⟨_, mset_same⟩) | (exact Exists.intro _ (by first | exact mset_same | assumption | (rw [mset_ne (by assumption)]; first | exact mset_same | assumption))) | (exact sm_of (by omega) (by omega)) | (exact sz1000 (by first | omega | (simp; done) | (simp; omega))) | (exact Or.inl ⟨by decide, by decide⟩) | decide | (simp; done) | (refine ⟨?_, ?_⟩ <;> (first | assumption | omega | exact rfl | (exact mset_same) | (exact ⟨_, mset_same⟩) | (exact Exists.intro _ (by first | exact mset_same | assumption | (rw [mset_ne (by assumption)]; first | exact mset_same | assumption))) | (exact sm_of (by omega) (by omega)) | (exact sz1000 (by first | omega | (simp; done) | (simp; omega))) | (exact Or.inl ⟨by decide, by decide⟩) | decide | (simp; done))) | (refine ⟨?_, ?_, ?_⟩ <;> (first | assumption | omega | exact rfl | (exact mset_same) | (exact ⟨_, mset_same⟩) | (exact Exists.intro _ (by first | exact mset_same | assumption | (rw [mset_ne (by assumption)]; first | exact mset_same | assumption))) | (exact sm_of (by omega) (by omega)) | (exact sz1000 (by first | omega | (simp; done) | (simp; omega))) | (exact Or.inl ⟨by decide, by decide⟩) | decide | (simp; done))) | (refine ⟨?_, ?_, ?_, ?_⟩ <;> (first | assumption | omega | exact rfl | (exact mset_same) | (exact ⟨_, mset_same⟩) | (exact Exists.intro _ (by first | exact mset_same | assumption | (rw [mset_ne (by assumption)]; first | exact mset_same | assumption))) | (exact sm_of (by omega) (by omega)) | (exact sz1000 (by first | omega | (simp; done) | (simp; omega))) | (exact Or.inl ⟨by decide, by decide⟩) | decide | (simp; done)))))) | (with_reducible refine exW (by first | exact mset_same | assumption | (rw [mset_ne (by assumption)]; first | exact mset_same | assumption)) ?_)); decreasing_trivial))))
/-- the part at a path, None where there is none -/
@[reducible] def tfPartAt : TF := fun ws M R _ => ∃ (d : PyData) (q : List Nat) (n : Nat), ws = [.d d, .d (pathD q)] ∧ TrT n d ∧ R (.d (optP (sub d q))) M
section
variable {P : Program} {w : World} {K : PySem.W.Frag} {mg : Str → Option Value} {base : Heap}
abbrev sPartAt : Stmt := top 25
theorem scPartAt : FnScope ["tree", "path", "part", "step"] ["tree", "path"] (defScope sPartAt) := ⟨rfl, rfl, rfl, by decide +kernel, rfl, by decide +kernel, by decide +kernel⟩
theorem ok_partAt {f : Addr} {fd : FuncData} {k : Nat} (F : Fun K "part_at" "part_at" sPartAt f fd) (T : Bl mg) : FnOk P w K mg base CX0 (k + 1) f fd ["tree", "path"] (spD K 2 tfPartAt) := by
  refine okD F scPartAt rfl fun cdv A outer s H E hr => ?_
  refine ⟨_, _, (pss_cons (ps_set (i := 2) scPartAt.nd rfl (.inl rfl) (pv 0))
    (pss_cons (ps_for PassesOwn.never rfl (pi_tup (pv 1)) (pg_name (i := 3) scPartAt.nd rfl (.inl rfl)) (pss_cons (ps_if (pt_cmpR op_ge (pv 3) (pe_callB call_len_seq (by rfl) T.len PySem.boot_len (pa_cons (pe_ix ix_tup (pv 2) pe_int (fun _ _ => rfl)) pa_nil)) (nomark _)) (pss_one (ps_ret pe_non)) pss_nil)
      (pss_one (ps_set (i := 2) scPartAt.nd rfl (.inl rfl) (pe_ix ix_tup (pe_ix ix_tup (pv 2) pe_int (fun _ _ => rfl)) (pv 3) (fun _ _ => rfl))))))
    (pss_one (ps_ret (pv 2))))),
    (ss_cons (ss_set se_nm)
    (ss_cons (ss_for (si_tup se_nm) sg_name (ss_cons (ss_if (st_test (se_op so_ge se_nm (se_cb sc_len (sa_cons (se_op so_ixT se_nm se_int) sa_nil)))) (ss_ret se_non) ss_nil)
      (ss_set (se_op so_ixT (se_op so_ixT se_nm se_int) se_nm))))
    (ss_ret se_nm))), fun ws M R RX hl h => ?_⟩
  obtain ⟨d, q, n, rfl, ht, h2⟩ := h
  unfold pathD
  simp only [start0, len_c, len_n, map_c, map_n, app_c, app_n, rep_0, rep_s, Nat.reduceAdd, Nat.reduceSub]
  decreasing_trivial
  rw [mapW]
  refine for1 (fun i ρ M' => M = M' ∧ ∃ (e : PyData) (m : Nat) (y : Option W), ρ = [some (W.d d), some (W.d (.tuple (q.map fun n : Nat => .int (n : Int)))), some (W.d e), y] ∧ TrT m e ∧ sub d q = sub e (q.drop i))
    ⟨rfl, d, n, none, rfl, ht, rfl⟩ (fun _ _ _ _ _ => trivial) (fun i a ρ M' N ha p hN => ?_) (fun ρ M' p => ?_)
  · obtain ⟨rfl, e, m, y, rfl, he, hs⟩ := p
    cases m with
    | zero => exact he.elim
    | succ m =>
      obtain ⟨s0, ks, rfl, _, hk⟩ := he
      have hi := (List.getElem?_eq_some_iff.mp ha).1
      rw [List.drop_eq_getElem_cons hi, (List.getElem?_eq_some_iff.mp ha).2, sub_node] at hs
      decreasing_trivial
      refine IfB.d (fun c => ?_) (fun c => ?_)
      · decreasing_trivial
        rw [hs, List.getElem?_eq_none (by omega)] at h2
        exact h2
      · obtain ⟨k, hk2⟩ : ∃ k, ks[a]? = some k := ⟨ks[a]'(by omega), List.getElem?_eq_getElem _⟩
        rw [hk2] at hs
        decreasing_trivial
        refine gO_i (atI_nat hk2) ?_
        decreasing_trivial
        exact hN _ _ ⟨rfl, k, m, _, rfl, hk k (List.mem_of_getElem? hk2), hs⟩
  · obtain ⟨rfl, e, m, y, rfl, he, hs⟩ := p
    rw [List.drop_length, sub_nil] at hs
    rw [hs] at h2
    exact h2
end
end Tl
set_option Elab.async false
set_option linter.all false
set_option maxRecDepth 100000
set_option maxHeartbeats 8000000
namespace Tl
open PySem L2 RZ
local macro_rules
  | `(tactic| decreasing_trivial) => `(tactic| ((with_reducible (conv => whnf)); (repeat ((first | (with_reducible refine gDs_c ?_) | (with_reducible refine gDs_n ?_) | (with_reducible refine gNs_c ?_) | (with_reducible refine gNs_n ?_) | (with_reducible refine gO_i tyAny_lt ?_) | (with_reducible refine gIs_c ?_) | (with_reducible refine gIs_n ?_) | (with_reducible refine gBs_c ?_) | (with_reducible refine gBs_n ?_) | (with_reducible refine gSs_c ?_) | (with_reducible refine gSs_n ?_) | (with_reducible refine gO_i tyIs_int ?_) | (with_reducible refine gO_i tyIs_bool ?_) | (with_reducible refine gO_i tyIs_str ?_) | (with_reducible refine gO_i tyIs_tuple ?_) | (with_reducible refine gO_i tyIs_list ?_) | (with_reducible refine gDs_i ?_) | (with_reducible refine gO_i (Eq.refl _) ?_) | (with_reducible refine gO_i (by assumption) ?_) | (with_reducible refine gO_i at_0 ?_) | (with_reducible refine gO_i at_m0 ?_) | (with_reducible refine gO_i at_1 ?_) | (with_reducible refine gO_i at_m1 ?_) | (with_reducible refine gO_i at_2 ?_) | (with_reducible refine gO_i at_m2 ?_) | (with_reducible refine gO_i at_3 ?_) | (with_reducible refine gO_i at_m3 ?_) | (with_reducible refine gO_i at_4 ?_) | (with_reducible refine gO_i at_m4 ?_) | (with_reducible refine gO_i at_5 ?_) | (with_reducible refine gO_i at_m5 ?_) | (with_reducible refine gO_i at_6 ?_) | (with_reducible refine gO_i at_m6 ?_) | (with_reducible refine gO_i at_7 ?_) | (with_reducible refine gO_i at_m7 ?_) | (with_reducible refine IfB.ngf ?_) | (with_reducible refine IfB.ngt ?_) | (with_reducible refine IfB.not ?_) | (with_reducible refine IfB.nil ?_) | (with_reducible refine IfB.nilT ?_) | (with_reducible refine IfB.f isE_c ?_) | (with_reducible refine IfB.t isE_n ?_) | (with_reducible refine IfB.t ?gha ?_; (case gha => rfl)) | (with_reducible refine IfB.f ?gha ?_; (case gha => rfl)) | (with_reducible refine IfB.t ?gha ?_; (case gha => assumption)) | (with_reducible refine IfB.f ?gha ?_; (case gha => assumption)) | (with_reducible refine IfB.yes (Eq.refl _) ?_) | (with_reducible refine IfB.yes ?gha ?_; (case gha => (first | omega | (simp only [len_c, len_n, List.length_map]; omega)))) | (with_reducible refine IfB.no ?gha ?_; (case gha => (first | omega | (simp only [len_c, len_n, List.length_map]; omega)))) | (with_reducible refine IfB.t ?gha ?_; (case gha => decide +kernel)) | (with_reducible refine IfB.f ?gha ?_; (case gha => decide +kernel))); (with_reducible (conv => whnf))))))
local macro_rules
  | `(tactic| decreasing_trivial_pre_omega) => `(tactic| (decreasing_trivial; (repeat ((first | ((with_reducible refine And.intro ?gha ?_); (case gha => (first | assumption | omega | exact rfl | (exact mset_same) | (exact ⟨_, mset_same⟩) | (exact Exists.intro _ (by first | exact mset_same | assumption | (rw [mset_ne (by assumption)]; first | exact mset_same | assumption))) | (exact sm_of (by omega) (by omega)) | (exact sz1000 (by first | omega | (simp; done) | (simp; omega))) | (exact Or.inl ⟨by decide, by decide⟩) | decide | (simp; done) | (refine ⟨?_, ?_⟩ <;> (first | assumption | omega | exact rfl | (exact mset_same) | (exact ⟨_, mset_same⟩) | (exact Exists.intro _ (by first | exact mset_same | assumption | (rw [mset_ne (by assumption)]; first | exact mset_same | assumption))) | (exact sm_of (by omega) (by omega)) | (exact sz1000 (by first | omega | (simp; done) | (simp; omega))) | (exact Or.inl ⟨by decide, by decide⟩) | decide | (simp; done))) | (refine ⟨?_, ?_, ?_⟩ <;> (first | assumption | omega | exact rfl | (exact mset_same) | (exact ⟨_, mset_same⟩) | (exact Exists.intro _ (by first | exact mset_same | assumption | (rw [mset_ne (by assumption)]; first | exact mset_same | assumption))) | (exact sm_of (by omega) (by omega)) | (exact sz1000 (by first | omega | (simp; done) | (simp; omega))) | (exact Or.inl ⟨by decide, by decide⟩) | decide | (simp; done))) | (refine ⟨?_, ?_, ?_, ?_⟩ <;> (first | assumption | omega | exact rfl | (exact mset_same) | (exact ⟨_, mset_same⟩) | (exact Exists.intro _ (by first | exact mset_same | assumption | (rw [mset_ne (by assumption)]; first | exact mset_same | assumption))) | (exact sm_of (by omega) (by omega)) | (exact sz1000 (by first | omega | (simp; done) | (simp; omega))) | (exact Or.inl ⟨by decide, by decide⟩) | decide | (simp; done)))))) | (with_reducible refine exW (by first | exact mset_same | assumption | (rw [mset_ne (by assumption)]; first | exact mset_same | assumption)) ?_)); decreasing_trivial))))
abbrev sI_NoPlace : Stmt := inClsN (top 9) 0
theorem scI_NoPlace : FnScope ["self", "path"] ["self", "path"] (defScope sI_NoPlace) := ⟨rfl, rfl, rfl, by decide +kernel, rfl, by decide +kernel, by decide +kernel⟩
theorem okI_NoPlace {P : Program} {w : World} {K : PySem.W.Frag} {mg : Str → Option Value} {base : Heap} {f C : Addr} {fd : FuncData} {k : Nat} (F : Fun K "__init__" "NoPlace.__init__" sI_NoPlace f fd) (o : OexC K C) (n : PySem.W.findIn K (.ref C) "path" = some none) : FnOk P w K mg base CX0 (k + 1) f fd ["self", "path"] (spInitF K C "path") := by
  refine F.ok scI_NoPlace (fun vs H Q E h => ?_) (fun cdv A outer s H vs Q E hr h => ?_)
  · obtain ⟨_, _, rfl, _⟩ := h
    rfl
  obtain ⟨a, v, rfl, ha, q⟩ := h
  exact ⟨_, pss_one (ps_ost (pv 0) (pv 1)), _, rfl, _, rfl, a, C, rfl, o, n, .inl ⟨ha, fun dx h1 h2 => q dx h1 h2⟩⟩
@[reducible] def tfChkPl (cN cP : Addr) : TF := fun ws M R RX => ∃ (d x : PyData) (n : Nat), ws = [.d d, .d x] ∧ (TrT n d ∧ txt x = true) ∧ (isPath x = false → RX ⟨.ref cN, []⟩ M) ∧ (∀ q, x = pathD q → pathOk q → sub d q = none → RX ⟨.ref cP, [("path", pathD q)]⟩ M) ∧ (∀ q e, x = pathD q → pathOk q → sub d q = some e → R (.d .none) M)
theorem tr_some {n : Nat} {d e : PyData} {q : List Nat} (h : TrT n d) (hs : sub d q = some e) : e ≠ .none := fun z => by
  obtain ⟨s, ks, h1, _⟩ := node_at h hs
  rw [z] at h1
  cases h1
theorem isN_no {d : PyData} (h : d ≠ .none) : isN (W.d d) = some false := by
  cases d with
  | none => exact absurd rfl h
  | _ => rfl
/-- a path that is one -/
theorem path_of {d : PyData} (h : isPath d = true) : ∃ q, d = pathD q ∧ pathOk q := by
  cases d with
  | tuple ds =>
    rw [isPath, Bool.and_eq_true] at h
    have h1 := of_decide_eq_true h.1
    have h2 := List.all_eq_true.mp h.2
    have : ∀ l : List PyData, (∀ x ∈ l, isNum 59 x = true) → ∃ q : List Nat, l = q.map (fun n : Nat => PyData.int (n : Int)) ∧ ∀ i ∈ q, i ≤ 59 := fun l => by
      induction l with
      | nil => exact fun _ => ⟨[], rfl, fun i hi => by cases hi⟩
      | cons x l ih =>
        intro h
        obtain ⟨q, rfl, hq⟩ := ih fun z hz => h z (.tail _ hz)
        have hx := h x (.head _)
        cases x with
        | int i =>
          rw [isNum, Bool.and_eq_true] at hx
          have c1 := of_decide_eq_true hx.1
          have c2 := of_decide_eq_true hx.2
          exact ⟨i.toNat :: q, by rw [List.map_cons, show ((i.toNat : Nat) : Int) = i by omega], fun j hj => by
            rcases List.mem_cons.mp hj with rfl | hj
            · omega
            · exact hq j hj⟩
        | _ => cases hx
    obtain ⟨q, rfl, hq⟩ := this ds h2
    exact ⟨q, rfl, by rw [List.length_map] at h1; exact h1, hq⟩
  | _ => cases h
theorem txA_sum : ∀ ks : List PyData, (ks.map fun k => (((txS k).length : Nat) : Int) + 1).sum = ((txA ks).length : Nat)
  | [] => rfl
  | k :: ks => by
    rw [List.map_cons, List.sum_cons, txA_sum ks, txA, List.length_cons, List.length_append]
    omega
theorem nums_sum : ∀ ks : List PyData, (ks.map fun k => (((nums k).length : Nat) : Int)).sum = ((numsAll ks).length : Nat)
  | [] => rfl
  | k :: ks => by
    rw [List.map_cons, List.sum_cons, nums_sum ks, numsAll, List.length_append]
    omega
theorem bgT_nil (d : PyData) : bgT d [] = 0 := by unfold bgT; rfl
theorem bgN_nil (d : PyData) : bgN d [] = 0 := by unfold bgN; rfl
@[reducible] def tfSpan (b : PyData → List Nat → Nat) (l : PyData → Nat) : TF := fun ws M R _ => ∃ (d e : PyData) (q : List Nat), ws = [.d d, .d (pathD q)] ∧ (TrT 12 d ∧ nn d ≤ 60 ∧ pathOk q ∧ sub d q = some e) ∧ R (.d (.tuple [.int (b d q : Nat), .int ((b d q : Nat) + (l e : Nat))])) M
section
variable {P : Program} {w : World} {K : PySem.W.Frag} {mg : Str → Option Value} {base : Heap}
abbrev sIsPath : Stmt := top 18
theorem scIsPath : FnScope ["thing", "step"] ["thing"] (defScope sIsPath) := ⟨rfl, rfl, rfl, by decide +kernel, rfl, by decide +kernel, by decide +kernel⟩
theorem ok_path {f : Addr} {fd : FuncData} {k j : Nat} (F : Fun K "is_path" "is_path" sIsPath f fd) (Uis_number : Use P w K mg base "is_number" ["thing", "most"] j (spD K 2 (tfB2 isNum))) (hj : j ≤ k) (T : Bl mg) (C : Cs mg) : FnOk P w K mg base CX0 (k + 1) f fd ["thing"] (spD K 1 (tfB isPath)) := by
  refine okD F scIsPath rfl fun cdv A outer s H E hr => ?_
  refine ⟨_, _, (pss_cons (ps_if (PW.pt (pw_or (pt_not (pt_val (pe_callB (r := rIsi K) call_isi (by rfl) T.isi PyProof.Rows.boot_isinstance (pa_cons (pv 0) (pa_cons (b_tuple T) pa_nil))))) (pw_or1 (pt_cmpR op_ge (pe_callB call_len_seq (by rfl) T.len PySem.boot_len (pa_cons (pv 0) pa_nil)) (c_DEPTH C) (nomark _))))) (pss_one (ps_ret pe_bl)) pss_nil)
    (pss_one (ps_ret (pe_callB (cr_all rfl) (by rfl) T.all PyProof.Rows.boot_all (pa_cons (pe_lc (own := [("step", 1)]) (g := gName 1) (tt := tYes) (by rfl) scIsPath.nd (pi_tup (pv 0)) (blkOk_by (N := ["thing", "step"]) (sc := defScope sIsPath) (own := [("step", 1)]) (by decide +kernel)) (fun _ _ _ _ _ => pg_name (i := 1) scIsPath.nd rfl (Or.inl rfl)) (fun _ _ _ _ _ => pts_nil) (fun _ _ _ _ _ => (pe_call Uis_number.ok (hr.mono (by omega)) rfl Uis_number.m Uis_number.kp Uis_number.b .nil pass0 (pa_cons (pv 1) (pa_cons (pe_op op_sub (c_SIZE C) pe_int) pa_nil))))) pa_nil))))),
    (ss_cons (ss_if (st_or (st_not (st_val (se_cb sc_isi (sa_cons se_nm (sa_cons se_o sa_nil))))) (st_test (se_op so_ge (se_cb sc_len (sa_cons se_nm sa_nil)) se_int))) (ss_ret se_bl) ss_nil)
    (ss_ret (se_cb sc_all (sa_cons (se_lcF (si_tup se_nm) sg_name st_yes (se_call (sa_cons se_nm (sa_cons (se_op so_sub se_int se_int) sa_nil)))) sa_nil)))), fun ws M R RX hl h => ?_⟩
  obtain ⟨x, rfl, h1⟩ := g1_of h
  obtain ⟨d, rfl, ht, h2⟩ := gD_of h1
  cases d with
  | tuple ds =>
    rw [isPath] at h2
    have htd : txtAll ds = true := by rw [txt] at ht; exact ht
    simp only [start0, len_c, len_n, map_c, map_n, app_c, app_n, rep_0, rep_s, Nat.reduceAdd, Nat.reduceSub]
    decreasing_trivial_pre_omega
    refine IfB.d (fun c => ?_) (fun c => ?_)
    · decreasing_trivial_pre_omega
      rw [decide_eq_false (p := ds.length < 12) (by omega)] at h2
      exact h2
    · rw [decide_eq_true (p := ds.length < 12) (by omega), Bool.true_and] at h2
      decreasing_trivial_pre_omega
      refine lc1F (k := fun _ => True) (b := bName 1) (fun d => .bool (isNum 59 d)) trivial (fun d hm Rk q => ?_) (sz1000 (by omega)) ?_
      · obtain ⟨i, hi⟩ := List.getElem?_of_mem hm
        have := txtAll_get htd hi
        decreasing_trivial_pre_omega
        exact q
      · decreasing_trivial_pre_omega
        rw [List.map_map]
        show gBs (ds.map fun d => W.d (.bool (isNum 59 d))) _
        rw [gBs_map]
        rw [List.all_map]
        exact h2
  | _ => simp only [start0, len_c, len_n, map_c, map_n, app_c, app_n, rep_0, rep_s, Nat.reduceAdd, Nat.reduceSub]; decreasing_trivial_pre_omega; exact h2
abbrev sChkPath : Stmt := top 23
theorem scChkPath : FnScope ["thing"] ["thing"] (defScope sChkPath) := ⟨rfl, rfl, rfl, by decide +kernel, rfl, by decide +kernel, by decide +kernel⟩
theorem ok_chkPath {f C : Addr} {fd : FuncData} {k j : Nat} (F : Fun K "check_path" "check_path" sChkPath f fd) (XNoPath : Er K mg "NoPath" C) (Uis_path : Use P w K mg base "is_path" ["thing"] j (spD K 1 (tfB isPath))) (hj : j ≤ k) :
    FnOk P w K mg base (L2.CX P w) (k + 1) f fd ["thing"] (spD K 1 (tfChk isPath C)) := by
  refine okDX F scChkPath rfl fun cdv A outer s H E hr => ?_
  refine ⟨_, fun RE => _, (pss_one (ps_if (pt_not (pt_val (PE.nox (pe_call Uis_path.ok (hr.mono (by omega)) rfl Uis_path.m Uis_path.kp Uis_path.b .nil pass0 (pa_cons (pv 0) pa_nil))))) (pss_one (ps_raise rfl (takes_of (E := E) rfl rfl rfl rfl) (pmk_own0 PySem.F.excBase_ValueError XNoPath.x XNoPath.g XNoPath.k (raises_own XNoPath.b XNoPath.t) (by exact rfl)))) pss_nil)), fun RE => (ss_if (st_not (st_val (se_call (sa_cons se_nm sa_nil)))) ss_raise0 ss_nil), fun ws M R RX hl h => ?_⟩
  obtain ⟨x, rfl, h1⟩ := g1_of h
  obtain ⟨d, rfl, ht, h2, h3⟩ := gD_of h1
  simp only [start0, len_c, len_n, map_c, map_n, app_c, app_n, rep_0, rep_s, Nat.reduceAdd, Nat.reduceSub]
  decreasing_trivial_pre_omega
  cases c : isPath d
  · decreasing_trivial_pre_omega
    exact h3 c
  · decreasing_trivial_pre_omega
    exact h2 c
abbrev sChkPl : Stmt := top 24
theorem scChkPl : FnScope ["tree", "thing"] ["tree", "thing"] (defScope sChkPl) := ⟨rfl, rfl, rfl, by decide +kernel, rfl, by decide +kernel, by decide +kernel⟩
theorem ok_chkPl {f cN cP : Addr} {fd : FuncData} {k j : Nat} (F : Fun K "check_place" "check_place" sChkPl f fd) (XNoPlace : ErF K mg "NoPlace" "NoPlace.__init__" "path" sI_NoPlace cP) (Ucheck_path : UseX P w K mg base "check_path" ["thing"] j (spD K 1 (tfChk isPath cN))) (Upart_at : Use P w K mg base "part_at" ["tree", "path"] j (spD K 2 tfPartAt)) (hj : j ≤ k) (hk : 2 ≤ k) :
    FnOk P w K mg base (L2.CX P w) (k + 1) f fd ["tree", "thing"] (spD K 2 (tfChkPl cN cP)) := by
  obtain ⟨fiNoPlace, fdNoPlace, iNoPlace, tNoPlace, FNoPlace⟩ := XNoPlace.i
  have okNoPlace := okI_NoPlace (P := P) (w := w) (mg := mg) (base := base) (k := 0) FNoPlace XNoPlace.o XNoPlace.n
  have bNoPlace := FNoPlace.binds (ps := ["self", "path"]) fun _ _ _ _ _ _ us hl => match us, hl with | [_, _], _ => rfl
  refine okDX F scChkPl rfl fun cdv A outer s H E hr => ?_
  refine ⟨_, fun RE => _, (pss_cons (ps_expr (pe_callS Ucheck_path.ok (hr.mono (by omega)) rfl Ucheck_path.m Ucheck_path.kp Ucheck_path.b (fun σ => passAt (takes_of (E := E) rfl rfl rfl rfl) σ) (pa_cons (pv 1) pa_nil)))
    (pss_one (ps_if (pt_cmpR op_isN (PE.nox (pe_call Upart_at.ok (hr.mono (by omega)) rfl Upart_at.m Upart_at.kp Upart_at.b .nil pass0 (pa_cons (pv 0) (pa_cons (pv 1) pa_nil)))) pe_non (nomark _)) (pss_one (ps_raise rfl (takes_of (E := E) rfl rfl rfl rfl) (pmk_oex XNoPlace.o iNoPlace tNoPlace okNoPlace (hr.mono (by omega)) bNoPlace .nil pass0 (by exact rfl) XNoPlace.g (pa_cons (pv 1) pa_nil)))) pss_nil))), fun RE => (ss_cons (ss_drop (se_callX (sa_cons se_nm sa_nil)))
    (ss_if (st_test (se_op so_isN (se_call (sa_cons se_nm (sa_cons se_nm sa_nil))) se_non)) (ss_raiseF (sa_cons se_nm sa_nil)) ss_nil)), fun ws M R RX hl h => ?_⟩
  obtain ⟨d, x, n, rfl, ⟨ht, hx⟩, h1, h2, h3⟩ := h
  simp only [start0, len_c, len_n, map_c, map_n, app_c, app_n, rep_0, rep_s, Nat.reduceAdd, Nat.reduceSub]
  decreasing_trivial_pre_omega
  refine ⟨fun c => ?_, fun c => h1 c⟩
  obtain ⟨q, rfl, hq⟩ := path_of c
  decreasing_trivial_pre_omega
  refine ⟨d, q, n, rfl, ht, ?_⟩
  cases he : sub d q with
  | none =>
    rw [show optP none = .none from rfl]
    decreasing_trivial_pre_omega
    exact h2 q rfl hq he
  | some e =>
    rw [show ∀ e, optP (some e) = e from fun _ => rfl]
    have hn1 := isN_no (tr_some ht he)
    decreasing_trivial_pre_omega
    exact h3 q e rfl hq he
abbrev sSpan : Stmt := top 36
theorem scSpan : FnScope ["tree", "path", "begin", "part", "step", "tag", "kids", "kid"] ["tree", "path"] (defScope sSpan) := ⟨rfl, rfl, rfl, by decide +kernel, rfl, by decide +kernel, by decide +kernel⟩
theorem ok_span {f cT cN cP : Addr} {fd : FuncData} {k j : Nat} (F : Fun K "span" "span" sSpan f fd) (Ucheck_tree : UseX P w K mg base "check_tree" ["thing"] j (spD K 1 (tfChk isTreeD cT))) (Ucheck_place : UseX P w K mg base "check_place" ["tree", "thing"] j (spD K 2 (tfChkPl cN cP))) (Utext_within : Use P w K mg base "text_within" ["tree"] j (spD K 1 (tfTxW 12))) (hj : j ≤ k) (T : Bl mg) (mS : mg "sum" = none) :
    FnOk P w K mg base (L2.CX P w) (k + 1) f fd ["tree", "path"] (spD K 2 (tfSpan bgT fun e => (txS e).length)) := by
  refine okDX F scSpan rfl fun cdv A outer s H E hr => ?_
  refine ⟨_, fun RE => _, (pss_cons (ps_expr (pe_callS Ucheck_tree.ok (hr.mono (by omega)) rfl Ucheck_tree.m Ucheck_tree.kp Ucheck_tree.b (fun σ => passAt (takes_of (E := E) rfl rfl rfl rfl) σ) (pa_cons (pv 0) pa_nil)))
    (pss_cons (ps_expr (pe_callS Ucheck_place.ok (hr.mono (by omega)) rfl Ucheck_place.m Ucheck_place.kp Ucheck_place.b (fun σ => passAt (takes_of (E := E) rfl rfl rfl rfl) σ) (pa_cons (pv 0) (pa_cons (pv 1) pa_nil))))
    (pss_cons (ps_set (i := 2) scSpan.nd rfl (.inl rfl) pe_int)
    (pss_cons (ps_set (i := 3) scSpan.nd rfl (.inl rfl) (pv 0))
    (pss_cons (ps_for (passes_of rfl) rfl (pi_tup (pv 1)) (pg_name (i := 4) scSpan.nd rfl (.inl rfl)) (pss_cons (ps_asg (pv 3) (pg_tup rfl (pgs_cons (pg_name (i := 5) scSpan.nd rfl (.inl rfl)) (pgs_cons (pg_name (i := 6) scSpan.nd rfl (.inl rfl)) pgs_nil))))
      (pss_cons (ps_aug (i := 2) scSpan.nd rfl (.inl rfl) (pe_op op_add (pe_op op_add (pe_callB call_len_str (by rfl) T.len PySem.boot_len (pa_cons (pv 5) pa_nil)) pe_int) (pe_callB (cr_sum rfl) (by rfl) mS PyProof.Rows.boot_sum (pa_cons (pe_lc (own := [("kid", 7)]) (g := gName 7) (tt := tYes) (by rfl) scSpan.nd (pi_tup (pe_slice sl_tupA (pv 6) po_none (po_some (pv 4)))) (blkOk_by (N := ["tree", "path", "begin", "part", "step", "tag", "kids", "kid"]) (sc := defScope sSpan) (own := [("kid", 7)]) (by decide +kernel)) (fun _ _ _ _ _ => pg_name (i := 7) scSpan.nd rfl (Or.inl rfl)) (fun _ _ _ _ _ => pts_nil) (fun _ _ _ _ _ => (pe_op op_add (pe_callB call_len_str (by rfl) T.len PySem.boot_len (pa_cons (PE.nox (pe_call Utext_within.ok (hr.mono (by omega)) rfl Utext_within.m Utext_within.kp Utext_within.b .nil pass0 (pa_cons (pv 7) pa_nil))) pa_nil)) pe_int))) pa_nil))) ip_add)
      (pss_one (ps_set (i := 3) scSpan.nd rfl (.inl rfl) (pe_ix ix_tup (pv 6) (pv 4) (fun _ _ => rfl)))))))
    (pss_one (ps_ret (pe_tup (pa_cons (pv 2) (pa_cons (pe_op op_add (pv 2) (pe_callB call_len_str (by rfl) T.len PySem.boot_len (pa_cons (PE.nox (pe_call Utext_within.ok (hr.mono (by omega)) rfl Utext_within.m Utext_within.kp Utext_within.b .nil pass0 (pa_cons (pv 3) pa_nil))) pa_nil))) pa_nil)))))))))), fun RE => (ss_cons (ss_drop (se_callX (sa_cons se_nm sa_nil)))
    (ss_cons (ss_drop (se_callX (sa_cons se_nm (sa_cons se_nm sa_nil))))
    (ss_cons (ss_set se_int)
    (ss_cons (ss_set se_nm)
    (ss_cons (ss_for (si_tup se_nm) sg_name (ss_cons (ss_unp sg_tup2 se_nm)
      (ss_cons (ss_augI (se_op so_add (se_op so_add (se_cb sc_lenS (sa_cons se_nm sa_nil)) se_int) (se_cb sc_sum (sa_cons (se_lcF (si_tup (se_sl sl_T se_nm sp_no (sp_some se_nm))) sg_name st_yes (se_op so_add (se_cb sc_lenS (sa_cons (se_call (sa_cons se_nm sa_nil)) sa_nil)) se_int)) sa_nil))))
      (ss_set (se_op so_ixT se_nm se_nm)))))
    (ss_ret (se_tup (sa_cons se_nm (sa_cons (se_op so_add se_nm (se_cb sc_lenS (sa_cons (se_call (sa_cons se_nm sa_nil)) sa_nil))) sa_nil))))))))), fun ws M R RX hl h => ?_⟩
  obtain ⟨d, e, q, rfl, ⟨ht, hn, hq, hs⟩, h2⟩ := h
  have t1 := (tree_eq ht hn).2.2.1
  have t2 : txt (pathD q) = true := path_txt q
  have t3 : isTreeD d = true := tree_iff.mpr ⟨ht, hn⟩
  simp only [start0, len_c, len_n, map_c, map_n, app_c, app_n, rep_0, rep_s, Nat.reduceAdd, Nat.reduceSub]
  decreasing_trivial_pre_omega
  refine ⟨fun _ => ?_, fun z => by rw [t3] at z; cases z⟩
  decreasing_trivial_pre_omega
  refine ⟨d, pathD q, 12, rfl, ⟨ht, t2⟩, (fun z => by rw [isPath_ok hq] at z; cases z), (fun q2 e1 _ z => by rw [pathD_inj e1, z] at hs; cases hs), fun _ _ _ _ _ => ?_⟩
  decreasing_trivial_pre_omega
  unfold pathD
  decreasing_trivial_pre_omega
  rw [mapW]
  refine for1 (fun i ρ M' => M = M' ∧ ∃ (p : PyData) (m b : Nat) (y4 y5 y6 y7 : Option W), ρ = [some (W.d d), some (W.d (.tuple (q.map fun n : Nat => .int (n : Int)))), some (.d (.int (b : Nat))), some (W.d p), y4, y5, y6, y7] ∧ (TrT m p ∧ m ≤ 12 ∧ nn p ≤ 60) ∧ sub p (q.drop i) = some e ∧ b + bgT p (q.drop i) = bgT d q)
    ⟨rfl, d, 12, 0, none, none, none, none, rfl, ⟨ht, by omega, hn⟩, hs, by rw [List.drop_zero, Nat.zero_add]⟩ (fun _ _ _ _ _ => trivial) (fun i a ρ M' N ha pv hN => ?_) (fun ρ M' pv => ?_)
  · obtain ⟨rfl, p, m, b, y4, y5, y6, y7, rfl, ⟨hp, hm, hpn⟩, hs2, hb⟩ := pv
    cases m with
    | zero => exact hp.elim
    | succ m =>
      obtain ⟨s0, ks, rfl, hs0, hk⟩ := hp
      have hi := (List.getElem?_eq_some_iff.mp ha).1
      rw [List.drop_eq_getElem_cons hi, (List.getElem?_eq_some_iff.mp ha).2] at hs2 hb
      rw [sub_node] at hs2
      cases hkk : ks[a]? with
      | none => rw [hkk] at hs2; cases hs2
      | some kk =>
        rw [hkk] at hs2
        rw [bgT, hkk] at hb
        rw [nn] at hpn
        have hl := len_nnA ks
        obtain ⟨l1, l2, _⟩ := tag_let hs0
        have hkm : ∀ k ∈ ks, TrT 12 k ∧ nn k ≤ 60 := fun k h => ⟨(hk k h).mono (by omega), by have := nn_memA h; omega⟩
        have hsl : 5000 ≤ sizeLine := by decide
        have l3 : s0.length ≤ sizeLine := by omega
        decreasing_trivial_pre_omega
        rw [cut_to]
        decreasing_trivial_pre_omega
        refine lc1F (k := fun _ => True) (b := bName 7) (fun k => .int (((txS k).length : Nat) + 1)) trivial (fun k hm2 Rk z => ?_) (sz1000 (by rw [List.length_take]; omega)) ?_
        · obtain ⟨k1, k2⟩ := hkm k (List.mem_of_mem_take hm2)
          have l4 := txS_len k1
          have l5 : (Str.mk (txS k).toArray).length ≤ sizeLine := by rw [len_mk]; omega
          decreasing_trivial_pre_omega
          rw [len_mk]
          exact z
        · decreasing_trivial_pre_omega
          rw [List.map_map]
          show gIs ((ks.take a).map fun k => W.d (.int (((txS k).length : Nat) + 1))) _
          rw [gIs_map]
          decreasing_trivial_pre_omega
          rw [txA_sum]
          have h9 := atI_nat hkk
          decreasing_trivial_pre_omega
          refine hN _ _ ⟨rfl, kk, m, b + (s0.length + 1 + (txA (ks.take a)).length), _, _, _, _, by rw [show ((b + (s0.length + 1 + (txA (ks.take a)).length) : Nat) : Int) = (b : Int) + ((s0.length : Int) + 1 + ((txA (ks.take a)).length : Nat)) by omega], ⟨hk kk (List.mem_of_getElem? hkk), by omega, (hkm kk (List.mem_of_getElem? hkk)).2⟩, hs2, by rw [← hb]; dsimp only; omega⟩
  · obtain ⟨rfl, p, m, b, y4, y5, y6, y7, rfl, ⟨hp, hm, hpn⟩, hs2, hb⟩ := pv
    have p1 : TrT 12 p := hp.mono hm
    have l4 := txS_len p1
    have hsl : 5000 ≤ sizeLine := by decide
    have l5 : (Str.mk (txS p).toArray).length ≤ sizeLine := by rw [len_mk]; omega
    rw [List.drop_length] at hs2 hb
    rw [sub_nil] at hs2
    cases hs2
    have hb2 : b = bgT d q := by rw [← hb, bgT_nil]; rfl
    subst hb2
    decreasing_trivial_pre_omega
    rw [len_mk]
    exact h2
abbrev sSpanN : Stmt := top 37
theorem scSpanN : FnScope ["tree", "path", "begin", "part", "step", "tag", "kids", "kid"] ["tree", "path"] (defScope sSpanN) := ⟨rfl, rfl, rfl, by decide +kernel, rfl, by decide +kernel, by decide +kernel⟩
theorem ok_spanN {f cT cN cP : Addr} {fd : FuncData} {k j : Nat} (F : Fun K "span_of_numbers" "span_of_numbers" sSpanN f fd) (Ucheck_tree : UseX P w K mg base "check_tree" ["thing"] j (spD K 1 (tfChk isTreeD cT))) (Ucheck_place : UseX P w K mg base "check_place" ["tree", "thing"] j (spD K 2 (tfChkPl cN cP))) (Unumbers_within : Use P w K mg base "numbers_within" ["tree"] j (spD K 1 (tfNumsD 12))) (hj : j ≤ k) (T : Bl mg) (mS : mg "sum" = none) :
    FnOk P w K mg base (L2.CX P w) (k + 1) f fd ["tree", "path"] (spD K 2 (tfSpan bgN fun e => (nums e).length)) := by
  refine okDX F scSpanN rfl fun cdv A outer s H E hr => ?_
  refine ⟨_, fun RE => _, (pss_cons (ps_expr (pe_callS Ucheck_tree.ok (hr.mono (by omega)) rfl Ucheck_tree.m Ucheck_tree.kp Ucheck_tree.b (fun σ => passAt (takes_of (E := E) rfl rfl rfl rfl) σ) (pa_cons (pv 0) pa_nil)))
    (pss_cons (ps_expr (pe_callS Ucheck_place.ok (hr.mono (by omega)) rfl Ucheck_place.m Ucheck_place.kp Ucheck_place.b (fun σ => passAt (takes_of (E := E) rfl rfl rfl rfl) σ) (pa_cons (pv 0) (pa_cons (pv 1) pa_nil))))
    (pss_cons (ps_set (i := 2) scSpanN.nd rfl (.inl rfl) pe_int)
    (pss_cons (ps_set (i := 3) scSpanN.nd rfl (.inl rfl) (pv 0))
    (pss_cons (ps_for (passes_of rfl) rfl (pi_tup (pv 1)) (pg_name (i := 4) scSpanN.nd rfl (.inl rfl)) (pss_cons (ps_asg (pv 3) (pg_tup rfl (pgs_cons (pg_name (i := 5) scSpanN.nd rfl (.inl rfl)) (pgs_cons (pg_name (i := 6) scSpanN.nd rfl (.inl rfl)) pgs_nil))))
      (pss_cons (ps_aug (i := 2) scSpanN.nd rfl (.inl rfl) (pe_op op_add (pe_op op_add pe_int (pe_callB call_len_str (by rfl) T.len PySem.boot_len (pa_cons (pv 5) pa_nil))) (pe_callB (cr_sum rfl) (by rfl) mS PyProof.Rows.boot_sum (pa_cons (pe_lc (own := [("kid", 7)]) (g := gName 7) (tt := tYes) (by rfl) scSpanN.nd (pi_tup (pe_slice sl_tupA (pv 6) po_none (po_some (pv 4)))) (blkOk_by (N := ["tree", "path", "begin", "part", "step", "tag", "kids", "kid"]) (sc := defScope sSpanN) (own := [("kid", 7)]) (by decide +kernel)) (fun _ _ _ _ _ => pg_name (i := 7) scSpanN.nd rfl (Or.inl rfl)) (fun _ _ _ _ _ => pts_nil) (fun _ _ _ _ _ => (pe_callB call_len_seq (by rfl) T.len PySem.boot_len (pa_cons (PE.nox (pe_call Unumbers_within.ok (hr.mono (by omega)) rfl Unumbers_within.m Unumbers_within.kp Unumbers_within.b .nil pass0 (pa_cons (pv 7) pa_nil))) pa_nil)))) pa_nil))) ip_add)
      (pss_one (ps_set (i := 3) scSpanN.nd rfl (.inl rfl) (pe_ix ix_tup (pv 6) (pv 4) (fun _ _ => rfl)))))))
    (pss_one (ps_ret (pe_tup (pa_cons (pv 2) (pa_cons (pe_op op_add (pv 2) (pe_callB call_len_seq (by rfl) T.len PySem.boot_len (pa_cons (PE.nox (pe_call Unumbers_within.ok (hr.mono (by omega)) rfl Unumbers_within.m Unumbers_within.kp Unumbers_within.b .nil pass0 (pa_cons (pv 3) pa_nil))) pa_nil))) pa_nil)))))))))), fun RE => (ss_cons (ss_drop (se_callX (sa_cons se_nm sa_nil)))
    (ss_cons (ss_drop (se_callX (sa_cons se_nm (sa_cons se_nm sa_nil))))
    (ss_cons (ss_set se_int)
    (ss_cons (ss_set se_nm)
    (ss_cons (ss_for (si_tup se_nm) sg_name (ss_cons (ss_unp sg_tup2 se_nm)
      (ss_cons (ss_augI (se_op so_add (se_op so_add se_int (se_cb sc_lenS (sa_cons se_nm sa_nil))) (se_cb sc_sum (sa_cons (se_lcF (si_tup (se_sl sl_T se_nm sp_no (sp_some se_nm))) sg_name st_yes (se_cb sc_len (sa_cons (se_call (sa_cons se_nm sa_nil)) sa_nil))) sa_nil))))
      (ss_set (se_op so_ixT se_nm se_nm)))))
    (ss_ret (se_tup (sa_cons se_nm (sa_cons (se_op so_add se_nm (se_cb sc_len (sa_cons (se_call (sa_cons se_nm sa_nil)) sa_nil))) sa_nil))))))))), fun ws M R RX hl h => ?_⟩
  obtain ⟨d, e, q, rfl, ⟨ht, hn, hq, hs⟩, h2⟩ := h
  have t1 := (tree_eq ht hn).2.2.1
  have t2 : txt (pathD q) = true := path_txt q
  have t3 : isTreeD d = true := tree_iff.mpr ⟨ht, hn⟩
  simp only [start0, len_c, len_n, map_c, map_n, app_c, app_n, rep_0, rep_s, Nat.reduceAdd, Nat.reduceSub]
  decreasing_trivial_pre_omega
  refine ⟨fun _ => ?_, fun z => by rw [t3] at z; cases z⟩
  decreasing_trivial_pre_omega
  refine ⟨d, pathD q, 12, rfl, ⟨ht, t2⟩, (fun z => by rw [isPath_ok hq] at z; cases z), (fun q2 e1 _ z => by rw [pathD_inj e1, z] at hs; cases hs), fun _ _ _ _ _ => ?_⟩
  decreasing_trivial_pre_omega
  unfold pathD
  decreasing_trivial_pre_omega
  rw [mapW]
  refine for1 (fun i ρ M' => M = M' ∧ ∃ (p : PyData) (m b : Nat) (y4 y5 y6 y7 : Option W), ρ = [some (W.d d), some (W.d (.tuple (q.map fun n : Nat => .int (n : Int)))), some (.d (.int (b : Nat))), some (W.d p), y4, y5, y6, y7] ∧ (TrT m p ∧ m ≤ 12 ∧ nn p ≤ 60) ∧ sub p (q.drop i) = some e ∧ b + bgN p (q.drop i) = bgN d q)
    ⟨rfl, d, 12, 0, none, none, none, none, rfl, ⟨ht, by omega, hn⟩, hs, by rw [List.drop_zero, Nat.zero_add]⟩ (fun _ _ _ _ _ => trivial) (fun i a ρ M' N ha pv hN => ?_) (fun ρ M' pv => ?_)
  · obtain ⟨rfl, p, m, b, y4, y5, y6, y7, rfl, ⟨hp, hm, hpn⟩, hs2, hb⟩ := pv
    cases m with
    | zero => exact hp.elim
    | succ m =>
      obtain ⟨s0, ks, rfl, hs0, hk⟩ := hp
      have hi := (List.getElem?_eq_some_iff.mp ha).1
      rw [List.drop_eq_getElem_cons hi, (List.getElem?_eq_some_iff.mp ha).2] at hs2 hb
      rw [sub_node] at hs2
      cases hkk : ks[a]? with
      | none => rw [hkk] at hs2; cases hs2
      | some kk =>
        rw [hkk] at hs2
        rw [bgN, hkk] at hb
        rw [nn] at hpn
        have hl := len_nnA ks
        obtain ⟨l1, l2, _⟩ := tag_let hs0
        have hkm : ∀ k ∈ ks, TrT 12 k ∧ nn k ≤ 60 := fun k h => ⟨(hk k h).mono (by omega), by have := nn_memA h; omega⟩
        have hsl : 5000 ≤ sizeLine := by decide
        have l3 : s0.length ≤ sizeLine := by omega
        decreasing_trivial_pre_omega
        rw [cut_to]
        decreasing_trivial_pre_omega
        refine lc1F (k := fun _ => True) (b := bName 7) (fun k => .int ((nums k).length : Nat)) trivial (fun k hm2 Rk z => ?_) (sz1000 (by rw [List.length_take]; omega)) ?_
        · obtain ⟨k1, k2⟩ := hkm k (List.mem_of_mem_take hm2)
          have l4 := nums_len k1
          have l5 : (nums k).length ≤ sizeLine := by omega
          decreasing_trivial_pre_omega
          rw [List.length_map]
          exact z
        · decreasing_trivial_pre_omega
          rw [List.map_map]
          show gIs ((ks.take a).map fun k => W.d (.int ((nums k).length : Nat))) _
          rw [gIs_map]
          decreasing_trivial_pre_omega
          rw [nums_sum]
          have h9 := atI_nat hkk
          decreasing_trivial_pre_omega
          refine hN _ _ ⟨rfl, kk, m, b + (2 + s0.length + (numsAll (ks.take a)).length), _, _, _, _, by rw [show ((b + (2 + s0.length + (numsAll (ks.take a)).length) : Nat) : Int) = (b : Int) + (2 + (s0.length : Int) + ((numsAll (ks.take a)).length : Nat)) by omega], ⟨hk kk (List.mem_of_getElem? hkk), by omega, (hkm kk (List.mem_of_getElem? hkk)).2⟩, hs2, by rw [← hb]; dsimp only; omega⟩
  · obtain ⟨rfl, p, m, b, y4, y5, y6, y7, rfl, ⟨hp, hm, hpn⟩, hs2, hb⟩ := pv
    have p1 : TrT 12 p := hp.mono hm
    have l4 := nums_len p1
    have hsl : 5000 ≤ sizeLine := by decide
    have l5 : (nums p).length ≤ sizeLine := by omega
    rw [List.drop_length] at hs2 hb
    rw [sub_nil] at hs2
    cases hs2
    have hb2 : b = bgN d q := by rw [← hb, bgN_nil]; rfl
    subst hb2
    decreasing_trivial_pre_omega
    rw [List.length_map]
    exact h2
end
end Tl
set_option Elab.async false
set_option linter.all false
set_option maxRecDepth 100000
set_option maxHeartbeats 8000000
namespace Tl
open PySem L2 RZ
local macro_rules
  | `(tactic| decreasing_trivial) => `(tactic| ((with_reducible (conv => whnf)); (repeat ((first | (with_reducible refine gDs_c ?_) | (with_reducible refine gDs_n ?_) | (with_reducible refine gNs_c ?_) | (with_reducible refine gNs_n ?_) | (with_reducible refine gO_i tyAny_lt ?_) | (with_reducible refine gIs_c ?_) | (with_reducible refine gIs_n ?_) | (with_reducible refine gBs_c ?_) | (with_reducible refine gBs_n ?_) | (with_reducible refine gSs_c ?_) | (with_reducible refine gSs_n ?_) | (with_reducible refine gO_i tyIs_int ?_) | (with_reducible refine gO_i tyIs_bool ?_) | (with_reducible refine gO_i tyIs_str ?_) | (with_reducible refine gO_i tyIs_tuple ?_) | (with_reducible refine gO_i tyIs_list ?_) | (with_reducible refine gDs_i ?_) | (with_reducible refine gO_i (Eq.refl _) ?_) | (with_reducible refine gO_i (by assumption) ?_) | (with_reducible refine gO_i at_0 ?_) | (with_reducible refine gO_i at_m0 ?_) | (with_reducible refine gO_i at_1 ?_) | (with_reducible refine gO_i at_m1 ?_) | (with_reducible refine gO_i at_2 ?_) | (with_reducible refine gO_i at_m2 ?_) | (with_reducible refine gO_i at_3 ?_) | (with_reducible refine gO_i at_m3 ?_) | (with_reducible refine gO_i at_4 ?_) | (with_reducible refine gO_i at_m4 ?_) | (with_reducible refine gO_i at_5 ?_) | (with_reducible refine gO_i at_m5 ?_) | (with_reducible refine gO_i at_6 ?_) | (with_reducible refine gO_i at_m6 ?_) | (with_reducible refine gO_i at_7 ?_) | (with_reducible refine gO_i at_m7 ?_) | (with_reducible refine IfB.ngf ?_) | (with_reducible refine IfB.ngt ?_) | (with_reducible refine IfB.not ?_) | (with_reducible refine IfB.nil ?_) | (with_reducible refine IfB.nilT ?_) | (with_reducible refine IfB.f isE_c ?_) | (with_reducible refine IfB.t isE_n ?_) | (with_reducible refine IfB.t ?gha ?_; (case gha => rfl)) | (with_reducible refine IfB.f ?gha ?_; (case gha => rfl)) | (with_reducible refine IfB.t ?gha ?_; (case gha => assumption)) | (with_reducible refine IfB.f ?gha ?_; (case gha => assumption)) | (with_reducible refine IfB.yes (Eq.refl _) ?_) | (with_reducible refine IfB.yes ?gha ?_; (case gha => (first | omega | (simp only [len_c, len_n, List.length_map]; omega)))) | (with_reducible refine IfB.no ?gha ?_; (case gha => (first | omega | (simp only [len_c, len_n, List.length_map]; omega)))) | (with_reducible refine IfB.t ?gha ?_; (case gha => decide +kernel)) | (with_reducible refine IfB.f ?gha ?_; (case gha => decide +kernel))); (with_reducible (conv => whnf))))))
local macro_rules
  | `(tactic| decreasing_trivial_pre_omega) => `(tactic| (decreasing_trivial; (repeat ((first | ((with_reducible refine And.intro ?gha ?_); (case gha => (first | assumption | omega | exact rfl | (exact mset_same) | (exact ⟨_, mset_same⟩) | (exact Exists.intro _ (by first | exact mset_same | assumption | (rw [mset_ne (by assumption)]; first | exact mset_same | assumption))) | (exact sm_of (by omega) (by omega)) | (exact sz1000 (by first | omega | (simp; done) | (simp; omega))) | (exact Or.inl ⟨by decide, by decide⟩) | decide | (simp; done) | (refine ⟨?_, ?_⟩ <;> (first | assumption | omega | exact rfl | (exact mset_same) | (exact ⟨_, mset_same⟩) | (exact Exists.intro _ (by first | exact mset_same | assumption | (rw [mset_ne (by assumption)]; first | exact mset_same | assumption))) | (exact sm_of (by omega) (by omega)) | (exact sz1000 (by first | omega | (simp; done) | (simp; omega))) | (exact Or.inl ⟨by decide, by decide⟩) | decide | (simp; done))) | (refine ⟨?_, ?_, ?_⟩ <;> (first | assumption | omega | exact rfl | (exact mset_same) | (exact ⟨_, mset_same⟩) | (exact Exists.intro _ (by first | exact mset_same | assumption | (rw [mset_ne (by assumption)]; first | exact mset_same | assumption))) | (exact sm_of (by omega) (by omega)) | (exact sz1000 (by first | omega | (simp; done) | (simp; omega))) | (exact Or.inl ⟨by decide, by decide⟩) | decide | (simp; done))) | (refine ⟨?_, ?_, ?_, ?_⟩ <;> (first | assumption | omega | exact rfl | (exact mset_same) | (exact ⟨_, mset_same⟩) | (exact Exists.intro _ (by first | exact mset_same | assumption | (rw [mset_ne (by assumption)]; first | exact mset_same | assumption))) | (exact sm_of (by omega) (by omega)) | (exact sz1000 (by first | omega | (simp; done) | (simp; omega))) | (exact Or.inl ⟨by decide, by decide⟩) | decide | (simp; done)))))) | (with_reducible refine exW (by first | exact mset_same | assumption | (rw [mset_ne (by assumption)]; first | exact mset_same | assumption)) ?_)); decreasing_trivial))))
theorem kids_eq {s : Str} {ks : List PyData} (h1 : TrT 12 (.tuple [.str s, .tuple ks])) (h2 : nn (.tuple [.str s, .tuple ks]) ≤ 60) : eqOk (.tuple ks) = true := by
  obtain ⟨g, _, dp⟩ := tree_gk h1 h2
  rw [gd, gdAll, gdAll] at g
  simp only [Bool.and_eq_true] at g
  rw [PyData.depth, PyData.depthAll, PyData.depthAll] at dp
  exact gd_eqOk g.2.1 (by omega)
theorem eqOk_0 : eqOk (PyData.tuple []) = true := by decide +kernel
@[reducible] def tfLTx (n : Nat) : TF := fun ws M R _ => g1 ws fun x => gD x fun d => (TrT n d ∧ nn d ≤ 60 ∧ n ≤ 12) ∧ R (.d (.str (Str.mk (txS d).toArray))) M
section
variable {P : Program} {w : World} {K : PySem.W.Frag} {mg : Str → Option Value} {base : Heap}
abbrev sLTx : Stmt := top 43
theorem scLTx : FnScope ["_law_tree_here", "_law_kid"] ["_law_tree_here"] (defScope sLTx) := ⟨rfl, rfl, rfl, by decide +kernel, rfl, by decide +kernel, by decide +kernel⟩
theorem ok_lTx1 {f : Addr} {fd : FuncData} {n : Nat} (F : Fun K "_law_text" "_law_text" sLTx f fd) (U_law_text : Use P w K mg base "_law_text" ["_law_tree_here"] n (spD K 1 (tfLTx n))) (T : Bl mg) : FnOk P w K mg base CX0 (n + 1) f fd ["_law_tree_here"] (spD K 1 (tfLTx (n + 1))) := by
  refine okD F scLTx rfl fun cdv A outer s H E hr => ?_
  refine ⟨_, _, (pss_cons (ps_if (pt_cmpR (op_eqD hr.units) (pe_ix ix_tup (pv 0) pe_int (fun _ _ => rfl)) (pe_tup pa_nil) (nomark _)) (pss_one (ps_ret (pe_ix ix_tup (pv 0) pe_int (fun _ _ => rfl)))) pss_nil)
    (pss_one (ps_ret (pe_op op_add_str (pe_op op_add_str (pe_op op_add_str (pe_ix ix_tup (pv 0) pe_int (fun _ _ => rfl)) pe_str) (pe_join pe_str (pe_lc (own := [("_law_kid", 1)]) (g := gName 1) (tt := tYes) (by rfl) scLTx.nd (pi_tup (pe_ix ix_tup (pv 0) pe_int (fun _ _ => rfl))) (blkOk_by (N := ["_law_tree_here", "_law_kid"]) (sc := defScope sLTx) (own := [("_law_kid", 1)]) (by decide +kernel)) (fun _ _ _ _ _ => pg_name (i := 1) scLTx.nd rfl (Or.inl rfl)) (fun _ _ _ _ _ => pts_nil) (fun _ _ _ _ _ => (pe_call U_law_text.ok (hr.mono (by omega)) rfl U_law_text.m U_law_text.kp U_law_text.b .nil pass0 (pa_cons (pv 1) pa_nil)))))) pe_str)))),
    (ss_cons (ss_if (st_test (se_op so_eqD (se_op so_ixT se_nm se_int) (se_tup sa_nil))) (ss_ret (se_op so_ixT se_nm se_int)) ss_nil)
    (ss_ret (se_op so_addS (se_op so_addS (se_op so_addS (se_op so_ixT se_nm se_int) se_str) (se_join se_str (se_lcF (si_tup (se_op so_ixT se_nm se_int)) sg_name st_yes (se_call (sa_cons se_nm sa_nil))))) se_str))), fun ws M R RX hl h => ?_⟩
  obtain ⟨x, rfl, h1⟩ := g1_of h
  obtain ⟨d, rfl, ⟨ht, hn, hn12⟩, h2⟩ := gD_of h1
  obtain ⟨s, ks, rfl, htg, hk⟩ := ht
  obtain ⟨l1, l2, _⟩ := tag_let htg
  have ke := kids_eq (show TrT 12 (.tuple [.str s, .tuple ks]) from TrT.mono hn12 ⟨s, ks, rfl, htg, hk⟩) hn
  have k0 := eqOk_0
  simp only [start0, len_c, len_n, map_c, map_n, app_c, app_n, rep_0, rep_s, Nat.reduceAdd, Nat.reduceSub]
  decreasing_trivial_pre_omega
  cases ks with
  | nil =>
    refine IfB.t rfl ?_
    decreasing_trivial_pre_omega
    exact h2
  | cons k ks =>
    refine IfB.f rfl ?_
    have hx := txS_len (show TrT (n + 1) (.tuple [.str s, .tuple (k :: ks)]) from ⟨s, k :: ks, rfl, htg, hk⟩)
    have hk2 := len_nnA (k :: ks)
    have es : s.cps.toList.length = s.length := by rw [Array.length_toList]; rfl
    rw [nn] at hn
    rw [nn] at hx
    rw [txS, List.length_append, List.length_cons, List.length_append, List.length_append, List.length_singleton, es] at hx
    have hsl : 5000 ≤ sizeLine := by decide
    have q1 : s.length + (Str.ofString "(").length ≤ sizeLine := by rw [s40]; show s.length + 1 ≤ _; omega
    decreasing_trivial_pre_omega
    refine lc1F (k := fun _ => True) (b := bName 3) (fun d => .str (Str.mk (txS d).toArray)) trivial (fun d hm Rk q => ?_) (sz1000 (by simp at hk2 ⊢; omega)) ?_
    · have t1 := hk d hm
      have t2 := nn_memA hm
      decreasing_trivial_pre_omega
      exact q
    · decreasing_trivial_pre_omega
      have hsum := sum_tx (k :: ks)
      have e9 : (txA (k :: ks)).length = 1 + ((txS k).length + (txA ks).length) := by rw [txA, List.length_cons, List.length_append]; omega
      rw [e9] at hsum
      have e1 : (Str.mk (txS k ++ txA ks).toArray).length = (txS k).length + (txA ks).length := by show (txS k ++ txA ks).toArray.size = _; simp
      refine .mk ((k :: ks).map fun d => Str.mk (txS d).toArray) (by rw [List.map_map, List.map_map]; rfl) ⟨?_, ?_⟩
      · rw [List.length_map, s44]
        show _ + (k :: ks).length * 1 ≤ _
        omega
      · rw [s44, s40, s41, join_tx]
        have e2 : (s ++ (⟨#[40]⟩ : Str)) = Str.mk (s.cps.toList ++ [40]).toArray := mk_app s.cps.toList [40]
        rw [e2]
        have e3 : (Str.mk (s.cps.toList ++ [40]).toArray).length = s.length + 1 := by rw [len_mk, List.length_append, es]; rfl
        have q2 : (Str.mk (s.cps.toList ++ [40]).toArray).length + (Str.mk (txS k ++ txA ks).toArray).length ≤ sizeLine := by rw [e1, e3]; omega
        decreasing_trivial_pre_omega
        rw [mk_app]
        have e4 : (Str.mk ((s.cps.toList ++ [40]) ++ (txS k ++ txA ks)).toArray).length = s.length + 1 + ((txS k).length + (txA ks).length) := by rw [len_mk, List.length_append, List.length_append, List.length_append, es]; rfl
        refine ⟨by rw [e4]; show _ + 1 ≤ _; omega, ?_⟩
        have e5 := mk_app ((s.cps.toList ++ [40]) ++ (txS k ++ txA ks)) [41]
        have h4 := h2
        rw [txS] at h4
        rw [show s.cps.toList ++ 40 :: (txS k ++ (txA ks ++ [41])) = ((s.cps.toList ++ [40]) ++ (txS k ++ txA ks)) ++ [41] by simp, ← e5] at h4
        exact h4
theorem ok_lTx {f : Addr} {fd : FuncData} (F : Fun K "_law_text" "_law_text" sLTx f fd) (mF : mg "_law_text" = some (.ref f)) (T : Bl mg) : ∀ n, FnOk P w K mg base CX0 n f fd ["_law_tree_here"] (spD K 1 (tfLTx n))
  | 0 => no0 fun ws M R RX h => by
    obtain ⟨x, rfl, h1⟩ := g1_of h
    obtain ⟨d, rfl, ⟨h, _⟩, _⟩ := gD_of h1
    exact h
  | n + 1 => ok_lTx1 F ⟨f, fd, ok_lTx F mF T n, mF, F.kp, F.binds (ps := ["_law_tree_here"]) fun _ _ _ _ _ _ us hl => match us, hl with | [_], _ => rfl⟩ T
end
end Tl
set_option Elab.async false
set_option linter.all false
set_option maxRecDepth 100000
set_option maxHeartbeats 4000000
/-! sorted: of data that are alike (tuples may be empty), of any length. -/
set_option Elab.async false
set_option linter.all false
set_option maxRecDepth 100000
set_option maxHeartbeats 4000000
/-! sorted(xs) of data: the rule and its reading; the law's source made by a def that hands back [script, 0, 0, 0]. -/
namespace Tl
open PySem L2 PyProof.Rows
open PySem.W (alike alikeAll AllAlike dataLe dataLt SortsAt EachIs keyToks)
section
variable {K : PySem.W.Frag} {Wx : WX} {RE : REx}
theorem DxL.zip {F : Hp} : ∀ {vs : List V} {ds : List PyData}, DxL K F vs ds → ∃ zs : List (V × PyData), zs.map (·.1) = vs ∧ zs.map (·.2) = ds ∧ ∀ z ∈ zs, Dx K F z.1 z.2
  | _, _, .nil => ⟨[], rfl, rfl, fun _ h => by cases h⟩
  | _, _, .cons (v := v) (d := d) a b => by
    obtain ⟨zs, h1, h2, h3⟩ := DxL.zip b
    refine ⟨(v, d) :: zs, by rw [List.map_cons, h1], by rw [List.map_cons, h2], fun z hz => ?_⟩
    rcases List.mem_cons.mp hz with e | e
    · rw [e]; exact a
    · exact h3 z e
end
end Tl
set_option Elab.async false
set_option linter.all false
set_option maxRecDepth 100000
set_option maxHeartbeats 4000000
/-! a text against a dict; x in a tuple of texts, x any data. -/
namespace PySem.SeqAt
open PySem PyProof.Rows
open _root_.PySem.AutoSeq1 (wpAny_loadPart')
open MeetsSeq
end PySem.SeqAt
set_option Elab.async false
set_option linter.all false
set_option maxRecDepth 100000
set_option maxHeartbeats 4000000
/-! Places in their order; the ways from a place. -/
namespace Tl
open PySem L2
open PySem.W (alike alikeAll AllAlike dataLe dataLt keyToks keyToksAll rowLt dataLt_tuple dataLt_cons dataLt_int toks_all_cons)
open PyProof.Rows
def ltN : List Nat → List Nat → Bool
  | [], [] => false
  | [], _ :: _ => true
  | _ :: _, [] => false
  | x :: a, y :: b => if x = y then ltN a b else decide (x < y)
theorem ltN_irr : ∀ a, ltN a a = false
  | [] => rfl
  | x :: a => by rw [ltN, if_pos rfl, ltN_irr a]
/-- rising, each once -/
abbrev Up (l : List (List Nat)) : Prop := l.Pairwise fun a b => ltN a b = true
/-! the order of paths as data -/
theorem path_depth (q : List Nat) : (pathD q).depth ≤ 2 := by
  have h : ∀ q : List Nat, PyData.depthAll (q.map fun n : Nat => PyData.int (n : Int)) ≤ 1 := by
    intro q
    induction q with
    | nil => exact Nat.zero_le _
    | cons x r ih =>
      rw [List.map_cons, PyData.depthAll]
      have e : (PyData.int (x : Int)).depth = 0 := rfl
      omega
  have := h q
  unfold pathD
  rw [PyData.depth]
  omega
/-! the ways -/
end Tl
set_option Elab.async false
set_option linter.all false
set_option maxRecDepth 100000
set_option maxHeartbeats 4000000
/-! < and >= of data that are alike; x in a tuple of data; sorted(..) of a tuple. -/
set_option Elab.async false
set_option linter.all false
set_option maxRecDepth 100000
set_option maxHeartbeats 4000000
/-! Matchings: pairs of places, their order, what stands in step. -/
namespace Tl
open PySem L2
open PySem.W (alike alikeAll AllAlike dataLe dataLt rowLt dataLt_tuple dataLt_cons)
abbrev PPr := List Nat × List Nat
/-! ### order -/
/-! ### rows, each behind each -/
/-! ### what stands in step -/
def step1 (x y : PPr) : Bool := ltN x.1 y.1 && ltN x.2 y.2 && decide (pre x.1 y.1 = pre x.2 y.2)
theorem ltN_ne {a b : List Nat} (h : ltN a b = true) : a ≠ b := fun e => by rw [e, ltN_irr] at h; cases h
/-- a matching of two trees -/
structure Mat (t u : PyData) (ps : List PPr) : Prop where
  at_ : ∀ x ∈ ps, x.1 ∈ plc t ∧ x.2 ∈ plc u
  hd : ps.head? = some ([], [])
  st : ps.Pairwise fun x y => step1 x y = true
theorem up_len : ∀ {a b : List (List Nat)}, Up a → (∀ x ∈ a, x ∈ b) → a.length ≤ b.length
  | [], _, _, _ => Nat.zero_le _
  | x :: r, b, h, hs => by
    unfold Up at h
    rw [List.pairwise_cons] at h
    have h2 := up_len (b := b.erase x) h.2 fun y hy => (List.mem_erase_of_ne (fun e => ltN_ne (h.1 y hy) e.symm)).mpr (hs y (.tail _ hy))
    have hx := hs x (.head _)
    have := List.length_pos_of_mem hx
    rw [List.length_erase_of_mem hx] at h2
    rw [List.length_cons]
    omega
theorem Mat.len {t u : PyData} {ps : List PPr} (h : Mat t u ps) : ps.length ≤ (plc t).length := by
  have e : Up (ps.map (·.1)) := by
    unfold Up
    rw [List.pairwise_map]
    refine h.st.imp fun {x y} k => ?_
    unfold step1 at k
    rw [Bool.and_eq_true, Bool.and_eq_true] at k
    exact k.1.1
  have := up_len e (b := plc t) fun x hx => by
    obtain ⟨y, hy, rfl⟩ := List.mem_map.mp hx
    exact (h.at_ y hy).1
  rwa [List.length_map] at this
/-! ### places and pairs among all things -/
/-! ### what a matching costs -/
end Tl
set_option Elab.async false
set_option linter.all false
set_option maxRecDepth 100000
set_option maxHeartbeats 4000000
namespace Tl
open PySem L2
/-- over a row of tuples of two, two names -/
theorem forT2 {α : Type} {i j : Nat} {g h : α → PyData} {keep : Mem → Prop} {body : TDS} {D : EndD} {xs : List α} {ρ : EnvD} {M : Mem} (Pv : Nat → EnvD → Mem → Prop) (h0 : Pv 0 ρ M) (hk : ∀ i ρ M, i ≤ xs.length → Pv i ρ M → keep M)
    (hs : ∀ n a ρ M (N : EnvD → Mem → Prop), xs[n]? = some a → Pv n ρ M → (∀ ρ' M', Pv (n + 1) ρ' M' → N ρ' M') → body ⟨N, D.rt, D.nx, N⟩ (put (put ρ i (some (.d (g a)))) j (some (.d (h a)))) M) (hd : ∀ ρ M, Pv xs.length ρ M → D.nx ρ M) : forGo (bTup2 i j) keep body D (rows1 (xs.map fun a => W.d (.tuple [g a, h a]))) ρ M := by
  have el : (rows1 (xs.map fun a => W.d (.tuple [g a, h a]))).length = xs.length := by rw [rows1_map, List.length_map]
  refine for_ix Pv h0 (fun i ρ M hi p => hk i ρ M (by rw [← el]; exact hi) p) (fun n row ρ M N hrow p hN => ?_) (fun ρ M p => hd ρ M (by rw [← el]; exact p))
  rw [rows1_map, List.getElem?_map] at hrow
  obtain ⟨a, ha, e⟩ := Option.map_eq_some_iff.mp hrow
  subst e
  exact hs n a ρ M N ha p hN
end Tl
set_option Elab.async false
set_option linter.all false
set_option maxRecDepth 100000
set_option maxHeartbeats 8000000
namespace Tl
open PySem L2 RZ
local macro_rules
  | `(tactic| decreasing_trivial) => `(tactic| ((with_reducible (conv => whnf)); (repeat ((first | (with_reducible refine gDs_c ?_) | (with_reducible refine gDs_n ?_) | (with_reducible refine gNs_c ?_) | (with_reducible refine gNs_n ?_) | (with_reducible refine gO_i tyAny_lt ?_) | (with_reducible refine gIs_c ?_) | (with_reducible refine gIs_n ?_) | (with_reducible refine gBs_c ?_) | (with_reducible refine gBs_n ?_) | (with_reducible refine gSs_c ?_) | (with_reducible refine gSs_n ?_) | (with_reducible refine gO_i tyIs_int ?_) | (with_reducible refine gO_i tyIs_bool ?_) | (with_reducible refine gO_i tyIs_str ?_) | (with_reducible refine gO_i tyIs_tuple ?_) | (with_reducible refine gO_i tyIs_list ?_) | (with_reducible refine gDs_i ?_) | (with_reducible refine gO_i (Eq.refl _) ?_) | (with_reducible refine gO_i (by assumption) ?_) | (with_reducible refine gO_i at_0 ?_) | (with_reducible refine gO_i at_m0 ?_) | (with_reducible refine gO_i at_1 ?_) | (with_reducible refine gO_i at_m1 ?_) | (with_reducible refine gO_i at_2 ?_) | (with_reducible refine gO_i at_m2 ?_) | (with_reducible refine gO_i at_3 ?_) | (with_reducible refine gO_i at_m3 ?_) | (with_reducible refine gO_i at_4 ?_) | (with_reducible refine gO_i at_m4 ?_) | (with_reducible refine gO_i at_5 ?_) | (with_reducible refine gO_i at_m5 ?_) | (with_reducible refine gO_i at_6 ?_) | (with_reducible refine gO_i at_m6 ?_) | (with_reducible refine gO_i at_7 ?_) | (with_reducible refine gO_i at_m7 ?_) | (with_reducible refine IfB.ngf ?_) | (with_reducible refine IfB.ngt ?_) | (with_reducible refine IfB.not ?_) | (with_reducible refine IfB.nil ?_) | (with_reducible refine IfB.nilT ?_) | (with_reducible refine IfB.f isE_c ?_) | (with_reducible refine IfB.t isE_n ?_) | (with_reducible refine IfB.t ?gha ?_; (case gha => rfl)) | (with_reducible refine IfB.f ?gha ?_; (case gha => rfl)) | (with_reducible refine IfB.t ?gha ?_; (case gha => assumption)) | (with_reducible refine IfB.f ?gha ?_; (case gha => assumption)) | (with_reducible refine IfB.yes (Eq.refl _) ?_) | (with_reducible refine IfB.yes ?gha ?_; (case gha => (first | omega | (simp only [len_c, len_n, List.length_map]; omega)))) | (with_reducible refine IfB.no ?gha ?_; (case gha => (first | omega | (simp only [len_c, len_n, List.length_map]; omega)))) | (with_reducible refine IfB.t ?gha ?_; (case gha => decide +kernel)) | (with_reducible refine IfB.f ?gha ?_; (case gha => decide +kernel))); (with_reducible (conv => whnf))))))
local macro_rules
  | `(tactic| decreasing_trivial_pre_omega) => `(tactic| (decreasing_trivial; (repeat ((first | ((with_reducible refine And.intro ?gha ?_); (case gha => (first | assumption | omega | exact rfl | (exact mset_same) | (exact ⟨_, mset_same⟩) | (exact Exists.intro _ (by first | exact mset_same | assumption | (rw [mset_ne (by assumption)]; first | exact mset_same | assumption))) | (exact sm_of (by omega) (by omega)) | (exact sz1000 (by first | omega | (simp; done) | (simp; omega))) | (exact Or.inl ⟨by decide, by decide⟩) | decide | (simp; done) | (refine ⟨?_, ?_⟩ <;> (first | assumption | omega | exact rfl | (exact mset_same) | (exact ⟨_, mset_same⟩) | (exact Exists.intro _ (by first | exact mset_same | assumption | (rw [mset_ne (by assumption)]; first | exact mset_same | assumption))) | (exact sm_of (by omega) (by omega)) | (exact sz1000 (by first | omega | (simp; done) | (simp; omega))) | (exact Or.inl ⟨by decide, by decide⟩) | decide | (simp; done))) | (refine ⟨?_, ?_, ?_⟩ <;> (first | assumption | omega | exact rfl | (exact mset_same) | (exact ⟨_, mset_same⟩) | (exact Exists.intro _ (by first | exact mset_same | assumption | (rw [mset_ne (by assumption)]; first | exact mset_same | assumption))) | (exact sm_of (by omega) (by omega)) | (exact sz1000 (by first | omega | (simp; done) | (simp; omega))) | (exact Or.inl ⟨by decide, by decide⟩) | decide | (simp; done))) | (refine ⟨?_, ?_, ?_, ?_⟩ <;> (first | assumption | omega | exact rfl | (exact mset_same) | (exact ⟨_, mset_same⟩) | (exact Exists.intro _ (by first | exact mset_same | assumption | (rw [mset_ne (by assumption)]; first | exact mset_same | assumption))) | (exact sm_of (by omega) (by omega)) | (exact sz1000 (by first | omega | (simp; done) | (simp; omega))) | (exact Or.inl ⟨by decide, by decide⟩) | decide | (simp; done)))))) | (with_reducible refine exW (by first | exact mset_same | assumption | (rw [mset_ne (by assumption)]; first | exact mset_same | assumption)) ?_)); decreasing_trivial))))
@[reducible] def tfPlcsD : TF := fun ws M R _ => g1 ws fun x => gD x fun d => (TrT 12 d ∧ nn d ≤ 60) ∧ R (.d (.list ((prP [] d).map plD))) M
@[reducible] def tfLNm : TF := fun ws M R _ => g1 ws fun x => gD x fun d => (TrT 12 d ∧ nn d ≤ 60) ∧ ∀ p, M p = none → R (.r p) (mset M p (.lst ((nums d).map W.d)))
@[reducible] def tfLNmD : TF := fun ws M R _ => g1 ws fun x => gD x fun d => (TrT 12 d ∧ nn d ≤ 60) ∧ R (.d (.list (nums d))) M
section
variable {P : Program} {w : World} {K : PySem.W.Frag} {mg : Str → Option Value} {base : Heap}
theorem ok_plcsD {f : Addr} {fd : FuncData} {k : Nat} (F : Fun K "_law_places" "_law_places" sPlcs f fd) (T : Bl mg) : FnOk P w K mg base CX0 (k + 1) f fd ["_law_tree_here"] (spD K 1 tfPlcsD) :=
  FnOk.dat (ok_plcs F T) fun ws M R RX hl h => by
    obtain ⟨x, rfl, h1⟩ := g1_of h
    obtain ⟨d, rfl, q1, q2⟩ := gD_of h1
    exact ⟨q1, fun p hp => ⟨p, _, rfl, hp, (by unfold plW; rw [List.map_map]; rfl), q2⟩⟩
abbrev sLNm : Stmt := top 44
theorem scLNm : FnScope ["_law_tree_here", "_law_found", "_law_path", "_law_part", "_law_sign"] ["_law_tree_here"] (defScope sLNm) := ⟨rfl, rfl, rfl, by decide +kernel, rfl, by decide +kernel, by decide +kernel⟩
theorem ok_lNm {f : Addr} {fd : FuncData} {k j : Nat} (F : Fun K "_law_numbers" "_law_numbers" sLNm f fd) (U_law_places : Use P w K mg base "_law_places" ["_law_tree_here"] j (spD K 1 tfPlcsD)) (hj : j ≤ k) (T : Bl mg) (mO : mg "ord" = none) : FnOk P w K mg base CX0 (k + 1) f fd ["_law_tree_here"] (spD K 1 tfLNm) := by
  refine okD F scLNm rfl fun cdv A outer s H E hr => ?_
  refine ⟨_, _, (pss_cons (ps_set (i := 1) scLNm.nd rfl (.inl rfl) (pe_lst pa_nil))
    (pss_cons (ps_for PassesOwn.never rfl (pi_list (pe_call U_law_places.ok (hr.mono (by omega)) rfl U_law_places.m U_law_places.kp U_law_places.b .nil pass0 (pa_cons (pv 0) pa_nil))) (pg_tup rfl (pgs_cons (pg_name (i := 2) scLNm.nd rfl (.inl rfl)) (pgs_cons (pg_name (i := 3) scLNm.nd rfl (.inl rfl)) pgs_nil))) (pss_one (ps_expr (pe_bm PySem.F.plainAttrs_list PySem.F.slot_list_extend PySem.F.type_list_extend mt_extend (pv 1) (pa_cons (pe_op op_cat (pe_lst (pa_cons (pe_callB call_len_seq (by rfl) T.len PySem.boot_len (pa_cons (pe_ix ix_tup (pv 3) pe_int (fun _ _ => rfl)) pa_nil)) (pa_cons (pe_callB call_len_str (by rfl) T.len PySem.boot_len (pa_cons (pe_ix ix_tup (pv 3) pe_int (fun _ _ => rfl)) pa_nil)) pa_nil))) (pe_lc (own := [("_law_sign", 4)]) (g := gName 4) (tt := tYes) (by rfl) scLNm.nd (pi_str (pe_ix ix_tup (pv 3) pe_int (fun _ _ => rfl))) (blkOk_by (N := ["_law_tree_here", "_law_found", "_law_path", "_law_part", "_law_sign"]) (sc := defScope sLNm) (own := [("_law_sign", 4)]) (by decide +kernel)) (fun _ _ _ _ _ => pg_name (i := 4) scLNm.nd rfl (Or.inl rfl)) (fun _ _ _ _ _ => pts_nil) (fun _ _ _ _ _ => (pe_op op_sub (pe_callB call_ord (by rfl) mO PyProof.Rows.boot_ord (pa_cons (pv 4) pa_nil)) pe_int)))) pa_nil)))))
    (pss_one (ps_ret (pv 1))))),
    (ss_cons (ss_set (se_lst sa_nil))
    (ss_cons (ss_for (si_lst (se_call (sa_cons se_nm sa_nil))) sg_tup2 (ss_drop (se_bmL sm_extend se_nm (sa_cons (se_op so_catF (se_lsf (sa_cons (se_cb sc_len (sa_cons (se_op so_ixT se_nm se_int) sa_nil)) (sa_cons (se_cb sc_lenS (sa_cons (se_op so_ixT se_nm se_int) sa_nil)) sa_nil))) (se_lcF (si_str (se_op so_ixT se_nm se_int)) sg_name st_yes (se_op so_sub (se_cb sc_ord (sa_cons se_nm sa_nil)) se_int))) sa_nil))))
    (ss_ret se_nm))), fun ws M R RX hl h => ?_⟩
  obtain ⟨x, rfl, h1⟩ := g1_of h
  obtain ⟨d, rfl, ⟨ht, hn⟩, h2⟩ := gD_of h1
  simp only [start0, len_c, len_n, map_c, map_n, app_c, app_n, rep_0, rep_s, Nat.reduceAdd, Nat.reduceSub]
  decreasing_trivial_pre_omega
  intro p hp
  decreasing_trivial_pre_omega
  rw [List.map_map]
  refine forT2 (g := fun x : List Nat × PyData => pathD x.1) (h := fun x => x.2) (fun i ρ M' => M' = mset M p (.lst ((ownN ((prP [] d).take i)).map W.d)) ∧ ∃ (y2 y3 y4 : Option W), ρ = [some (W.d d), some (.r p), y2, y3, y4])
    ⟨rfl, none, none, none, rfl⟩ (fun _ _ _ _ _ => trivial) (fun i x ρ M' N hx pv hN => ?_) (fun ρ M' pv => ?_)
  · obtain ⟨rfl, y2, y3, y4, rfl⟩ := pv
    obtain ⟨q, e⟩ := x
    obtain ⟨r, _, hs, _⟩ := at_P ht hx
    obtain ⟨s0, ks, rfl, _, hnk, _, hs0⟩ := node_at ht hs
    obtain ⟨l1, l2, l3⟩ := tag_let hs0
    decreasing_trivial_pre_omega
    unfold signs
    have hl2 : s0.cps.toList.length = s0.length := by rw [Array.length_toList]; rfl
    have hsl : 5000 ≤ sizeLine := by decide
    have hlk : ks.length ≤ 60 := by
      have := len_nnA ks
      omega
    refine lc1F (k := fun _ => True) (b := bName 4) (fun c : Nat => PyData.int ((c : Int) - 96)) trivial (fun c hc Rk z => ?_) (sz1000 (by omega)) ?_
    · have ho : (⟨#[c]⟩ : Str).length = 1 := rfl
      decreasing_trivial_pre_omega
      exact z
    · decreasing_trivial_pre_omega
      have hol : (ownN ((prP [] d).take i)).length ≤ 600 := by
        have e1 := nums_len ht
        rw [← own_P (q := []) ht, ← List.take_append_drop i (prP [] d), ownN_app, List.length_append] at e1
        omega
      refine ⟨by rw [List.length_map]; exact sz1000 (by show 2 + _ ≤ 1000; omega), ?_⟩
      decreasing_trivial_pre_omega
      refine ⟨by simp only [List.length_map, List.length_append, List.length_cons, List.length_nil]; exact sz1000 (by omega), ?_⟩
      rw [mset_mset]
      refine hN _ _ ⟨?_, _, _, _, rfl⟩
      rw [List.take_add_one, hx, ownN_app]
      have : ownN (some (q, PyData.tuple [PyData.str s0, PyData.tuple ks])).toList = own1 (.tuple [.str s0, .tuple ks]) := by
        show own1 _ ++ [] = _
        rw [List.append_nil]
      rw [this]
      exact congrArg (fun l => mset M p (.lst l)) (List.map_append (f := W.d) (l₁ := ownN ((prP [] d).take i)) (l₂ := own1 (.tuple [.str s0, .tuple ks]))).symm
  · obtain ⟨rfl, y2, y3, y4, rfl⟩ := pv
    decreasing_trivial_pre_omega
    rw [List.take_length, own_P ht]
    exact h2 p hp
theorem ok_lNmD {f : Addr} {fd : FuncData} {k j : Nat} (F : Fun K "_law_numbers" "_law_numbers" sLNm f fd) (U_law_places : Use P w K mg base "_law_places" ["_law_tree_here"] j (spD K 1 tfPlcsD)) (hj : j ≤ k) (T : Bl mg) (mO : mg "ord" = none) : FnOk P w K mg base CX0 (k + 1) f fd ["_law_tree_here"] (spD K 1 tfLNmD) :=
  FnOk.dat (ok_lNm F U_law_places hj T mO) fun ws M R RX hl h => by
    obtain ⟨x, rfl, h1⟩ := g1_of h
    obtain ⟨d, rfl, q1, q2⟩ := gD_of h1
    exact ⟨q1, fun p hp => ⟨p, _, rfl, hp, rfl, q2⟩⟩
end
end Tl
set_option Elab.async false
set_option linter.all false
set_option maxRecDepth 100000
set_option maxHeartbeats 8000000
namespace Tl
open PySem L2 RZ
local macro_rules
  | `(tactic| decreasing_trivial) => `(tactic| ((with_reducible (conv => whnf)); (repeat ((first | (with_reducible refine gDs_c ?_) | (with_reducible refine gDs_n ?_) | (with_reducible refine gNs_c ?_) | (with_reducible refine gNs_n ?_) | (with_reducible refine gO_i tyAny_lt ?_) | (with_reducible refine gIs_c ?_) | (with_reducible refine gIs_n ?_) | (with_reducible refine gBs_c ?_) | (with_reducible refine gBs_n ?_) | (with_reducible refine gSs_c ?_) | (with_reducible refine gSs_n ?_) | (with_reducible refine gO_i tyIs_int ?_) | (with_reducible refine gO_i tyIs_bool ?_) | (with_reducible refine gO_i tyIs_str ?_) | (with_reducible refine gO_i tyIs_tuple ?_) | (with_reducible refine gO_i tyIs_list ?_) | (with_reducible refine gDs_i ?_) | (with_reducible refine gO_i (Eq.refl _) ?_) | (with_reducible refine gO_i (by assumption) ?_) | (with_reducible refine gO_i at_0 ?_) | (with_reducible refine gO_i at_m0 ?_) | (with_reducible refine gO_i at_1 ?_) | (with_reducible refine gO_i at_m1 ?_) | (with_reducible refine gO_i at_2 ?_) | (with_reducible refine gO_i at_m2 ?_) | (with_reducible refine gO_i at_3 ?_) | (with_reducible refine gO_i at_m3 ?_) | (with_reducible refine gO_i at_4 ?_) | (with_reducible refine gO_i at_m4 ?_) | (with_reducible refine gO_i at_5 ?_) | (with_reducible refine gO_i at_m5 ?_) | (with_reducible refine gO_i at_6 ?_) | (with_reducible refine gO_i at_m6 ?_) | (with_reducible refine gO_i at_7 ?_) | (with_reducible refine gO_i at_m7 ?_) | (with_reducible refine IfB.ngf ?_) | (with_reducible refine IfB.ngt ?_) | (with_reducible refine IfB.not ?_) | (with_reducible refine IfB.nil ?_) | (with_reducible refine IfB.nilT ?_) | (with_reducible refine IfB.f isE_c ?_) | (with_reducible refine IfB.t isE_n ?_) | (with_reducible refine IfB.t ?gha ?_; (case gha => rfl)) | (with_reducible refine IfB.f ?gha ?_; (case gha => rfl)) | (with_reducible refine IfB.t ?gha ?_; (case gha => assumption)) | (with_reducible refine IfB.f ?gha ?_; (case gha => assumption)) | (with_reducible refine IfB.yes (Eq.refl _) ?_) | (with_reducible refine IfB.yes ?gha ?_; (case gha => (first | omega | (simp only [len_c, len_n, List.length_map]; omega)))) | (with_reducible refine IfB.no ?gha ?_; (case gha => (first | omega | (simp only [len_c, len_n, List.length_map]; omega)))) | (with_reducible refine IfB.t ?gha ?_; (case gha => decide +kernel)) | (with_reducible refine IfB.f ?gha ?_; (case gha => decide +kernel))); (with_reducible (conv => whnf))))))
local macro_rules
  | `(tactic| decreasing_trivial_pre_omega) => `(tactic| (decreasing_trivial; (repeat ((first | ((with_reducible refine And.intro ?gha ?_); (case gha => (first | assumption | omega | exact rfl | (exact mset_same) | (exact ⟨_, mset_same⟩) | (exact Exists.intro _ (by first | exact mset_same | assumption | (rw [mset_ne (by assumption)]; first | exact mset_same | assumption))) | (exact sm_of (by omega) (by omega)) | (exact sz1000 (by first | omega | (simp; done) | (simp; omega))) | (exact Or.inl ⟨by decide, by decide⟩) | decide | (simp; done) | (refine ⟨?_, ?_⟩ <;> (first | assumption | omega | exact rfl | (exact mset_same) | (exact ⟨_, mset_same⟩) | (exact Exists.intro _ (by first | exact mset_same | assumption | (rw [mset_ne (by assumption)]; first | exact mset_same | assumption))) | (exact sm_of (by omega) (by omega)) | (exact sz1000 (by first | omega | (simp; done) | (simp; omega))) | (exact Or.inl ⟨by decide, by decide⟩) | decide | (simp; done))) | (refine ⟨?_, ?_, ?_⟩ <;> (first | assumption | omega | exact rfl | (exact mset_same) | (exact ⟨_, mset_same⟩) | (exact Exists.intro _ (by first | exact mset_same | assumption | (rw [mset_ne (by assumption)]; first | exact mset_same | assumption))) | (exact sm_of (by omega) (by omega)) | (exact sz1000 (by first | omega | (simp; done) | (simp; omega))) | (exact Or.inl ⟨by decide, by decide⟩) | decide | (simp; done))) | (refine ⟨?_, ?_, ?_, ?_⟩ <;> (first | assumption | omega | exact rfl | (exact mset_same) | (exact ⟨_, mset_same⟩) | (exact Exists.intro _ (by first | exact mset_same | assumption | (rw [mset_ne (by assumption)]; first | exact mset_same | assumption))) | (exact sm_of (by omega) (by omega)) | (exact sz1000 (by first | omega | (simp; done) | (simp; omega))) | (exact Or.inl ⟨by decide, by decide⟩) | decide | (simp; done)))))) | (with_reducible refine exW (by first | exact mset_same | assumption | (rw [mset_ne (by assumption)]; first | exact mset_same | assumption)) ?_)); decreasing_trivial))))
@[reducible] def tfLBg : TF := fun ws M R _ => ∃ (d e : PyData) (q : List Nat), ws = [.d d, .d (pathD q)] ∧ (TrT 12 d ∧ nn d ≤ 60 ∧ sub d q = some e) ∧ R (.d (.tuple [.int (bgT d q : Nat), .int (bgN d q : Nat)])) M
theorem lc2F {α : Type} {keep : Mem → Prop} {te : TDE} {ρ : EnvD} {M : Mem} {i j : Nat} (f h g : α → PyData) (hk : keep M) {xs : List α} (hb : ∀ a ∈ xs, ∀ Rk : W → Mem → Prop, Rk (.d (g a)) M → te (put (put ρ i (some (.d (f a)))) j (some (.d (h a)))) M Rk) (hl : xs.length ≤ sizeLine) {fin : List PyData → Mem → Prop} (hf : fin (xs.map g) M) :
    lcGo (bTup2 i j) keep yesT te ρ (fun acc M2 => gDs acc fun ds => fin ds M2) (rows1 (xs.map fun a => W.d (.tuple [f a, h a]))) [] M := by
  rw [rows1_map]
  refine lc_map (fun a => .d (g a)) hk xs [] (fun a ha Rk Rn q => .t rfl (hb a ha Rk q)) (by simpa using hl) ?_
  rw [List.nil_append, show (xs.map fun a => W.d (g a)) = (xs.map g).map W.d by rw [List.map_map]; rfl]
  exact gDs_i hf
def kdOf (x : List Nat × PyData) : KD := (x.1.map (fun n : Nat => PyData.int (n : Int)), x.2)
theorem keyOk_path (q : List Nat) : keyOk (pathD q) = true := by
  unfold pathD
  rw [keyOk]
  induction q with
  | nil => rw [List.map_nil, keyOks]
  | cons n q ih => rw [List.map_cons, keyOks, keyOk, ih]; rfl
theorem path_dp8 (q : List Nat) : (pathD q).depth ≤ 8 := Nat.le_trans (path_depth q) (by decide)
theorem kd_find {d a : PyData} {r : List Nat} (ht : TrT 12 d) (ha : sub d r = some a) : valU (mergW [] ((prP [] d).map kdOf)) (pathD r) = some (.d a) := by
  refine mergW_find (pathD r) (.d a) _ [] (fun x hx hk => ?_) (.inr ⟨kdOf (r, a), List.mem_map.mpr ⟨(r, a), ?_, rfl⟩, rfl⟩) (fun v h => by simp [valU] at h)
  · obtain ⟨⟨y1, y2⟩, hy, rfl⟩ := List.mem_map.mp hx
    obtain ⟨m, hm⟩ := List.getElem?_of_mem hy
    obtain ⟨r2, e1, e2, _⟩ := at_P ht hm
    rw [List.nil_append] at e1
    subst e1
    have e3 := pathD_inj (keyN_inj (pathD y1) (pathD r) (keyOk_path y1) (keyOk_path r) hk)
    subst e3
    rw [e2] at ha
    cases ha
    rfl
  · have := in_P (q := []) ht ha
    rw [List.nil_append] at this
    exact this
theorem first_ix {α : Type} (p : α → Bool) : ∀ xs : List α, (∃ x ∈ xs, p x = true) → ∃ j x, xs[j]? = some x ∧ p x = true ∧ ∀ (m : Nat) (y : α), m < j → xs[m]? = some y → p y = false
  | [], ⟨_, h, _⟩ => by cases h
  | a :: xs, h => by
    by_cases c : p a = true
    · exact ⟨0, a, rfl, c, fun m y hm _ => by omega⟩
    · obtain ⟨x, hx, hp⟩ := h
      rcases List.mem_cons.mp hx with e | hx
      · rw [← e] at c; exact absurd hp c
      · obtain ⟨j, y, h1, h2, h3⟩ := first_ix p xs ⟨x, hx, hp⟩
        refine ⟨j + 1, y, by rw [List.getElem?_cons_succ]; exact h1, h2, fun m z hm hz => ?_⟩
        cases m with
        | zero => cases hz; simpa using c
        | succ m => exact h3 m z (by omega) (by simpa using hz)
section
variable {P : Program} {w : World} {K : PySem.W.Frag} {mg : Str → Option Value} {base : Heap}
abbrev sLBg : Stmt := top 45
theorem scLBg : FnScope ["_law_tree_here", "_law_path", "_law_text_here", "_law_numbers_here", "_law_places_here", "_law_k", "_law_other", "_law_part", "_law_above", "_law_kid", "_law_one", "_law_held"] ["_law_tree_here", "_law_path"] (defScope sLBg) := ⟨rfl, rfl, rfl, by decide +kernel, rfl, by decide +kernel, by decide +kernel⟩
theorem ok_lBg {f : Addr} {fd : FuncData} {k j : Nat} (F : Fun K "_law_begins" "_law_begins" sLBg f fd) (U_law_places : Use P w K mg base "_law_places" ["_law_tree_here"] j (spD K 1 tfPlcs)) (U_law_text : Use P w K mg base "_law_text" ["_law_tree_here"] j (spD K 1 (tfLTx 12))) (hj : j ≤ k) (T : Bl mg) (mS : mg "sum" = none) (mDict : mg "dict" = none) : FnOk P w K mg base CX0 (k + 1) f fd ["_law_tree_here", "_law_path"] (spD K 2 tfLBg) := by
  refine okDL F scLBg rfl fun cdv A outer s H E hr => ?_
  refine ⟨_, _, (pss_cons (ps_set (i := 2) scLBg.nd rfl (.inl rfl) pe_int)
    (pss_cons (ps_set (i := 3) scLBg.nd rfl (.inl rfl) pe_int)
    (pss_cons (ps_set (i := 4) scLBg.nd rfl (.inl rfl) (pe_call U_law_places.ok (hr.mono (by omega)) rfl U_law_places.m U_law_places.kp U_law_places.b .nil pass0 (pa_cons (pv 0) pa_nil)))
    (pss_cons (ps_for PassesOwn.never rfl (pi_list (pe_slice sl_list (pv 4) po_none (po_some (pe_bm PySem.F.plainAttrs_list PySem.F.slot_list_index PySem.F.type_list_index (mt_indexD (hu65 hr)) (pe_lc (own := [("_law_one", 10), ("_law_held", 11)]) (g := gTup K 2 (gCons (gName 10) (gCons (gName 11) gNil))) (tt := tYes) (by rfl) scLBg.nd (pi_list (pv 4)) (blkOk_by (N := ["_law_tree_here", "_law_path", "_law_text_here", "_law_numbers_here", "_law_places_here", "_law_k", "_law_other", "_law_part", "_law_above", "_law_kid", "_law_one", "_law_held"]) (sc := defScope sLBg) (own := [("_law_one", 10), ("_law_held", 11)]) (by decide +kernel)) (fun _ _ _ _ _ => (pg_tup rfl (pgs_cons (pg_name (i := 10) scLBg.nd rfl (Or.inl rfl)) (pgs_cons (pg_name (i := 11) scLBg.nd rfl (Or.inl rfl)) pgs_nil)))) (fun _ _ _ _ _ => pts_nil) (fun _ _ _ _ _ => (pv 10))) (pa_cons (pv 1) pa_nil))))) (pg_tup rfl (pgs_cons (pg_name (i := 6) scLBg.nd rfl (.inl rfl)) (pgs_cons (pg_name (i := 7) scLBg.nd rfl (.inl rfl)) pgs_nil))) (pss_one (ps_set (i := 3) scLBg.nd rfl (.inl rfl) (pe_op op_add (pe_op op_add (pv 3) pe_int) (pe_callB call_len_str (by rfl) T.len PySem.boot_len (pa_cons (pe_ix ix_tup (pv 7) pe_int (fun _ _ => rfl)) pa_nil))))))
    (pss_cons (ps_for PassesOwn.never rfl (pi_range1 (by rfl) T.range (pa_cons (pe_callB call_len_seq (by rfl) T.len PySem.boot_len (pa_cons (pv 1) pa_nil)) pa_nil)) (pg_name (i := 5) scLBg.nd rfl (.inl rfl)) (pss_cons (ps_set (i := 8) scLBg.nd rfl (.inl rfl) (pe_uget (hu20 hr) (pe_callTy (call_dictU rfl (hu20 hr)) (by rfl) mDict PyProof.Rows.boot_dict (pa_cons (pv 4) pa_nil)) (pe_slice sl_tupA (pv 1) po_none (po_some (pv 5))) (fun _ _ => rfl)))
      (pss_one (ps_set (i := 2) scLBg.nd rfl (.inl rfl) (pe_op op_add (pe_op op_add (pe_op op_add (pv 2) (pe_callB call_len_str (by rfl) T.len PySem.boot_len (pa_cons (pe_ix ix_tup (pv 8) pe_int (fun _ _ => rfl)) pa_nil))) pe_int) (pe_callB (cr_sum rfl) (by rfl) mS PyProof.Rows.boot_sum (pa_cons (pe_lc (own := [("_law_kid", 9)]) (g := gName 9) (tt := tYes) (by rfl) scLBg.nd (pi_tup (pe_slice sl_tupA (pe_ix ix_tup (pv 8) pe_int (fun _ _ => rfl)) po_none (po_some (pe_ix ix_tup (pv 1) (pv 5) (fun _ _ => rfl))))) (blkOk_by (N := ["_law_tree_here", "_law_path", "_law_text_here", "_law_numbers_here", "_law_places_here", "_law_k", "_law_other", "_law_part", "_law_above", "_law_kid", "_law_one", "_law_held"]) (sc := defScope sLBg) (own := [("_law_kid", 9)]) (by decide +kernel)) (fun _ _ _ _ _ => pg_name (i := 9) scLBg.nd rfl (Or.inl rfl)) (fun _ _ _ _ _ => pts_nil) (fun _ _ _ _ _ => (pe_op op_add (pe_callB call_len_str (by rfl) T.len PySem.boot_len (pa_cons (pe_call U_law_text.ok (hr.mono (by omega)) rfl U_law_text.m U_law_text.kp U_law_text.b .nil pass0 (pa_cons (pv 9) pa_nil)) pa_nil)) pe_int))) pa_nil)))))))
    (pss_one (ps_ret (pe_tup (pa_cons (pv 2) (pa_cons (pv 3) pa_nil)))))))))),
    (ss_cons (ss_set se_int)
    (ss_cons (ss_set se_int)
    (ss_cons (ss_set (se_call (sa_cons se_nm sa_nil)))
    (ss_cons (ss_for (si_lst (se_sl sl_F se_nm sp_no (sp_some (se_idxD (se_lcF (si_lst se_nm) sg_tup2 st_yes se_nm) (sa_cons se_nm sa_nil))))) sg_tup2 (ss_set (se_op so_add (se_op so_add se_nm se_int) (se_cb sc_lenS (sa_cons (se_op so_ixT se_nm se_int) sa_nil)))))
    (ss_cons (ss_for (si_r1 (sa_cons (se_cb sc_len (sa_cons se_nm sa_nil)) sa_nil)) sg_name (ss_cons (ss_set (se_getU (se_cb sc_dictU (sa_cons se_nm sa_nil)) (se_sl sl_T se_nm sp_no (sp_some se_nm))))
      (ss_set (se_op so_add (se_op so_add (se_op so_add se_nm (se_cb sc_lenS (sa_cons (se_op so_ixT se_nm se_int) sa_nil))) se_int) (se_cb sc_sum (sa_cons (se_lcF (si_tup (se_sl sl_T (se_op so_ixT se_nm se_int) sp_no (sp_some (se_op so_ixT se_nm se_nm)))) sg_name st_yes (se_op so_add (se_cb sc_lenS (sa_cons (se_call (sa_cons se_nm sa_nil)) sa_nil)) se_int)) sa_nil))))))
    (ss_ret (se_tup (sa_cons se_nm (sa_cons se_nm sa_nil))))))))), fun ws M R RX hl h => ?_⟩
  obtain ⟨d, e, q, rfl, ⟨ht, hn, hs⟩, h2⟩ := h
  simp only [start0, len_c, len_n, map_c, map_n, app_c, app_n, rep_0, rep_s, Nat.reduceAdd, Nat.reduceSub]
  decreasing_trivial_pre_omega
  intro p hp
  decreasing_trivial_pre_omega
  have hln := len_P (q := []) ht
  have hsl : 5000 ≤ sizeLine := by decide
  have hM1 : mset M p (.lst (plW (prP [] d))) p = some (.lst (plW (prP [] d))) := mset_same
  have sub1 : ∀ a o, M a = some o → mset M p (.lst (plW (prP [] d))) a = some o := fun a o h => by
    rw [mset_ne (fun z => by rw [z, hp] at h; cases h)]
    exact h
  generalize mset M p (.lst (plW (prP [] d))) = M1 at hM1 sub1 ⊢
  refine lc2F (fun x : List Nat × PyData => pathD x.1) (fun x => x.2) (fun x => pathD x.1) hM1 (fun x hx Rk z => ?_) (by omega) ?_
  · decreasing_trivial_pre_omega
    exact z
  · decreasing_trivial_pre_omega
    obtain ⟨o1, o2⟩ := eqOk_of (eqOk_paths ((prP [] d).map (·.1)))
    rw [List.map_map] at o1 o2
    obtain ⟨o3, o4⟩ := eqOk_of (eqOk_path q)
    have hmem := in_P (q := []) ht hs
    rw [List.nil_append] at hmem
    obtain ⟨jx, x, j1, j2, j3⟩ := first_ix (fun x : List Nat × PyData => decide (x.1 = q)) (prP [] d) ⟨_, hmem, by simp⟩
    have j4 : x.1 = q := of_decide_eq_true j2
    refine ⟨⟨⟨o2, o4⟩, o1, o3⟩, jx, pathD x.1, ⟨?_, ?_, fun m z' hm hz => ?_⟩, ?_⟩
    · rw [List.getElem?_map, j1]; rfl
    · rw [eqv_path, j4]; simp
    · rw [List.getElem?_map] at hz
      obtain ⟨y, hy, rfl⟩ := Option.map_eq_some_iff.mp hz
      rw [eqv_path]
      exact j3 m y hm hy
    have hbg : szs ((prP [] d).take jx) = bgN d q := by
      obtain ⟨x1, x2⟩ := x
      obtain ⟨r, r1, _, r3⟩ := at_P ht j1
      rw [List.nil_append] at r1
      dsimp only at j4
      rw [r3, ← r1, j4]
    decreasing_trivial_pre_omega
    have epl : plW (prP [] d) = ((prP [] d).map plD).map W.d := by unfold plW; rw [List.map_map]; rfl
    rw [epl]
    rw [epl] at hM1
    rw [gDs_map]
    decreasing_trivial_pre_omega
    rw [cut_to, ← List.map_take, List.map_map]
    have tagl : ∀ x ∈ prP [] d, ∃ s0 ks, x.2 = .tuple [.str s0, .tuple ks] ∧ s0.length ≤ 8 ∧ nnAll ks ≤ 60 := fun x hx => by
      obtain ⟨m, hm⟩ := List.getElem?_of_mem hx
      obtain ⟨x1, x2⟩ := x
      obtain ⟨r, _, r2, _⟩ := at_P ht hm
      obtain ⟨s0, ks, e0, _, e2, _, e1⟩ := node_at ht r2
      exact ⟨s0, ks, e0, (tag_let e1).2.1, by omega⟩
    refine forT2 (g := fun x : List Nat × PyData => pathD x.1) (h := fun x => x.2) (fun i ρ M' => M1 = M' ∧ ∃ (y6 y7 : Option W), ρ = [some (W.d d), some (W.d (pathD q)), some (.d (.int 0)), some (.d (.int (szs (((prP [] d).take jx).take i) : Nat))), some (.r p), none, y6, y7, none, none, none, none])
      ⟨rfl, none, none, rfl⟩ (fun _ _ _ _ _ => trivial) (fun i x ρ M' N hx pv hN => ?_) (fun ρ M' pv => ?_)
    · obtain ⟨rfl, y6, y7, rfl⟩ := pv
      have hx2 := List.mem_of_mem_take (List.mem_of_getElem? hx)
      obtain ⟨x1, x2⟩ := x
      obtain ⟨s0, ks, e0, e1, _⟩ := tagl _ hx2
      dsimp only at e0
      subst e0
      have l3 : s0.length ≤ sizeLine := by omega
      decreasing_trivial_pre_omega
      refine hN _ _ ⟨rfl, some (.d (pathD x1)), some (.d (.tuple [.str s0, .tuple ks])), ?_⟩
      rw [List.take_add_one, hx, szs_app]
      have : szs (some (x1, PyData.tuple [PyData.str s0, PyData.tuple ks])).toList = 2 + s0.length := rfl
      rw [this, show ((szs (((prP [] d).take jx).take i) + (2 + s0.length) : Nat) : Int) = (szs (((prP [] d).take jx).take i) : Nat) + 2 + (s0.length : Nat) by omega]
    · obtain ⟨rfl, y6, y7, rfl⟩ := pv
      rw [List.take_length, hbg]
      unfold pathD
      decreasing_trivial_pre_omega
      rw [List.length_map]
      have hq := place_ok ht hn hs
      refine ⟨sm_of (by omega) (by have := hq.1; omega), ?_⟩
      decreasing_trivial_pre_omega
      refine forR (fun i ρ M' => (∀ a o, M1 a = some o → M' a = some o) ∧ ∃ (y5 y8 : Option W) (a : PyData) (b : Nat), ρ = [some (W.d d), some (W.d (.tuple (q.map fun n : Nat => .int (n : Int)))), some (.d (.int (b : Nat))), some (.d (.int (bgN d q : Nat))), some (.r p), y5, y6, y7, y8, none, none, none] ∧ sub d (q.take i) = some a ∧ sub a (q.drop i) = some e ∧ b + bgT a (q.drop i) = bgT d q)
        ⟨fun _ _ h => h, none, none, d, 0, rfl, by rw [List.take_zero, sub_nil], by rw [List.drop_zero]; exact hs, by rw [List.drop_zero]; omega⟩ (fun _ _ _ _ _ => trivial) (fun i ρ M' N hi pv hN => ?_) (fun ρ M' pv => ?_)
      · obtain ⟨sub2, y5, y8, a, b, rfl, ha, hae, hb⟩ := pv
        have hM2 := sub2 _ _ hM1
        decreasing_trivial_pre_omega
        refine ⟨(prP [] d).map kdOf, ?_, by rw [List.length_map]; omega, fun x hx => ?_, fun dp hdp => ?_⟩
        · rw [hM2, List.map_map, List.map_map]; rfl
        · obtain ⟨y, _, rfl⟩ := List.mem_map.mp hx
          exact ⟨keyOk_path y.1, path_dp8 y.1⟩
        rw [show (0 : Int) + (i : Int) = (i : Int) by omega]
        decreasing_trivial_pre_omega
        rw [cut_to, ← List.map_take]
        have hM3 : mset M' dp (.dT (mergW [] ((prP [] d).map kdOf))) dp = some (.dT (mergW [] ((prP [] d).map kdOf))) := mset_same
        have sub3 : ∀ a o, M1 a = some o → mset M' dp (.dT (mergW [] ((prP [] d).map kdOf))) a = some o := fun a o h => by
          rw [mset_ne (fun z => by rw [z] at h; rw [sub2 _ _ h] at hdp; cases hdp)]
          exact sub2 _ _ h
        have hf := kd_find ht ha
        generalize mset M' dp (.dT (mergW [] ((prP [] d).map kdOf))) = M3 at hM3 sub3 ⊢
        refine ⟨⟨keyOk_path (q.take i), path_dp8 (q.take i)⟩, _, hM3, ?_⟩
        refine gO_i hf ?_
        obtain ⟨s0, ks, rfl, _, hnk, hk, hs0⟩ := node_at ht ha
        obtain ⟨l1, l2, _⟩ := tag_let hs0
        have l3 : s0.length ≤ sizeLine := by omega
        have hiq : (q.map fun n : Nat => PyData.int (n : Int))[i]? = some (.int ((q[i]'hi : Nat) : Int)) := by rw [List.getElem?_map, List.getElem?_eq_getElem hi]; rfl
        have h8 := atI_nat hiq
        rw [List.drop_eq_getElem_cons hi] at hae hb
        generalize hn0 : q[i]'hi = n0 at hae hb h8
        rw [sub_node] at hae
        cases hkk : ks[n0]? with
        | none => rw [hkk] at hae; cases hae
        | some kk =>
          rw [hkk] at hae
          rw [bgT, hkk] at hb
          dsimp only at hae hb
          have hl9 := len_nnA ks
          have hkm : ∀ k ∈ ks, TrT 12 k ∧ nn k ≤ 60 := fun k h => ⟨(hk k h).mono (by omega), by have := nn_memA h; omega⟩
          decreasing_trivial_pre_omega
          rw [cut_to]
          refine lc1F (k := fun _ => True) (b := bName 9) (fun k => .int (((txS k).length : Nat) + 1)) trivial (fun k hm2 Rk z => ?_) (sz1000 (by rw [List.length_take]; omega)) ?_
          · obtain ⟨k1, k2⟩ := hkm k (List.mem_of_mem_take hm2)
            have l4 := txS_len k1
            have l5 : (Str.mk (txS k).toArray).length ≤ sizeLine := by rw [len_mk]; omega
            decreasing_trivial_pre_omega
            rw [len_mk]
            exact z
          · decreasing_trivial_pre_omega
            rw [List.map_map]
            show gIs ((ks.take n0).map fun k => W.d (.int (((txS k).length : Nat) + 1))) _
            rw [gIs_map]
            decreasing_trivial_pre_omega
            rw [txA_sum]
            refine hN _ _ ⟨sub3, some (.d (.int (i : Nat))), some (.d (.tuple [.str s0, .tuple ks])), kk, b + (s0.length + 1 + (txA (ks.take n0)).length), ?_, ?_, hae, by omega⟩
            · rw [show ((b + (s0.length + 1 + (txA (ks.take n0)).length) : Nat) : Int) = (b : Int) + (s0.length : Int) + 1 + ((txA (ks.take n0)).length : Nat) by omega]
            · rw [List.take_succ_eq_append_getElem hi, sub_appE ha, hn0, sub_node, hkk]
              dsimp only
              rw [sub_nil]
      · obtain ⟨sub2, y5, y8, a, b, rfl, ha, hae, hb⟩ := pv
        decreasing_trivial_pre_omega
        rw [show ((q.length : Nat) : Int).toNat = q.length from Int.toNat_natCast _, List.drop_length] at hae hb
        rw [bgT_nil] at hb
        have : b = bgT d q := by omega
        subst this
        exact ⟨M, fun a o h => sub2 _ _ (sub1 _ _ h), h2⟩
end
end Tl
set_option Elab.async false
set_option linter.all false
set_option maxRecDepth 100000
set_option maxHeartbeats 16000000
namespace Tl
open PySem L2 RZ
local macro_rules
  | `(tactic| decreasing_trivial) => `(tactic| ((with_reducible (conv => whnf)); (repeat ((first | (with_reducible refine gDs_c ?_) | (with_reducible refine gDs_n ?_) | (with_reducible refine gNs_c ?_) | (with_reducible refine gNs_n ?_) | (with_reducible refine gO_i tyAny_lt ?_) | (with_reducible refine gIs_c ?_) | (with_reducible refine gIs_n ?_) | (with_reducible refine gBs_c ?_) | (with_reducible refine gBs_n ?_) | (with_reducible refine gSs_c ?_) | (with_reducible refine gSs_n ?_) | (with_reducible refine gO_i tyIs_int ?_) | (with_reducible refine gO_i tyIs_bool ?_) | (with_reducible refine gO_i tyIs_str ?_) | (with_reducible refine gO_i tyIs_tuple ?_) | (with_reducible refine gO_i tyIs_list ?_) | (with_reducible refine gDs_i ?_) | (with_reducible refine gO_i (Eq.refl _) ?_) | (with_reducible refine gO_i (by assumption) ?_) | (with_reducible refine gO_i at_0 ?_) | (with_reducible refine gO_i at_m0 ?_) | (with_reducible refine gO_i at_1 ?_) | (with_reducible refine gO_i at_m1 ?_) | (with_reducible refine gO_i at_2 ?_) | (with_reducible refine gO_i at_m2 ?_) | (with_reducible refine gO_i at_3 ?_) | (with_reducible refine gO_i at_m3 ?_) | (with_reducible refine gO_i at_4 ?_) | (with_reducible refine gO_i at_m4 ?_) | (with_reducible refine gO_i at_5 ?_) | (with_reducible refine gO_i at_m5 ?_) | (with_reducible refine gO_i at_6 ?_) | (with_reducible refine gO_i at_m6 ?_) | (with_reducible refine gO_i at_7 ?_) | (with_reducible refine gO_i at_m7 ?_) | (with_reducible refine IfB.ngf ?_) | (with_reducible refine IfB.ngt ?_) | (with_reducible refine IfB.not ?_) | (with_reducible refine IfB.nil ?_) | (with_reducible refine IfB.nilT ?_) | (with_reducible refine IfB.f isE_c ?_) | (with_reducible refine IfB.t isE_n ?_) | (with_reducible refine IfB.t ?gha ?_; (case gha => rfl)) | (with_reducible refine IfB.f ?gha ?_; (case gha => rfl)) | (with_reducible refine IfB.t ?gha ?_; (case gha => assumption)) | (with_reducible refine IfB.f ?gha ?_; (case gha => assumption)) | (with_reducible refine IfB.yes (Eq.refl _) ?_) | (with_reducible refine IfB.yes ?gha ?_; (case gha => (first | omega | (simp only [len_c, len_n, List.length_map]; omega)))) | (with_reducible refine IfB.no ?gha ?_; (case gha => (first | omega | (simp only [len_c, len_n, List.length_map]; omega)))) | (with_reducible refine IfB.t ?gha ?_; (case gha => decide +kernel)) | (with_reducible refine IfB.f ?gha ?_; (case gha => decide +kernel))); (with_reducible (conv => whnf))))))
local macro_rules
  | `(tactic| decreasing_trivial_pre_omega) => `(tactic| (decreasing_trivial; (repeat ((first | ((with_reducible refine And.intro ?gha ?_); (case gha => (first | assumption | omega | exact rfl | (exact mset_same) | (exact ⟨_, mset_same⟩) | (exact Exists.intro _ (by first | exact mset_same | assumption | (rw [mset_ne (by assumption)]; first | exact mset_same | assumption))) | (exact sm_of (by omega) (by omega)) | (exact sz1000 (by first | omega | (simp; done) | (simp; omega))) | (exact Or.inl ⟨by decide, by decide⟩) | decide | (simp; done) | (refine ⟨?_, ?_⟩ <;> (first | assumption | omega | exact rfl | (exact mset_same) | (exact ⟨_, mset_same⟩) | (exact Exists.intro _ (by first | exact mset_same | assumption | (rw [mset_ne (by assumption)]; first | exact mset_same | assumption))) | (exact sm_of (by omega) (by omega)) | (exact sz1000 (by first | omega | (simp; done) | (simp; omega))) | (exact Or.inl ⟨by decide, by decide⟩) | decide | (simp; done))) | (refine ⟨?_, ?_, ?_⟩ <;> (first | assumption | omega | exact rfl | (exact mset_same) | (exact ⟨_, mset_same⟩) | (exact Exists.intro _ (by first | exact mset_same | assumption | (rw [mset_ne (by assumption)]; first | exact mset_same | assumption))) | (exact sm_of (by omega) (by omega)) | (exact sz1000 (by first | omega | (simp; done) | (simp; omega))) | (exact Or.inl ⟨by decide, by decide⟩) | decide | (simp; done))) | (refine ⟨?_, ?_, ?_, ?_⟩ <;> (first | assumption | omega | exact rfl | (exact mset_same) | (exact ⟨_, mset_same⟩) | (exact Exists.intro _ (by first | exact mset_same | assumption | (rw [mset_ne (by assumption)]; first | exact mset_same | assumption))) | (exact sm_of (by omega) (by omega)) | (exact sz1000 (by first | omega | (simp; done) | (simp; omega))) | (exact Or.inl ⟨by decide, by decide⟩) | decide | (simp; done)))))) | (with_reducible refine exW (by first | exact mset_same | assumption | (rw [mset_ne (by assumption)]; first | exact mset_same | assumption)) ?_)); decreasing_trivial))))
structure Cls (K : PySem.W.Frag) (mg : Str → Option Value) where
  c_TreeError : Addr
  c_NoThing : Addr
  c_NoFit : Addr
  c_Cut : Addr
  c_NoTree : Addr
  c_NoPath : Addr
  c_NoText : Addr
  c_NoNumbers : Addr
  c_NoPlace : Addr
  c_Torn : Addr
  c_TextReader : Addr
  c_NumberReader : Addr
  m_TreeError : mg "TreeError" = some (.ref c_TreeError)
  m_NoThing : mg "NoThing" = some (.ref c_NoThing)
  m_NoFit : mg "NoFit" = some (.ref c_NoFit)
  m_Cut : mg "Cut" = some (.ref c_Cut)
  m_NoTree : mg "NoTree" = some (.ref c_NoTree)
  m_NoPath : mg "NoPath" = some (.ref c_NoPath)
  m_NoText : mg "NoText" = some (.ref c_NoText)
  m_NoNumbers : mg "NoNumbers" = some (.ref c_NoNumbers)
  m_NoPlace : mg "NoPlace" = some (.ref c_NoPlace)
  m_Torn : mg "Torn" = some (.ref c_Torn)
  m_TextReader : mg "TextReader" = some (.ref c_TextReader)
  m_NumberReader : mg "NumberReader" = some (.ref c_NumberReader)
  e_NoTree : Er K mg "NoTree" c_NoTree
  x_NoTree : ExcC K c_NoTree
  v_NoTree : PySem.W.kitOne K (.ref c_NoTree) (.type "ValueError") = some true
  k_NoTree_TreeError : PySem.W.kitOne K (.ref c_NoTree) (.ref c_TreeError) = some true
  k_NoTree_NoThing : PySem.W.kitOne K (.ref c_NoTree) (.ref c_NoThing) = some true
  k_NoTree_NoFit : PySem.W.kitOne K (.ref c_NoTree) (.ref c_NoFit) = some false
  k_NoTree_Cut : PySem.W.kitOne K (.ref c_NoTree) (.ref c_Cut) = some false
  k_NoTree_NoTree : PySem.W.kitOne K (.ref c_NoTree) (.ref c_NoTree) = some true
  k_NoTree_NoPath : PySem.W.kitOne K (.ref c_NoTree) (.ref c_NoPath) = some false
  k_NoTree_NoText : PySem.W.kitOne K (.ref c_NoTree) (.ref c_NoText) = some false
  k_NoTree_NoNumbers : PySem.W.kitOne K (.ref c_NoTree) (.ref c_NoNumbers) = some false
  k_NoTree_NoPlace : PySem.W.kitOne K (.ref c_NoTree) (.ref c_NoPlace) = some false
  k_NoTree_Torn : PySem.W.kitOne K (.ref c_NoTree) (.ref c_Torn) = some false
  k_NoTree_TextReader : PySem.W.kitOne K (.ref c_NoTree) (.ref c_TextReader) = some false
  k_NoTree_NumberReader : PySem.W.kitOne K (.ref c_NoTree) (.ref c_NumberReader) = some false
  e_NoPath : Er K mg "NoPath" c_NoPath
  x_NoPath : ExcC K c_NoPath
  v_NoPath : PySem.W.kitOne K (.ref c_NoPath) (.type "ValueError") = some true
  k_NoPath_TreeError : PySem.W.kitOne K (.ref c_NoPath) (.ref c_TreeError) = some true
  k_NoPath_NoThing : PySem.W.kitOne K (.ref c_NoPath) (.ref c_NoThing) = some true
  k_NoPath_NoFit : PySem.W.kitOne K (.ref c_NoPath) (.ref c_NoFit) = some false
  k_NoPath_Cut : PySem.W.kitOne K (.ref c_NoPath) (.ref c_Cut) = some false
  k_NoPath_NoTree : PySem.W.kitOne K (.ref c_NoPath) (.ref c_NoTree) = some false
  k_NoPath_NoPath : PySem.W.kitOne K (.ref c_NoPath) (.ref c_NoPath) = some true
  k_NoPath_NoText : PySem.W.kitOne K (.ref c_NoPath) (.ref c_NoText) = some false
  k_NoPath_NoNumbers : PySem.W.kitOne K (.ref c_NoPath) (.ref c_NoNumbers) = some false
  k_NoPath_NoPlace : PySem.W.kitOne K (.ref c_NoPath) (.ref c_NoPlace) = some false
  k_NoPath_Torn : PySem.W.kitOne K (.ref c_NoPath) (.ref c_Torn) = some false
  k_NoPath_TextReader : PySem.W.kitOne K (.ref c_NoPath) (.ref c_TextReader) = some false
  k_NoPath_NumberReader : PySem.W.kitOne K (.ref c_NoPath) (.ref c_NumberReader) = some false
  e_NoText : Er K mg "NoText" c_NoText
  x_NoText : ExcC K c_NoText
  v_NoText : PySem.W.kitOne K (.ref c_NoText) (.type "ValueError") = some true
  k_NoText_TreeError : PySem.W.kitOne K (.ref c_NoText) (.ref c_TreeError) = some true
  k_NoText_NoThing : PySem.W.kitOne K (.ref c_NoText) (.ref c_NoThing) = some true
  k_NoText_NoFit : PySem.W.kitOne K (.ref c_NoText) (.ref c_NoFit) = some false
  k_NoText_Cut : PySem.W.kitOne K (.ref c_NoText) (.ref c_Cut) = some false
  k_NoText_NoTree : PySem.W.kitOne K (.ref c_NoText) (.ref c_NoTree) = some false
  k_NoText_NoPath : PySem.W.kitOne K (.ref c_NoText) (.ref c_NoPath) = some false
  k_NoText_NoText : PySem.W.kitOne K (.ref c_NoText) (.ref c_NoText) = some true
  k_NoText_NoNumbers : PySem.W.kitOne K (.ref c_NoText) (.ref c_NoNumbers) = some false
  k_NoText_NoPlace : PySem.W.kitOne K (.ref c_NoText) (.ref c_NoPlace) = some false
  k_NoText_Torn : PySem.W.kitOne K (.ref c_NoText) (.ref c_Torn) = some false
  k_NoText_TextReader : PySem.W.kitOne K (.ref c_NoText) (.ref c_TextReader) = some false
  k_NoText_NumberReader : PySem.W.kitOne K (.ref c_NoText) (.ref c_NumberReader) = some false
  e_NoNumbers : Er K mg "NoNumbers" c_NoNumbers
  x_NoNumbers : ExcC K c_NoNumbers
  v_NoNumbers : PySem.W.kitOne K (.ref c_NoNumbers) (.type "ValueError") = some true
  k_NoNumbers_TreeError : PySem.W.kitOne K (.ref c_NoNumbers) (.ref c_TreeError) = some true
  k_NoNumbers_NoThing : PySem.W.kitOne K (.ref c_NoNumbers) (.ref c_NoThing) = some true
  k_NoNumbers_NoFit : PySem.W.kitOne K (.ref c_NoNumbers) (.ref c_NoFit) = some false
  k_NoNumbers_Cut : PySem.W.kitOne K (.ref c_NoNumbers) (.ref c_Cut) = some false
  k_NoNumbers_NoTree : PySem.W.kitOne K (.ref c_NoNumbers) (.ref c_NoTree) = some false
  k_NoNumbers_NoPath : PySem.W.kitOne K (.ref c_NoNumbers) (.ref c_NoPath) = some false
  k_NoNumbers_NoText : PySem.W.kitOne K (.ref c_NoNumbers) (.ref c_NoText) = some false
  k_NoNumbers_NoNumbers : PySem.W.kitOne K (.ref c_NoNumbers) (.ref c_NoNumbers) = some true
  k_NoNumbers_NoPlace : PySem.W.kitOne K (.ref c_NoNumbers) (.ref c_NoPlace) = some false
  k_NoNumbers_Torn : PySem.W.kitOne K (.ref c_NoNumbers) (.ref c_Torn) = some false
  k_NoNumbers_TextReader : PySem.W.kitOne K (.ref c_NoNumbers) (.ref c_TextReader) = some false
  k_NoNumbers_NumberReader : PySem.W.kitOne K (.ref c_NoNumbers) (.ref c_NumberReader) = some false
  e_NoPlace : ErF K mg "NoPlace" "NoPlace.__init__" "path" sI_NoPlace c_NoPlace
  x_NoPlace : ExcC K c_NoPlace
  v_NoPlace : PySem.W.kitOne K (.ref c_NoPlace) (.type "ValueError") = some true
  k_NoPlace_TreeError : PySem.W.kitOne K (.ref c_NoPlace) (.ref c_TreeError) = some true
  k_NoPlace_NoThing : PySem.W.kitOne K (.ref c_NoPlace) (.ref c_NoThing) = some false
  k_NoPlace_NoFit : PySem.W.kitOne K (.ref c_NoPlace) (.ref c_NoFit) = some true
  k_NoPlace_Cut : PySem.W.kitOne K (.ref c_NoPlace) (.ref c_Cut) = some false
  k_NoPlace_NoTree : PySem.W.kitOne K (.ref c_NoPlace) (.ref c_NoTree) = some false
  k_NoPlace_NoPath : PySem.W.kitOne K (.ref c_NoPlace) (.ref c_NoPath) = some false
  k_NoPlace_NoText : PySem.W.kitOne K (.ref c_NoPlace) (.ref c_NoText) = some false
  k_NoPlace_NoNumbers : PySem.W.kitOne K (.ref c_NoPlace) (.ref c_NoNumbers) = some false
  k_NoPlace_NoPlace : PySem.W.kitOne K (.ref c_NoPlace) (.ref c_NoPlace) = some true
  k_NoPlace_Torn : PySem.W.kitOne K (.ref c_NoPlace) (.ref c_Torn) = some false
  k_NoPlace_TextReader : PySem.W.kitOne K (.ref c_NoPlace) (.ref c_TextReader) = some false
  k_NoPlace_NumberReader : PySem.W.kitOne K (.ref c_NoPlace) (.ref c_NumberReader) = some false
  e_Torn : ErF K mg "Torn" "Torn.__init__" "at" sI_Torn c_Torn
  x_Torn : ExcC K c_Torn
  v_Torn : PySem.W.kitOne K (.ref c_Torn) (.type "ValueError") = some true
  k_Torn_TreeError : PySem.W.kitOne K (.ref c_Torn) (.ref c_TreeError) = some true
  k_Torn_NoThing : PySem.W.kitOne K (.ref c_Torn) (.ref c_NoThing) = some false
  k_Torn_NoFit : PySem.W.kitOne K (.ref c_Torn) (.ref c_NoFit) = some false
  k_Torn_Cut : PySem.W.kitOne K (.ref c_Torn) (.ref c_Cut) = some true
  k_Torn_NoTree : PySem.W.kitOne K (.ref c_Torn) (.ref c_NoTree) = some false
  k_Torn_NoPath : PySem.W.kitOne K (.ref c_Torn) (.ref c_NoPath) = some false
  k_Torn_NoText : PySem.W.kitOne K (.ref c_Torn) (.ref c_NoText) = some false
  k_Torn_NoNumbers : PySem.W.kitOne K (.ref c_Torn) (.ref c_NoNumbers) = some false
  k_Torn_NoPlace : PySem.W.kitOne K (.ref c_Torn) (.ref c_NoPlace) = some false
  k_Torn_Torn : PySem.W.kitOne K (.ref c_Torn) (.ref c_Torn) = some true
  k_Torn_TextReader : PySem.W.kitOne K (.ref c_Torn) (.ref c_TextReader) = some false
  k_Torn_NumberReader : PySem.W.kitOne K (.ref c_Torn) (.ref c_NumberReader) = some false
/-- what the top says of the reader's class -/
structure TxR (K : PySem.W.Frag) (C : Addr) where
  rd : RtC K C
  f0 : Addr
  d0 : FuncData
  F0 : Fun K "__init__" "TextReader.__init__" sInitT f0 d0
  made : L2.Mk K C f0
  f1 : Addr
  d1 : FuncData
  F1 : Fun K "comes" "TextReader.comes" sComes f1 d1
  m1 : L2.Meth K C "comes" f1
  f2 : Addr
  d2 : FuncData
  F2 : Fun K "read_tag" "TextReader.read_tag" sRdTg f2 d2
  m2 : L2.Meth K C "read_tag" f2
  f3 : Addr
  d3 : FuncData
  F3 : Fun K "read_part" "TextReader.read_part" sRdP f3 d3
  m3 : L2.Meth K C "read_part" f3
theorem ok_tinR {P : Program} {w : World} {K : PySem.W.Frag} {mg : Str → Option Value} {base : Heap} {f : Addr} {fd : FuncData} {k : Nat} (F : Fun K "tree_in" "tree_in" sTin f fd) (A : Cls K mg) (R : TxR K A.c_TextReader) (hk : 30 ≤ k) (T : Bl mg) (Cs' : Cs mg) (CL : ∃ t, mg "LETTERS" = some (.str lettersS t)) : FnOk P w K mg base (L2.CX P w) (k + 1) f fd ["text"] (spD K 1 (tfTin A.c_NoText A.c_Torn)) := by
  have U0 : UseC P w K mg base A.c_TextReader "TextReader" ["self", "text"] 25 (spD K 2 (tfInitT A.c_TextReader)) := ⟨R.f0, R.d0, ok_initT (k := 24) R.F0 R.rd, R.made, A.m_TextReader, R.F0.binds (ps := ["self", "text"]) fun _ _ _ _ _ _ us hl => match us, hl with | [_, _], _ => rfl⟩
  have U1 : UseM P w K mg base A.c_TextReader "comes" ["self", "sign"] 13 (spD K 2 (tfComes A.c_TextReader)) := ⟨R.f1, R.d1, ok_comes (k := 12) R.F1 R.rd, R.m1, R.F1.binds (ps := ["self", "sign"]) fun _ _ _ _ _ _ us hl => match us, hl with | [_, _], _ => rfl⟩
  have U2 : UseMX P w K mg base A.c_TextReader "read_tag" ["self"] 13 (spD K 1 (tfRdTg A.c_TextReader A.c_Torn)) := ⟨R.f2, R.d2, ok_rdTg (k := 12) R.F2 R.rd A.e_Torn (by decide) T Cs' CL, R.m2, R.F2.binds (ps := ["self"]) fun _ _ _ _ _ _ us hl => match us, hl with | [_], _ => rfl⟩
  have U3 : UseMX P w K mg base A.c_TextReader "read_part" ["self", "level"] 25 (spD K 2 (tfRdP A.c_TextReader A.c_Torn 12)) := ⟨R.f3, R.d3, ok_rdP (j := 13) R.F3 R.m3 R.rd A.e_Torn U1 U2 (by decide) T Cs' 12, R.m3, R.F3.binds (ps := ["self", "level"]) fun _ _ _ _ _ _ us hl => match us, hl with | [_, _], _ => rfl⟩
  exact ok_tin F A.e_NoText A.e_Torn R.rd U0 U3 (by omega) (by omega) T
structure RdT (K : PySem.W.Frag) (C : Addr) where
  rd : RdC K C
  f0 : Addr
  d0 : FuncData
  F0 : Fun K "__init__" "NumberReader.__init__" sInitR f0 d0
  made : L2.Mk K C f0
  f1 : Addr
  d1 : FuncData
  F1 : Fun K "read_number" "NumberReader.read_number" sRdNum f1 d1
  m1 : L2.Meth K C "read_number" f1
  f2 : Addr
  d2 : FuncData
  F2 : Fun K "read_tag" "NumberReader.read_tag" sRdTag f2 d2
  m2 : L2.Meth K C "read_tag" f2
  f3 : Addr
  d3 : FuncData
  F3 : Fun K "read_part" "NumberReader.read_part" sRdPart f3 d3
  m3 : L2.Meth K C "read_part" f3
theorem ok_tonR {P : Program} {w : World} {K : PySem.W.Frag} {mg : Str → Option Value} {base : Heap} {f : Addr} {fd : FuncData} {k : Nat} (F : Fun K "tree_of_numbers" "tree_of_numbers" sTon f fd) (A : Cls K mg) (R : RdT K A.c_NumberReader) (Uis_number : Use P w K mg base "is_number" ["thing", "most"] 2 (spD K 2 (tfB2 isNum))) (hk : 30 ≤ k) (T : Bl mg) (Cs' : Cs mg) (CL : ∃ t, mg "LETTERS" = some (.str lettersS t)) : FnOk P w K mg base (L2.CX P w) (k + 1) f fd ["numbers"] (spD K 1 (tfTon A.c_NoNumbers A.c_Torn)) := by
  have U0 : UseC P w K mg base A.c_NumberReader "NumberReader" ["self", "numbers"] 25 (spD K 2 (tfInitR A.c_NumberReader)) := ⟨R.f0, R.d0, ok_initR (k := 24) R.F0 R.rd, R.made, A.m_NumberReader, R.F0.binds (ps := ["self", "numbers"]) fun _ _ _ _ _ _ us hl => match us, hl with | [_, _], _ => rfl⟩
  have U1 : UseMX P w K mg base A.c_NumberReader "read_number" ["self", "low", "high"] 11 (spD K 3 (tfRdNum A.c_NumberReader A.c_Torn)) := ⟨R.f1, R.d1, ok_rdNum (k := 10) R.F1 R.rd A.e_Torn Uis_number (by decide) (by decide) T, R.m1, R.F1.binds (ps := ["self", "low", "high"]) fun _ _ _ _ _ _ us hl => match us, hl with | [_, _, _], _ => rfl⟩
  have U1b : UseMX P w K mg base A.c_NumberReader "read_number" ["self", "low", "high"] 13 (spD K 3 (tfRdNum A.c_NumberReader A.c_Torn)) := ⟨R.f1, R.d1, ok_rdNum (k := 12) R.F1 R.rd A.e_Torn Uis_number (by decide) (by decide) T, R.m1, R.F1.binds (ps := ["self", "low", "high"]) fun _ _ _ _ _ _ us hl => match us, hl with | [_, _, _], _ => rfl⟩
  have U2 : UseMX P w K mg base A.c_NumberReader "read_tag" ["self"] 13 (spD K 1 (tfRdTag A.c_NumberReader A.c_Torn)) := ⟨R.f2, R.d2, ok_rdTag (k := 12) R.F2 R.rd U1 (by decide) T Cs' CL, R.m2, R.F2.binds (ps := ["self"]) fun _ _ _ _ _ _ us hl => match us, hl with | [_], _ => rfl⟩
  have U3 : UseMX P w K mg base A.c_NumberReader "read_part" ["self", "level"] 25 (spD K 2 (tfRdPart A.c_NumberReader A.c_Torn 12)) := ⟨R.f3, R.d3, ok_rdPart (j := 13) R.F3 R.m3 R.rd U1b U2 T Cs' 12, R.m3, R.F3.binds (ps := ["self", "level"]) fun _ _ _ _ _ _ us hl => match us, hl with | [_, _], _ => rfl⟩
  exact ok_ton F A.e_NoNumbers A.e_Torn R.rd U0 U3 (by omega) (by omega) T
structure Calls (P : Program) (w : World) (K : PySem.W.Frag) (mg : Str → Option Value) (base : Heap) (A : Cls K mg) where
  j : Nat
  hj : j ≤ 100
  tree : Use P w K mg base "_law_tree" ["_law_state", "_law_most"] j (spD K 2 (tfTreeS false))
  take : Use P w K mg base "_law_take" ["_law_state", "_law_below"] j (spD K 2 (tfNext false))
  places : Use P w K mg base "_law_places" ["_law_tree_here"] j (spD K 1 tfPlcsD)
  text : Use P w K mg base "_law_text" ["_law_tree_here"] j (spD K 1 (tfLTx 12))
  numbers : Use P w K mg base "_law_numbers" ["_law_tree_here"] j (spD K 1 tfLNmD)
  begins : Use P w K mg base "_law_begins" ["_law_tree_here", "_law_path"] j (spD K 2 tfLBg)
  txo : UseX P w K mg base "text_of" ["tree"] j (spD K 1 (tfTxO A.c_NoTree))
  sent : UseX P w K mg base "sent_numbers" ["tree"] j (spD K 1 (tfSent A.c_NoTree))
  tin : UseX P w K mg base "tree_in" ["text"] j (spD K 1 (tfTin A.c_NoText A.c_Torn))
  ton : UseX P w K mg base "tree_of_numbers" ["numbers"] j (spD K 1 (tfTon A.c_NoNumbers A.c_Torn))
  span : UseX P w K mg base "span" ["tree", "path"] j (spD K 2 (tfSpan bgT fun e => (txS e).length))
  spanN : UseX P w K mg base "span_of_numbers" ["tree", "path"] j (spD K 2 (tfSpan bgN fun e => (nums e).length))
theorem eqv_ls {n m : Nat} (hf : ∀ {k l : PyData}, TrT n k → TrT m l → PyData.eqv k l = true → k = l) : ∀ {ks ls : List PyData}, (∀ k ∈ ks, TrT n k) → (∀ k ∈ ls, TrT m k) → PyData.eqvAll ks ls = true → ks = ls
  | [], [], _, _, _ => rfl
  | [], _ :: _, _, _, e => by rw [PyData.eqvAll] at e; cases e
  | _ :: _, [], _, _, e => by rw [PyData.eqvAll] at e; cases e
  | k :: ks, l :: ls, hk, hl, e => by
    rw [PyData.eqvAll, Bool.and_eq_true] at e
    rw [hf (hk k (.head _)) (hl l (.head _)) e.1, eqv_ls hf (fun x hx => hk x (.tail _ hx)) (fun x hx => hl x (.tail _ hx)) e.2]
theorem eqv_tr : ∀ {n m : Nat} {a b : PyData}, TrT n a → TrT m b → PyData.eqv a b = true → a = b
  | 0, _, _, _, h, _, _ => h.elim
  | _ + 1, 0, _, _, _, h, _ => h.elim
  | n + 1, m + 1, a, b, ha, hb, e => by
    obtain ⟨s, ks, rfl, _, hk⟩ := ha
    obtain ⟨t, ls, rfl, _, hl⟩ := hb
    rw [PyData.eqv, PyData.eqvAll, PyData.eqvAll, PyData.eqv, PyData.eqv, PyData.eqvAll] at e
    simp only [Bool.and_eq_true] at e
    have e1 : s = t := eq_of_beq e.1
    rw [e1, eqv_ls (fun {k l} => eqv_tr (n := n) (m := m) (a := k) (b := l)) hk hl e.2.1]
section
variable {P : Program} {w : World} {K : PySem.W.Frag} {mg : Str → Option Value} {base : Heap}
theorem trees_of {K : PyData → Prop} : ∀ {ys : List W}, (∀ y ∈ ys, ∃ t, y = .d t ∧ K t) → ∃ ts : List PyData, ys = ts.map W.d ∧ ∀ t ∈ ts, K t
  | [], _ => ⟨[], rfl, fun t h => by cases h⟩
  | y :: ys, h => by
    obtain ⟨t, rfl, ht⟩ := h y (.head _)
    obtain ⟨ts, rfl, hts⟩ := trees_of fun z hz => h z (.tail _ hz)
    refine ⟨t :: ts, rfl, fun z hz => ?_⟩
    rcases List.mem_cons.mp hz with e | e
    · rw [e]; exact ht
    · exact hts z e
theorem txA_app (a b : List PyData) : txA (a ++ b) = txA a ++ txA b := by
  induction a with
  | nil => rw [txA]; rfl
  | cons x r ih => rw [List.cons_append, txA, txA, ih, List.cons_append, List.append_assoc]
theorem take_get {ks : List PyData} {i : Nat} {k : PyData} (h : ks[i]? = some k) : ks = ks.take i ++ k :: ks.drop (i + 1) := by
  obtain ⟨hi, rfl⟩ := List.getElem?_eq_some_iff.mp h
  rw [← List.drop_eq_getElem_cons hi, List.take_append_drop]
theorem bgT_le : ∀ {n : Nat} {d e : PyData} {q : List Nat}, TrT n d → sub d q = some e → bgT d q + (txS e).length ≤ (txS d).length
  | 0, _, _, _, h, _ => h.elim
  | n + 1, d, e, q, h, hs => by
    obtain ⟨s, ks, rfl, _, hk⟩ := h
    cases q with
    | nil => rw [sub_nil] at hs; cases hs; rw [bgT_nil]; omega
    | cons i q =>
      rw [sub_node] at hs
      cases c : ks[i]? with
      | none => rw [c] at hs; cases hs
      | some k =>
        rw [c] at hs
        have ih := bgT_le (hk k (List.mem_of_getElem? c)) hs
        have e1 : (txA ks).length = (txA (ks.take i ++ k :: ks.drop (i + 1))).length := congrArg (fun l => (txA l).length) (take_get c)
        rw [txA_app, txA, List.length_append, List.length_cons, List.length_append] at e1
        have e2 : s.cps.toList.length = s.length := by rw [Array.length_toList]; rfl
        rw [bgT, c]
        dsimp only
        cases ks with
        | nil => cases c
        | cons k0 ks =>
          rw [txS]
          rw [txA, List.length_cons, List.length_append] at e1
          rw [List.length_append, List.length_cons, List.length_append, List.length_append, List.length_singleton, e2]
          omega
theorem bgN_le : ∀ {n : Nat} {d e : PyData} {q : List Nat}, TrT n d → sub d q = some e → bgN d q + (nums e).length ≤ (nums d).length
  | 0, _, _, _, h, _ => h.elim
  | n + 1, d, e, q, h, hs => by
    obtain ⟨s, ks, rfl, _, hk⟩ := h
    cases q with
    | nil => rw [sub_nil] at hs; cases hs; rw [bgN_nil]; omega
    | cons i q =>
      rw [sub_node] at hs
      cases c : ks[i]? with
      | none => rw [c] at hs; cases hs
      | some k =>
        rw [c] at hs
        have ih := bgN_le (hk k (List.mem_of_getElem? c)) hs
        have e1 : (numsAll ks).length = (numsAll (ks.take i ++ k :: ks.drop (i + 1))).length := congrArg (fun l => (numsAll l).length) (take_get c)
        rw [numsAll_app, numsAll, List.length_append, List.length_append] at e1
        have e2 : s.cps.toList.length = s.length := by rw [Array.length_toList]; rfl
        rw [bgN, c, nums, List.length_append, List.length_cons, List.length_cons, List.length_map, e2]
        dsimp only
        omega
theorem sh_tx {t : PyData} (h : TrT 12 t) (hn : nn t ≤ 60) : ((PyData.str (Str.mk (txS t).toArray)).hasDict = false ∨ PyData.str (Str.mk (txS t).toArray) = .dict []) ∧ shOk (.str (Str.mk (txS t).toArray)) :=
  (GdB.of (gk_str (m := 10004) (k := 0) (by have := txS_len h; rw [len_mk]; omega) (txS_str h) (by have := txS_len h; rw [len_mk]; omega)) (by decide) (by decide)).sh
theorem gk_nm {t : PyData} (h : TrT 12 t) (hn : nn t ≤ 60) : Gk 1500000 1 (.tuple (nums t)) :=
  (Gks.ofL (n := 600) (m' := 1400000) (fun x hx => by obtain ⟨i, hi, rfl⟩ := nums_int h hn x hx; exact gk_i (k := 0) (by omega) (by omega)) (by have := nums_len h; omega) (by decide)).tup (by decide)
theorem sh_nm {t : PyData} (h : TrT 12 t) (hn : nn t ≤ 60) : ((PyData.tuple (nums t)).hasDict = false ∨ PyData.tuple (nums t) = .dict []) ∧ shOk (.tuple (nums t)) := (GdB.of (gk_nm h hn) (by decide) (by decide)).sh
theorem txt_nm {t : PyData} (h : TrT 12 t) (hn : nn t ≤ 60) : txt (.tuple (nums t)) = true := (GdB.of (gk_nm h hn) (by decide) (by decide)).txt
theorem txt_tx {t : PyData} (h : TrT 12 t) (hn : nn t ≤ 60) : txt (.str (Str.mk (txS t).toArray)) = true := (GdB.of (gk_str (m := 10004) (k := 0) (by have := txS_len h; rw [len_mk]; omega) (txS_str h) (by have := txS_len h; rw [len_mk]; omega)) (by decide) (by decide)).txt
theorem sh_2 {i j : Int} (h1 : -100000 ≤ i) (h2 : i ≤ 100000) (h3 : -100000 ≤ j) (h4 : j ≤ 100000) : ((PyData.tuple [.int i, .int j]).hasDict = false ∨ PyData.tuple [.int i, .int j] = .dict []) ∧ shOk (.tuple [.int i, .int j]) :=
  (GdB.of ((Gks.cons (gk_i (k := 0) h1 h2) (Gks.cons (gk_i h3 h4) Gks.nil (m' := 0) (m'' := 1940) (by decide)) (m'' := 3900) (by decide)).tup (m' := 4000) (by decide)) (by decide) (by decide)).sh
abbrev sLaw : Stmt := top 46
theorem scLaw : FnScope ["_law_script", "_law_state", "_law_trees", "_law_tree_here", "_law_text_here", "_law_numbers_here", "_law_places_here", "_law_k", "_law_path", "_law_part", "_law_begin", "_law_first"] ["_law_script"] (defScope sLaw) := ⟨rfl, rfl, rfl, by decide +kernel, rfl, by decide +kernel, by decide +kernel⟩
theorem ok_law {f : Addr} {fd : FuncData} {s : Shared} {H : Hp} {a : Addr} {ns : List Int} (F : Fun K "law" "law" sLaw f fd) (T : Bl mg) {A : Cls K mg} (U : Calls P w K mg base A) (hlen : ns.length ≤ 63) (hS : SqL K H a (ns.map V.int)) (e0 : Env0 P w K mg base callerA [] s H) :
    codeAny (model P w) callerA (.call (.ref f) ⟨[.ref a], []⟩) (CR CX0 [] P w H s (fun v _ => v = V.bl true) fun _ _ _ => False) s := by
  obtain ⟨j, hj, U_law_tree, U_law_take, U_law_places, U_law_text, U_law_numbers, U_law_begins, Utext_of, Usent_numbers, Utree_in, Utree_of_numbers, Uspan, Uspan_of_numbers⟩ := U
  refine law_at2 (k := 200) (z := 70) F scLaw hlen hS e0 ⟨rfl, by decide, by decide⟩ (F.binds (ps := ["_law_script"]) fun _ _ _ _ _ _ us hl => match us, hl with | [_], _ => rfl) (by decide) (by decide) fun cdv hgu hr => ?_
  have hun : (callerA.deeper (PyProof.Rows.envOfC "law" (defScope sLaw) s.heap.objs.size f cdv)).units + 200 < cLine := by
    have := hr.un
    omega
  refine ⟨_, _, (pss_cons (ps_set (i := 1) scLaw.nd rfl (.inr rfl) (pe_lst (pa_cons (pv 0) (pa_cons pe_int (pa_cons pe_int (pa_cons pe_int pa_nil))))))
    (pss_cons (ps_setLc (i := 2) (own := [("_law_k", 7)]) (g := gName 7) (tt := tYes) (by rfl) scLaw.nd rfl rfl (sw_true rfl rfl rfl (by decide +kernel)) (pi_range1 (by rfl) T.range (pa_cons pe_int pa_nil)) (blkOk_by (N := ["_law_script", "_law_state", "_law_trees", "_law_tree_here", "_law_text_here", "_law_numbers_here", "_law_places_here", "_law_k", "_law_path", "_law_part", "_law_begin", "_law_first"]) (sc := defScope sLaw) (own := [("_law_k", 7)]) (by decide +kernel)) (fun _ _ _ _ _ => pg_name (i := 7) scLaw.nd rfl (Or.inl rfl)) (fun _ _ _ _ _ => pts_nil) (fun _ _ _ _ _ => (pe_call U_law_tree.ok (hr.mono (by omega)) rfl U_law_tree.m U_law_tree.kp U_law_tree.b .nil pass0 (pa_cons (pv 1) (pa_cons (pe_ix ix_list (pe_lst (pa_cons pe_int (pa_cons pe_int (pa_cons pe_int pa_nil)))) (pe_call U_law_take.ok (hr.mono (by omega)) rfl U_law_take.m U_law_take.kp U_law_take.b .nil pass0 (pa_cons (pv 1) (pa_cons pe_int pa_nil))) (fun _ _ => rfl)) pa_nil)))))
    (pss_cons (ps_expr (pe_bm PySem.F.plainAttrs_list PySem.F.slot_list_append PySem.F.type_list_append mt_append (pv 2) (pa_cons (pe_ix ix_list (pe_lst (pa_cons (pe_ix ix_list (pv 2) pe_int (fun _ _ => rfl)) (pa_cons (pe_tup (pa_cons (pe_ix ix_tup (pe_ix ix_list (pv 2) pe_int (fun _ _ => rfl)) pe_int (fun _ _ => rfl)) (pa_cons (pe_slice sl_tupA (pe_ix ix_tup (pe_ix ix_list (pv 2) pe_int (fun _ _ => rfl)) pe_int (fun _ _ => rfl)) (po_some pe_int) po_none) pa_nil))) pa_nil))) (pe_call U_law_take.ok (hr.mono (by omega)) rfl U_law_take.m U_law_take.kp U_law_take.b .nil pass0 (pa_cons (pv 1) (pa_cons pe_int pa_nil))) (fun _ _ => rfl)) pa_nil)))
    (pss_cons (ps_for PassesOwn.never rfl (pi_list (pv 2)) (pg_name (i := 3) scLaw.nd rfl (.inl rfl)) (pss_cons (ps_set (i := 4) scLaw.nd rfl (.inl rfl) (pe_callS Utext_of.ok (hr.mono (by omega)) rfl Utext_of.m Utext_of.kp Utext_of.b (fun σ => passAt takes0 σ) (pa_cons (pv 3) pa_nil)))
      (pss_cons (ps_set (i := 5) scLaw.nd rfl (.inl rfl) (pe_callS Usent_numbers.ok (hr.mono (by omega)) rfl Usent_numbers.m Usent_numbers.kp Usent_numbers.b (fun σ => passAt takes0 σ) (pa_cons (pv 3) pa_nil)))
      (pss_cons (ps_if (PW.pt (pw_or (pt_cmpR op_ne (pe_callB (call_reprD hgu hun) (by rfl) T.repr PyProof.Rows.boot_repr (pa_cons (pv 4) pa_nil)) (pe_callB (call_reprD hgu hun) (by rfl) T.repr PyProof.Rows.boot_repr (pa_cons (pe_call U_law_text.ok (hr.mono (by omega)) rfl U_law_text.m U_law_text.kp U_law_text.b .nil pass0 (pa_cons (pv 3) pa_nil)) pa_nil)) (nomark _)) (pw_or1 (pt_cmpR op_ne (pe_callB (call_reprD hgu hun) (by rfl) T.repr PyProof.Rows.boot_repr (pa_cons (pv 5) pa_nil)) (pe_callB (call_reprD hgu hun) (by rfl) T.repr PyProof.Rows.boot_repr (pa_cons (pe_callTy call_tuple_of (by rfl) T.tuple PyProof.Rows.boot_tuple (pa_cons (pe_call U_law_numbers.ok (hr.mono (by omega)) rfl U_law_numbers.m U_law_numbers.kp U_law_numbers.b .nil pass0 (pa_cons (pv 3) pa_nil)) pa_nil)) pa_nil)) (nomark _))))) (pss_one (ps_ret pe_bl)) pss_nil)
      (pss_cons (ps_if (PW.pt (pw_or (pt_cmpR op_ne (pe_callB (call_reprD hgu hun) (by rfl) T.repr PyProof.Rows.boot_repr (pa_cons (pe_callS Utree_in.ok (hr.mono (by omega)) rfl Utree_in.m Utree_in.kp Utree_in.b (fun σ => passAt takes0 σ) (pa_cons (pv 4) pa_nil)) pa_nil)) (pe_callB (call_reprD hgu hun) (by rfl) T.repr PyProof.Rows.boot_repr (pa_cons (pv 3) pa_nil)) (nomark _)) (pw_or1 (pt_cmpR op_ne (pe_callB (call_reprD hgu hun) (by rfl) T.repr PyProof.Rows.boot_repr (pa_cons (pe_callS Utree_of_numbers.ok (hr.mono (by omega)) rfl Utree_of_numbers.m Utree_of_numbers.kp Utree_of_numbers.b (fun σ => passAt takes0 σ) (pa_cons (pv 5) pa_nil)) pa_nil)) (pe_callB (call_reprD hgu hun) (by rfl) T.repr PyProof.Rows.boot_repr (pa_cons (pv 3) pa_nil)) (nomark _))))) (pss_one (ps_ret pe_bl)) pss_nil)
      (pss_cons (ps_if (pt_cmpR op_ne (pe_cmpR op_eq (pv 4) (pe_callS Utext_of.ok (hr.mono (by omega)) rfl Utext_of.m Utext_of.kp Utext_of.b (fun σ => passAt takes0 σ) (pa_cons (pe_ix ix_list (pv 2) pe_int (fun _ _ => rfl)) pa_nil)) (nomark _)) (pe_cmpR (op_eqD hr.units) (pv 3) (pe_ix ix_list (pv 2) pe_int (fun _ _ => rfl)) (nomark _)) (nomark _)) (pss_one (ps_ret pe_bl)) pss_nil)
      (pss_cons (ps_set (i := 6) scLaw.nd rfl (.inl rfl) (pe_call U_law_places.ok (hr.mono (by omega)) rfl U_law_places.m U_law_places.kp U_law_places.b .nil pass0 (pa_cons (pv 3) pa_nil)))
      (pss_one (ps_for PassesOwn.never rfl (pi_range1 (by rfl) T.range (pa_cons pe_int pa_nil)) (pg_name (i := 7) scLaw.nd rfl (.inl rfl)) (pss_cons (ps_asg (pe_ix ix_list (pv 6) (pe_call U_law_take.ok (hr.mono (by omega)) rfl U_law_take.m U_law_take.kp U_law_take.b .nil pass0 (pa_cons (pv 1) (pa_cons (pe_callB call_len_seq (by rfl) T.len PySem.boot_len (pa_cons (pv 6) pa_nil)) pa_nil))) (fun _ _ => rfl)) (pg_tup rfl (pgs_cons (pg_name (i := 8) scLaw.nd rfl (.inl rfl)) (pgs_cons (pg_name (i := 9) scLaw.nd rfl (.inl rfl)) pgs_nil))))
        (pss_cons (ps_asg (pe_call U_law_begins.ok (hr.mono (by omega)) rfl U_law_begins.m U_law_begins.kp U_law_begins.b .nil pass0 (pa_cons (pv 3) (pa_cons (pv 8) pa_nil))) (pg_tup rfl (pgs_cons (pg_name (i := 10) scLaw.nd rfl (.inl rfl)) (pgs_cons (pg_name (i := 11) scLaw.nd rfl (.inl rfl)) pgs_nil))))
        (pss_cons (ps_if (pt_cmpR op_ne (pe_callB (call_reprD hgu hun) (by rfl) T.repr PyProof.Rows.boot_repr (pa_cons (pe_callS Uspan.ok (hr.mono (by omega)) rfl Uspan.m Uspan.kp Uspan.b (fun σ => passAt takes0 σ) (pa_cons (pv 3) (pa_cons (pv 8) pa_nil))) pa_nil)) (pe_callB (call_reprD hgu hun) (by rfl) T.repr PyProof.Rows.boot_repr (pa_cons (pe_tup (pa_cons (pv 10) (pa_cons (pe_op op_add (pv 10) (pe_callB call_len_str (by rfl) T.len PySem.boot_len (pa_cons (pe_call U_law_text.ok (hr.mono (by omega)) rfl U_law_text.m U_law_text.kp U_law_text.b .nil pass0 (pa_cons (pv 9) pa_nil)) pa_nil))) pa_nil))) pa_nil)) (nomark _)) (pss_one (ps_ret pe_bl)) pss_nil)
        (pss_one (ps_if (pt_cmpR op_ne (pe_callB (call_reprD hgu hun) (by rfl) T.repr PyProof.Rows.boot_repr (pa_cons (pe_callS Uspan_of_numbers.ok (hr.mono (by omega)) rfl Uspan_of_numbers.m Uspan_of_numbers.kp Uspan_of_numbers.b (fun σ => passAt takes0 σ) (pa_cons (pv 3) (pa_cons (pv 8) pa_nil))) pa_nil)) (pe_callB (call_reprD hgu hun) (by rfl) T.repr PyProof.Rows.boot_repr (pa_cons (pe_tup (pa_cons (pv 11) (pa_cons (pe_op op_add (pv 11) (pe_callB call_len_seq (by rfl) T.len PySem.boot_len (pa_cons (pe_call U_law_numbers.ok (hr.mono (by omega)) rfl U_law_numbers.m U_law_numbers.kp U_law_numbers.b .nil pass0 (pa_cons (pv 9) pa_nil)) pa_nil))) pa_nil))) pa_nil)) (nomark _)) (pss_one (ps_ret pe_bl)) pss_nil))))))))))))))
    (pss_one (ps_ret pe_bl)))))),
    (ss_cons (ss_set (se_lcL (si_r1 (sa_cons se_int sa_nil)) sg_name st_yes (se_call (sa_cons se_nm (sa_cons (se_op so_ixL (se_lsf (sa_cons se_int (sa_cons se_int (sa_cons se_int sa_nil)))) (se_call (sa_cons se_nm (sa_cons se_int sa_nil)))) sa_nil)))))
    (ss_cons (ss_drop (se_bmL sm_append se_nm (sa_cons (se_op so_ixL (se_lsf (sa_cons (se_op so_ixL se_nm se_int) (sa_cons (se_tup (sa_cons (se_op so_ixT (se_op so_ixL se_nm se_int) se_int) (sa_cons (se_sl sl_T (se_op so_ixT (se_op so_ixL se_nm se_int) se_int) (sp_some se_int) sp_no) sa_nil))) sa_nil))) (se_call (sa_cons se_nm (sa_cons se_int sa_nil)))) sa_nil)))
    (ss_cons (ss_for (si_lst se_nm) sg_name (ss_cons (ss_set (se_callX (sa_cons se_nm sa_nil)))
      (ss_cons (ss_set (se_callX (sa_cons se_nm sa_nil)))
      (ss_cons (ss_if (st_or (st_test (se_op so_neS (se_cb sc_repr (sa_cons se_nm sa_nil)) (se_cb sc_repr (sa_cons (se_call (sa_cons se_nm sa_nil)) sa_nil)))) (st_test (se_op so_neS (se_cb sc_repr (sa_cons se_nm sa_nil)) (se_cb sc_repr (sa_cons (se_cb sc_tuple (sa_cons (se_call (sa_cons se_nm sa_nil)) sa_nil)) sa_nil))))) (ss_ret se_bl) ss_nil)
      (ss_cons (ss_if (st_or (st_test (se_op so_neS (se_cb sc_repr (sa_cons (se_callX (sa_cons se_nm sa_nil)) sa_nil)) (se_cb sc_repr (sa_cons se_nm sa_nil)))) (st_test (se_op so_neS (se_cb sc_repr (sa_cons (se_callX (sa_cons se_nm sa_nil)) sa_nil)) (se_cb sc_repr (sa_cons se_nm sa_nil))))) (ss_ret se_bl) ss_nil)
      (ss_cons (ss_if (st_test (se_op so_neS (se_op so_eqS se_nm (se_callX (sa_cons (se_op so_ixL se_nm se_int) sa_nil))) (se_op so_eqD se_nm (se_op so_ixL se_nm se_int)))) (ss_ret se_bl) ss_nil)
      (ss_cons (ss_set (se_call (sa_cons se_nm sa_nil)))
      (ss_for (si_r1 (sa_cons se_int sa_nil)) sg_name (ss_cons (ss_unp sg_tup2 (se_op so_ixL se_nm (se_call (sa_cons se_nm (sa_cons (se_cb sc_len (sa_cons se_nm sa_nil)) sa_nil)))))
        (ss_cons (ss_unp sg_tup2 (se_call (sa_cons se_nm (sa_cons se_nm sa_nil))))
        (ss_cons (ss_if (st_test (se_op so_neS (se_cb sc_repr (sa_cons (se_callX (sa_cons se_nm (sa_cons se_nm sa_nil))) sa_nil)) (se_cb sc_repr (sa_cons (se_tup (sa_cons se_nm (sa_cons (se_op so_add se_nm (se_cb sc_lenS (sa_cons (se_call (sa_cons se_nm sa_nil)) sa_nil))) sa_nil))) sa_nil)))) (ss_ret se_bl) ss_nil)
        (ss_if (st_test (se_op so_neS (se_cb sc_repr (sa_cons (se_callX (sa_cons se_nm (sa_cons se_nm sa_nil))) sa_nil)) (se_cb sc_repr (sa_cons (se_tup (sa_cons se_nm (sa_cons (se_op so_add se_nm (se_cb sc_len (sa_cons (se_call (sa_cons se_nm sa_nil)) sa_nil))) sa_nil))) sa_nil)))) (ss_ret se_bl) ss_nil))))))))))))
    (ss_ret se_bl)))), fun st M hM => ?_⟩
  simp only [start0, len_c, len_n, map_c, map_n, app_c, app_n, rep_0, rep_s, Nat.reduceAdd, Nat.reduceSub]
  decreasing_trivial_pre_omega
  have okT : ∀ {y : W}, (∃ t, y = .d t ∧ TrT 12 t ∧ nn t ≤ 60) → ∃ t, y = .d t ∧ TrT 12 t ∧ nn t ≤ 60 := fun h => h
  refine lc_any (fun y => ∃ t, y = .d t ∧ TrT 12 t ∧ nn t ≤ 60) trivial _ [] (fun row hrow Rk Rn q => ?_) (sz1000 (by decide)) (fun ys hy1 hy2 => ?_)
  · obtain ⟨i, _, rfl⟩ := List.mem_map.mp hrow
    refine IfB.t rfl ?_
    decreasing_trivial_pre_omega
    intro r0 h00 h01
    decreasing_trivial_pre_omega
    refine gO_atD (fun d => ∃ m : Int, (1 ≤ m ∧ m ≤ 60) ∧ d = .int m) h00 h01 (all1 ⟨20, by decide, rfl⟩ (all1 ⟨20, by decide, rfl⟩ (all1 ⟨60, by decide, rfl⟩ all0))) fun d hd => ?_
    obtain ⟨m, ⟨m0, m1⟩, rfl⟩ := hd
    decreasing_trivial_pre_omega
    intro t ht hn
    exact q _ ⟨t, rfl, ht, by omega⟩
  · rw [List.nil_append]
    obtain ⟨ts, rfl, hts⟩ := trees_of hy2
    have htl : ts.length = 3 := by rw [List.length_map] at hy1; rw [hy1]; rfl
    obtain ⟨t0, hi0⟩ : ∃ t0, ts[0]? = some t0 := ⟨ts[0]'(by omega), List.getElem?_eq_getElem _⟩
    obtain ⟨ht0, hn0⟩ := hts t0 (List.mem_of_getElem? hi0)
    obtain ⟨s0, ks, rfl, hs0, hk0⟩ := id ht0
    have hi0W : atI (ts.map W.d) 0 = some (.d (.tuple [.str s0, .tuple ks])) := atI_nat (j := 0) (by rw [List.getElem?_map, hi0]; rfl)
    have htl2 : (ts.map W.d).length < sizeLine := by rw [List.length_map, htl]; decide
    decreasing_trivial_pre_omega
    intro p hp
    have hMp : ∀ X : MO, mset M p X p = some X := fun X => mset_same
    have slp : st ≠ p := fun z => by rw [z] at hM; rw [hM] at hp; cases hp
    have hMs : ∀ X : MO, mset M p X st = some (.src false) := fun X => by rw [mset_ne slp]; exact hM
    have hMp0 := hMp (.lst (ts.map W.d))
    have hMs0 := hMs (.lst (ts.map W.d))
    have hd1 : TrT 12 (.tuple [.str s0, .tuple (ks.drop 1)]) ∧ nn (.tuple [.str s0, .tuple (ks.drop 1)]) ≤ 60 := by
      refine ⟨⟨s0, ks.drop 1, rfl, hs0, fun k h => hk0 k (List.mem_of_mem_drop h)⟩, ?_⟩
      rw [nn] at hn0 ⊢
      have := nnAll_app (ks.take 1) (ks.drop 1)
      rw [List.take_append_drop] at this
      omega
    decreasing_trivial_pre_omega
    rw [show (some (1 : Int)) = some ((1 : Nat) : Int) from rfl, cut_from]
    intro r1 h10 h11
    decreasing_trivial_pre_omega
    refine gO_atD (fun d => TrT 12 d ∧ nn d ≤ 60) h10 h11 (all1 ⟨ht0, hn0⟩ (all1 hd1 all0)) fun t3 ht3 => ?_
    decreasing_trivial_pre_omega
    rw [mset_mset]
    have hts4 : ∀ t ∈ ts ++ [t3], TrT 12 t ∧ nn t ≤ 60 := fun t h => by
      rcases List.mem_append.mp h with h | h
      · exact hts t h
      · rw [List.mem_singleton.mp h]; exact ht3
    have e4 : ts.map W.d ++ [.d t3] = (ts ++ [t3]).map W.d := by rw [List.map_append]; rfl
    rw [e4]
    have hi4 : (ts ++ [t3])[0]? = some (.tuple [.str s0, .tuple ks]) := by rw [List.getElem?_append_left (by omega)]; exact hi0
    have hi4W : atI ((ts ++ [t3]).map W.d) 0 = some (.d (.tuple [.str s0, .tuple ks])) := atI_nat (j := 0) (by rw [List.getElem?_map, hi4]; rfl)
    have hMp1 := hMp (.lst ((ts ++ [t3]).map W.d))
    have hMs1 := hMs (.lst ((ts ++ [t3]).map W.d))
    generalize (ts ++ [t3]) = us at hts4 hi4 hi4W hMp1 hMs1 ⊢
    generalize mset M p (.lst (us.map W.d)) = M4 at hMp1 hMs1 ⊢
    clear hi0 hi0W hts e4 hd1 ht3 hMp0 hMs0 hMp hMs hk0
    generalize hT0 : PyData.tuple [.str s0, .tuple ks] = t0 at ht0 hn0 hi4 hi4W
    clear hT0
    decreasing_trivial_pre_omega
    refine for1 (f := W.d) (fun i ρ M' => M4 = M' ∧ ∃ (y3 y4 y5 y6 y7 y8 y9 y10 y11 : Option W), ρ = [some (W.o (V.ref a)), some (.r st), some (.r p), y3, y4, y5, y6, y7, y8, y9, y10, y11])
      ⟨rfl, none, none, none, none, none, none, none, none, none, rfl⟩ (fun _ _ _ _ pv => by rw [← pv.1]; exact hMp1) (fun i t ρ M' N hi pv hN => ?_) (fun ρ M' pv => ?_)
    · obtain ⟨rfl, y3, y4, y5, y6, y7, y8, y9, y10, y11, rfl⟩ := pv
      obtain ⟨ht, hn⟩ := hts4 t (List.mem_of_getElem? hi)
      have r4 := (tree_eq ht hn).2.2.1
      have r5 : isTreeD t = true := tree_iff.mpr ⟨ht, hn⟩
      have r6 : isTreeD t0 = true := tree_iff.mpr ⟨ht0, hn0⟩
      have r7 := (tree_eq ht0 hn0).2.2.1
      have q1 := (tree_eq ht hn).2.2.2.1
      have q2 := (tree_eq ht0 hn0).2.2.2.1
      have shT := sh_tx ht hn
      have shN := sh_nm ht hn
      have shD : (t.hasDict = false ∨ t = .dict []) ∧ shOk t := (GdB.of (tree_gk ht hn) (by decide) (by decide)).sh
      have wt := txt_tx ht hn
      have wn := txt_nm ht hn
      decreasing_trivial_pre_omega
      refine ⟨fun _ => ?_, fun z => by rw [r5] at z; cases z⟩
      decreasing_trivial_pre_omega
      refine ⟨fun _ => ?_, fun z => by rw [r5] at z; cases z⟩
      decreasing_trivial_pre_omega
      refine ⟨fun t1 e1 => ⟨fun e he => ?_, fun j he => ?_⟩, fun z => absurd rfl (z _)⟩
      rotate_left
      · cases e1
        have he2 : rtTop (txS t) = .inl j := he
        rw [rt_back ht hn] at he2
        cases he2
      cases e1
      have he2 : rtTop (txS t) = .inr e := he
      rw [rt_back ht hn] at he2
      cases he2
      clear he
      decreasing_trivial_pre_omega
      refine ⟨fun ds e1 => ⟨fun e he => ?_, fun j he => ?_⟩, fun z => absurd rfl (z _)⟩
      rotate_left
      · cases e1
        rw [rd_back ht hn] at he
        cases he
      cases e1
      rw [rd_back ht hn] at he
      cases he
      decreasing_trivial_pre_omega
      refine ⟨fun _ => ?_, fun z => by rw [r6] at z; cases z⟩
      decreasing_trivial_pre_omega
      have heq : decide (Str.mk (txS t).toArray = Str.mk (txS t0).toArray) = PyData.eqv t t0 := by
        by_cases c : t = t0
        · rw [c, (tree_eq ht0 hn0).2.2.2.2]
          simp
        · have h1 : PyData.eqv t t0 = false := by
            cases z : PyData.eqv t t0 with
            | false => rfl
            | true => exact absurd (eqv_tr ht ht0 z) c
          rw [h1]
          exact decide_eq_false fun z => c (txS_inj ht ht0 hn hn0 (mk_inj z))
      rw [heq]
      refine IfB.t (decide_eq_true rfl) ?_
      clear heq r6 r7 q1 q2 shT shN shD wt wn ht0 hn0
      have hln := len_P (q := []) ht
      have hnp := nn_ge t
      have lW : ((prP [] t).map plD).length = (prP [] t).length := List.length_map _
      decreasing_trivial_pre_omega
      refine forR (fun i ρ M' => M4 = M' ∧ ∃ (z7 z8 z9 z10 z11 : Option W), ρ = [some (W.o (V.ref a)), some (.r st), some (.r p), some (.d t), some (.d (.str (Str.mk (txS t).toArray))), some (.d (.tuple (nums t))), some (.d (.list ((prP [] t).map plD))), z7, z8, z9, z10, z11])
        ⟨rfl, y7, y8, y9, y10, y11, rfl⟩ (fun _ _ _ _ _ => trivial) (fun i2 ρ M' N2 hi2 pv hN2 => ?_) (fun ρ M' pv => ?_)
      · obtain ⟨rfl, z7, z8, z9, z10, z11, rfl⟩ := pv
        decreasing_trivial_pre_omega
        rw [List.length_map, List.length_map]
        refine ⟨⟨hMs1, by omega, by omega⟩, fun r2 h20 h21 => ?_⟩
        decreasing_trivial_pre_omega
        refine gO_atD (fun d => ∃ (q : List Nat) (e : PyData), sub t q = some e ∧ d = plD (q, e)) h20 (by simpa using h21) (fun d hd => ?_) fun d hd => ?_
        · obtain ⟨x, hx, rfl⟩ := List.mem_map.mp hd
          obtain ⟨m, hm⟩ := List.getElem?_of_mem hx
          obtain ⟨x1, x2⟩ := x
          obtain ⟨r, e1, e2, _⟩ := at_P ht hm
          rw [List.nil_append] at e1
          subst e1
          exact ⟨_, _, e2, rfl⟩
        obtain ⟨q, e, hqe, rfl⟩ := hd
        have hpo := place_ok ht hn hqe
        obtain ⟨h1e, _, h2e⟩ := sub_tr ht hqe
        have h3e : TrT 12 e := h1e.mono (by omega)
        have h4e : nn e ≤ 60 := by omega
        have b1 := bgT_le ht hqe
        have b2 := bgN_le ht hqe
        have b3 := txS_len ht
        have b4 := nums_len ht
        have sh1 := sh_2 (i := (bgT t q : Nat)) (j := (bgT t q : Nat) + ((txS e).length : Nat)) (by omega) (by omega) (by omega) (by omega)
        have sh2 := sh_2 (i := (bgN t q : Nat)) (j := (bgN t q : Nat) + ((nums e).length : Nat)) (by omega) (by omega) (by omega) (by omega)
        decreasing_trivial_pre_omega
        refine ⟨t, e, q, rfl, ⟨ht, hn, hqe⟩, ?_⟩
        decreasing_trivial_pre_omega
        refine ⟨t, e, q, rfl, ⟨ht, hn, hpo, hqe⟩, ?_⟩
        decreasing_trivial_pre_omega
        have hle : (Str.mk (txS e).toArray).length ≤ sizeLine := by have := txS_len h3e; rw [len_mk]; exact sz1000 (by omega)
        refine ⟨hle, ?_⟩
        rw [len_mk]
        decreasing_trivial_pre_omega
        refine ⟨t, e, q, rfl, ⟨ht, hn, hpo, hqe⟩, ?_⟩
        decreasing_trivial_pre_omega
        rw [List.length_map]
        decreasing_trivial_pre_omega
        exact hN2 _ _ ⟨rfl, _, _, _, _, _, rfl⟩
      · obtain ⟨rfl, z7, z8, z9, z10, z11, rfl⟩ := pv
        exact hN _ _ ⟨rfl, _, _, _, _, _, _, _, _, _, rfl⟩
    · obtain ⟨rfl, y3, y4, y5, y6, y7, y8, y9, y10, y11, rfl⟩ := pv
      decreasing_trivial_pre_omega
end
end Tl
set_option Elab.async false
set_option linter.all false
set_option maxRecDepth 100000
set_option maxHeartbeats 16000000
namespace Tl
open PySem L2 RZ
section
variable {P : Program} {w : World} {K : PySem.W.Frag} {mg : Str → Option Value}
structure Defs (K : PySem.W.Frag) (mg : Str → Option Value) where
  d_is_count : At K mg "is_count" sIsCount
  d_is_number : At K mg "is_number" sIsNumber
  d_is_tag : At K mg "is_tag" sIsTag
  d_is_tag_and_kids : At K mg "is_tag_and_kids" sTagKids
  d_room_behind : At K mg "room_behind" sRoom
  d_is_tree : At K mg "is_tree" sIsTree
  d_check_tree : At K mg "check_tree" sChkTree
  d_text_within : At K mg "text_within" sTxW
  d_text_of : At K mg "text_of" sTxO
  d_tree_in : At K mg "tree_in" sTin
  d__law_take : At K mg "_law_take" sTake
  d__law_tag : At K mg "_law_tag" sTagL
  d__law_tree : At K mg "_law_tree" sTreeS
  d__law_places : At K mg "_law_places" sPlcs
  d_numbers_within : At K mg "numbers_within" sNumsW
  d_sent_numbers : At K mg "sent_numbers" sSent
  d_tree_of_numbers : At K mg "tree_of_numbers" sTon
  d_part_at : At K mg "part_at" sPartAt
  d_is_path : At K mg "is_path" sIsPath
  d_check_path : At K mg "check_path" sChkPath
  d_check_place : At K mg "check_place" sChkPl
  d_span : At K mg "span" sSpan
  d_span_of_numbers : At K mg "span_of_numbers" sSpanN
  d__law_text : At K mg "_law_text" sLTx
  d__law_numbers : At K mg "_law_numbers" sLNm
  d__law_begins : At K mg "_law_begins" sLBg
  d_law : At K mg "law" sLaw
def calls (D : Defs K mg) (T : Bl mg) (A : Cls K mg) (R : TxR K A.c_TextReader) (R2 : RdT K A.c_NumberReader) (C : Cs mg) (mMin : mg "min" = none) (mSum : mg "sum" = none) (mOrd : mg "ord" = none) (mDict : mg "dict" = none) (CL : ∃ t, mg "LETTERS" = some (.str lettersS t)) (base : Heap) : Calls P w K mg base A :=
  let uCount := use (P := P) (w := w) (base := base) D.d_is_count (D.d_is_count.F.binds (ps := ["thing"]) fun _ _ _ _ _ _ us hl => match us, hl with | [_], _ => rfl) (ok_count (k := 0) D.d_is_count.F T)
  let uNumber := use (P := P) (w := w) (base := base) D.d_is_number (D.d_is_number.F.binds (ps := ["thing", "most"]) fun _ _ _ _ _ _ us hl => match us, hl with | [_, _], _ => rfl) (ok_number (k := 1) D.d_is_number.F uCount (by decide) T)
  let uTag := use (P := P) (w := w) (base := base) D.d_is_tag (D.d_is_tag.F.binds (ps := ["thing"]) fun _ _ _ _ _ _ us hl => match us, hl with | [_], _ => rfl) (ok_tag (k := 0) D.d_is_tag.F T C)
  let uPath := use (P := P) (w := w) (base := base) D.d_is_path (D.d_is_path.F.binds (ps := ["thing"]) fun _ _ _ _ _ _ us hl => match us, hl with | [_], _ => rfl) (ok_path (k := 2) D.d_is_path.F uNumber (by decide) T C)
  let uTagKids := use (P := P) (w := w) (base := base) D.d_is_tag_and_kids (D.d_is_tag_and_kids.F.binds (ps := ["thing"]) fun _ _ _ _ _ _ us hl => match us, hl with | [_], _ => rfl) (ok_tagKids (k := 1) D.d_is_tag_and_kids.F uTag (by decide) T)
  let uRoom := use (P := P) (w := w) (base := base) D.d_room_behind (D.d_room_behind.F.binds (ps := ["thing", "levels", "room"]) fun _ _ _ _ _ _ us hl => match us, hl with | [_, _, _], _ => rfl) (ok_room D.d_room_behind.F D.d_room_behind.m uTagKids (by decide) T 13)
  let uTree := use (P := P) (w := w) (base := base) D.d_is_tree (D.d_is_tree.F.binds (ps := ["thing"]) fun _ _ _ _ _ _ us hl => match us, hl with | [_], _ => rfl) (ok_tree (k := 15) D.d_is_tree.F uRoom (by decide) C)
  let uChkT := useX (P := P) (w := w) (base := base) D.d_check_tree (D.d_check_tree.F.binds (ps := ["thing"]) fun _ _ _ _ _ _ us hl => match us, hl with | [_], _ => rfl) (ok_chkTree (k := 16) D.d_check_tree.F A.e_NoTree uTree (by decide))
  let uChkP := useX (P := P) (w := w) (base := base) D.d_check_path (D.d_check_path.F.binds (ps := ["thing"]) fun _ _ _ _ _ _ us hl => match us, hl with | [_], _ => rfl) (ok_chkPath (k := 3) D.d_check_path.F A.e_NoPath uPath (by decide))
  let uPartAt := use (P := P) (w := w) (base := base) D.d_part_at (D.d_part_at.F.binds (ps := ["tree", "path"]) fun _ _ _ _ _ _ us hl => match us, hl with | [_, _], _ => rfl) (ok_partAt (k := 0) D.d_part_at.F T)
  let uChkPl := useX (P := P) (w := w) (base := base) D.d_check_place (D.d_check_place.F.binds (ps := ["tree", "thing"]) fun _ _ _ _ _ _ us hl => match us, hl with | [_, _], _ => rfl) (ok_chkPl (j := 4) (k := 4) D.d_check_place.F A.e_NoPlace uChkP (uPartAt.up (by decide)) (by decide) (by decide))
  let uTxW := use (P := P) (w := w) (base := base) D.d_text_within (D.d_text_within.F.binds (ps := ["tree"]) fun _ _ _ _ _ _ us hl => match us, hl with | [_], _ => rfl) (ok_txW D.d_text_within.F D.d_text_within.m T 12)
  let uTxO := useX (P := P) (w := w) (base := base) D.d_text_of (D.d_text_of.F.binds (ps := ["tree"]) fun _ _ _ _ _ _ us hl => match us, hl with | [_], _ => rfl) (ok_txO (j := 17) (k := 17) D.d_text_of.F uChkT (uTxW.up (by decide)) (by decide) T)
  let uNumsW := use (P := P) (w := w) (base := base) D.d_numbers_within (D.d_numbers_within.F.binds (ps := ["tree"]) fun _ _ _ _ _ _ us hl => match us, hl with | [_], _ => rfl) (ok_numsWD D.d_numbers_within.F D.d_numbers_within.m T CL 12)
  let uSent := useX (P := P) (w := w) (base := base) D.d_sent_numbers (D.d_sent_numbers.F.binds (ps := ["tree"]) fun _ _ _ _ _ _ us hl => match us, hl with | [_], _ => rfl) (ok_sent (j := 17) (k := 17) D.d_sent_numbers.F uChkT (uNumsW.up (by decide)) (by decide) T)
  let uTin := useX (P := P) (w := w) (base := base) D.d_tree_in (D.d_tree_in.F.binds (ps := ["text"]) fun _ _ _ _ _ _ us hl => match us, hl with | [_], _ => rfl) (ok_tinR (k := 30) D.d_tree_in.F A R (by decide) T C CL)
  let uTon := useX (P := P) (w := w) (base := base) D.d_tree_of_numbers (D.d_tree_of_numbers.F.binds (ps := ["numbers"]) fun _ _ _ _ _ _ us hl => match us, hl with | [_], _ => rfl) (ok_tonR (k := 30) D.d_tree_of_numbers.F A R2 uNumber (by decide) T C CL)
  let uSpan := useX (P := P) (w := w) (base := base) D.d_span (D.d_span.F.binds (ps := ["tree", "path"]) fun _ _ _ _ _ _ us hl => match us, hl with | [_, _], _ => rfl) (ok_span (j := 17) (k := 17) D.d_span.F uChkT (uChkPl.up (by decide)) (uTxW.up (by decide)) (by decide) T mSum)
  let uSpanN := useX (P := P) (w := w) (base := base) D.d_span_of_numbers (D.d_span_of_numbers.F.binds (ps := ["tree", "path"]) fun _ _ _ _ _ _ us hl => match us, hl with | [_, _], _ => rfl) (ok_spanN (j := 17) (k := 17) D.d_span_of_numbers.F uChkT (uChkPl.up (by decide)) (uNumsW.up (by decide)) (by decide) T mSum)
  let uTake := use (P := P) (w := w) (base := base) D.d__law_take (D.d__law_take.F.binds (ps := ["_law_state", "_law_below"]) fun _ _ _ _ _ _ us hl => match us, hl with | [_, _], _ => rfl) (ok_take (k := 0) D.d__law_take.F T)
  let uLTag := use (P := P) (w := w) (base := base) D.d__law_tag (D.d__law_tag.F.binds (ps := ["_law_state"]) fun _ _ _ _ _ _ us hl => match us, hl with | [_], _ => rfl) (ok_tagL (k := 1) D.d__law_tag.F uTake (by decide) T)
  let uTreeS := use (P := P) (w := w) (base := base) D.d__law_tree (D.d__law_tree.F.binds (ps := ["_law_state", "_law_most"]) fun _ _ _ _ _ _ us hl => match us, hl with | [_, _], _ => rfl) (ok_treeS (j := 2) (k := 2) D.d__law_tree.F (uTake.up (by decide)) uLTag (by decide) T mMin)
  let uPlc := use (P := P) (w := w) (base := base) D.d__law_places (D.d__law_places.F.binds (ps := ["_law_tree_here"]) fun _ _ _ _ _ _ us hl => match us, hl with | [_], _ => rfl) (ok_plcs (k := 0) D.d__law_places.F T)
  let uPlcD := use (P := P) (w := w) (base := base) D.d__law_places (D.d__law_places.F.binds (ps := ["_law_tree_here"]) fun _ _ _ _ _ _ us hl => match us, hl with | [_], _ => rfl) (ok_plcsD (k := 0) D.d__law_places.F T)
  let uLTx := use (P := P) (w := w) (base := base) D.d__law_text (D.d__law_text.F.binds (ps := ["_law_tree_here"]) fun _ _ _ _ _ _ us hl => match us, hl with | [_], _ => rfl) (ok_lTx D.d__law_text.F D.d__law_text.m T 12)
  let uLNm := use (P := P) (w := w) (base := base) D.d__law_numbers (D.d__law_numbers.F.binds (ps := ["_law_tree_here"]) fun _ _ _ _ _ _ us hl => match us, hl with | [_], _ => rfl) (ok_lNmD (k := 1) D.d__law_numbers.F uPlcD (by decide) T mOrd)
  let uLBg := use (P := P) (w := w) (base := base) D.d__law_begins (D.d__law_begins.F.binds (ps := ["_law_tree_here", "_law_path"]) fun _ _ _ _ _ _ us hl => match us, hl with | [_, _], _ => rfl) (ok_lBg (j := 12) (k := 12) D.d__law_begins.F (uPlc.up (by decide)) uLTx (by decide) T mSum mDict)
  ⟨100, by decide, uTreeS.up (by decide), uTake.up (by decide), uPlcD.up (by decide), uLTx.up (by decide), uLNm.up (by decide), uLBg.up (by decide), uTxO.up (by decide), uSent.up (by decide), uTin.up (by decide), uTon.up (by decide), uSpan.up (by decide), uSpanN.up (by decide)⟩
end
theorem all_mk {P : Program} {w : World} {K : PySem.W.Frag} {h : Heap} {mg : Str → Option Value} {fa : Addr} (X : K.In h) (G : h.Ns mainGlobals mg) (hfa : mg "law" = some (.ref fa)) {t1 t2 t3 : Tok}
    {f1 : Addr} {od1 an1 : Option Addr} {sl1 : Array (Option Value)} {oc1 kV1 dc1 pm1 cd1 ct1 : Value}
    {f2 : Addr} {od2 an2 : Option Addr} {sl2 : Array (Option Value)} {oc2 kV2 dc2 pm2 cd2 ct2 : Value}
    {f3 : Addr} {od3 an3 : Option Addr} {sl3 : Array (Option Value)} {oc3 kV3 dc3 pm3 cd3 ct3 : Value}
    {f4 : Addr} {od4 an4 : Option Addr} {sl4 : Array (Option Value)} {oc4 kV4 dc4 pm4 cd4 ct4 : Value}
    {f5 : Addr} {od5 an5 : Option Addr} {sl5 : Array (Option Value)} {oc5 kV5 dc5 pm5 cd5 ct5 : Value}
    {f6 : Addr} {od6 an6 : Option Addr} {sl6 : Array (Option Value)} {oc6 kV6 dc6 pm6 cd6 ct6 : Value}
    {f7 : Addr} {od7 an7 : Option Addr} {sl7 : Array (Option Value)} {oc7 kV7 dc7 pm7 cd7 ct7 : Value}
    {f8 : Addr} {od8 an8 : Option Addr} {sl8 : Array (Option Value)} {oc8 kV8 dc8 pm8 cd8 ct8 : Value}
    {f9 : Addr} {od9 an9 : Option Addr} {sl9 : Array (Option Value)} {oc9 kV9 dc9 pm9 cd9 ct9 : Value}
    {f10 : Addr} {od10 an10 : Option Addr} {sl10 : Array (Option Value)} {oc10 kV10 dc10 pm10 cd10 ct10 : Value}
    {f11 : Addr} {od11 an11 : Option Addr} {sl11 : Array (Option Value)} {oc11 kV11 dc11 pm11 cd11 ct11 : Value}
    {f12 : Addr} {od12 an12 : Option Addr} {sl12 : Array (Option Value)} {oc12 kV12 dc12 pm12 cd12 ct12 : Value}
    {f13 : Addr} {od13 an13 : Option Addr} {sl13 : Array (Option Value)} {oc13 kV13 dc13 pm13 cd13 ct13 : Value}
    {f14 : Addr} {od14 an14 : Option Addr} {sl14 : Array (Option Value)} {oc14 kV14 dc14 pm14 cd14 ct14 : Value}
    {f15 : Addr} {od15 an15 : Option Addr} {sl15 : Array (Option Value)} {oc15 kV15 dc15 pm15 cd15 ct15 : Value}
    {f16 : Addr} {od16 an16 : Option Addr} {sl16 : Array (Option Value)} {oc16 kV16 dc16 pm16 cd16 ct16 : Value}
    {f17 : Addr} {od17 an17 : Option Addr} {sl17 : Array (Option Value)} {oc17 kV17 dc17 pm17 cd17 ct17 : Value}
    {f18 : Addr} {od18 an18 : Option Addr} {sl18 : Array (Option Value)} {oc18 kV18 dc18 pm18 cd18 ct18 : Value}
    {f19 : Addr} {od19 an19 : Option Addr} {sl19 : Array (Option Value)} {oc19 kV19 dc19 pm19 cd19 ct19 : Value}
    {f20 : Addr} {od20 an20 : Option Addr} {sl20 : Array (Option Value)} {oc20 kV20 dc20 pm20 cd20 ct20 : Value}
    {f21 : Addr} {od21 an21 : Option Addr} {sl21 : Array (Option Value)} {oc21 kV21 dc21 pm21 cd21 ct21 : Value}
    {f22 : Addr} {od22 an22 : Option Addr} {sl22 : Array (Option Value)} {oc22 kV22 dc22 pm22 cd22 ct22 : Value}
    {f23 : Addr} {od23 an23 : Option Addr} {sl23 : Array (Option Value)} {oc23 kV23 dc23 pm23 cd23 ct23 : Value}
    {f24 : Addr} {od24 an24 : Option Addr} {sl24 : Array (Option Value)} {oc24 kV24 dc24 pm24 cd24 ct24 : Value}
    {f25 : Addr} {od25 an25 : Option Addr} {sl25 : Array (Option Value)} {oc25 kV25 dc25 pm25 cd25 ct25 : Value}
    {f26 : Addr} {od26 an26 : Option Addr} {sl26 : Array (Option Value)} {oc26 kV26 dc26 pm26 cd26 ct26 : Value}
    {f27 : Addr} {od27 an27 : Option Addr} {sl27 : Array (Option Value)} {oc27 kV27 dc27 pm27 cd27 ct27 : Value}
    {c_TreeError c_NoThing c_NoFit c_Cut c_NoTree c_NoPath c_NoText c_NoNumbers c_NoPlace c_Torn c_TextReader c_NumberReader : Addr}
    {nm_NoPlace q_NoPlace : Str} {N_NoPlace : Addr} {bs_NoPlace bm_NoPlace : List Value} {sn_NoPlace : List Str} {sub_NoPlace : List Value} {ab_NoPlace : Bool} {col_NoPlace : Option Bool} {dd_NoPlace : Option Addr} {g0_NoPlace g1_NoPlace g2_NoPlace g3_NoPlace g5_NoPlace : Option Value}
    {fI_NoPlace : Addr} {odI_NoPlace anI_NoPlace : Option Addr} {slI_NoPlace : Array (Option Value)} {ocI_NoPlace kVI_NoPlace dcI_NoPlace pmI_NoPlace cdI_NoPlace ctI_NoPlace : Value}
    {nm_Torn q_Torn : Str} {N_Torn : Addr} {bs_Torn bm_Torn : List Value} {sn_Torn : List Str} {sub_Torn : List Value} {ab_Torn : Bool} {col_Torn : Option Bool} {dd_Torn : Option Addr} {g0_Torn g1_Torn g2_Torn g3_Torn g5_Torn : Option Value}
    {fI_Torn : Addr} {odI_Torn anI_Torn : Option Addr} {slI_Torn : Array (Option Value)} {ocI_Torn kVI_Torn dcI_Torn pmI_Torn cdI_Torn ctI_Torn : Value}
    {fM_NumberReader_init : Addr} {odM_NumberReader_init anM_NumberReader_init : Option Addr} {slM_NumberReader_init : Array (Option Value)} {ocM_NumberReader_init kVM_NumberReader_init dcM_NumberReader_init pmM_NumberReader_init cdM_NumberReader_init ctM_NumberReader_init : Value}
    {fM_NumberReader_read_number : Addr} {odM_NumberReader_read_number anM_NumberReader_read_number : Option Addr} {slM_NumberReader_read_number : Array (Option Value)} {ocM_NumberReader_read_number kVM_NumberReader_read_number dcM_NumberReader_read_number pmM_NumberReader_read_number cdM_NumberReader_read_number ctM_NumberReader_read_number : Value}
    {fM_NumberReader_read_tag : Addr} {odM_NumberReader_read_tag anM_NumberReader_read_tag : Option Addr} {slM_NumberReader_read_tag : Array (Option Value)} {ocM_NumberReader_read_tag kVM_NumberReader_read_tag dcM_NumberReader_read_tag pmM_NumberReader_read_tag cdM_NumberReader_read_tag ctM_NumberReader_read_tag : Value}
    {fM_NumberReader_read_part : Addr} {odM_NumberReader_read_part anM_NumberReader_read_part : Option Addr} {slM_NumberReader_read_part : Array (Option Value)} {ocM_NumberReader_read_part kVM_NumberReader_read_part dcM_NumberReader_read_part pmM_NumberReader_read_part cdM_NumberReader_read_part ctM_NumberReader_read_part : Value}
    {fM_TextReader_init : Addr} {odM_TextReader_init anM_TextReader_init : Option Addr} {slM_TextReader_init : Array (Option Value)} {ocM_TextReader_init kVM_TextReader_init dcM_TextReader_init pmM_TextReader_init cdM_TextReader_init ctM_TextReader_init : Value}
    {fM_TextReader_comes : Addr} {odM_TextReader_comes anM_TextReader_comes : Option Addr} {slM_TextReader_comes : Array (Option Value)} {ocM_TextReader_comes kVM_TextReader_comes dcM_TextReader_comes pmM_TextReader_comes cdM_TextReader_comes ctM_TextReader_comes : Value}
    {fM_TextReader_read_tag : Addr} {odM_TextReader_read_tag anM_TextReader_read_tag : Option Addr} {slM_TextReader_read_tag : Array (Option Value)} {ocM_TextReader_read_tag kVM_TextReader_read_tag dcM_TextReader_read_tag pmM_TextReader_read_tag cdM_TextReader_read_tag ctM_TextReader_read_tag : Value}
    {fM_TextReader_read_part : Addr} {odM_TextReader_read_part anM_TextReader_read_part : Option Addr} {slM_TextReader_read_part : Array (Option Value)} {ocM_TextReader_read_part kVM_TextReader_read_part dcM_TextReader_read_part pmM_TextReader_read_part cdM_TextReader_read_part ctM_TextReader_read_part : Value}
    {tL : Tok}
    (a1 : PySem.W.nsIn K mainGlobals "is_count" = some (some (.ref f1)))
    (l1 : K.lookup f1 = some ⟨oc1, od1, .func (PySem.W.fnOf "is_count" "is_count" (defArgs sIsCount) (defBody sIsCount) (defScope sIsCount) .none kV1 dc1 pm1 an1 cd1 ct1), sl1⟩)
    (c1 : PySem.W.codeIn K cd1 "is_count" = true)
    (k1 : PySem.W.keepIn K (.ref f1) = true)
    (a2 : PySem.W.nsIn K mainGlobals "is_number" = some (some (.ref f2)))
    (l2 : K.lookup f2 = some ⟨oc2, od2, .func (PySem.W.fnOf "is_number" "is_number" (defArgs sIsNumber) (defBody sIsNumber) (defScope sIsNumber) .none kV2 dc2 pm2 an2 cd2 ct2), sl2⟩)
    (c2 : PySem.W.codeIn K cd2 "is_number" = true)
    (k2 : PySem.W.keepIn K (.ref f2) = true)
    (a3 : PySem.W.nsIn K mainGlobals "is_tag" = some (some (.ref f3)))
    (l3 : K.lookup f3 = some ⟨oc3, od3, .func (PySem.W.fnOf "is_tag" "is_tag" (defArgs sIsTag) (defBody sIsTag) (defScope sIsTag) .none kV3 dc3 pm3 an3 cd3 ct3), sl3⟩)
    (c3 : PySem.W.codeIn K cd3 "is_tag" = true)
    (k3 : PySem.W.keepIn K (.ref f3) = true)
    (a4 : PySem.W.nsIn K mainGlobals "is_tag_and_kids" = some (some (.ref f4)))
    (l4 : K.lookup f4 = some ⟨oc4, od4, .func (PySem.W.fnOf "is_tag_and_kids" "is_tag_and_kids" (defArgs sTagKids) (defBody sTagKids) (defScope sTagKids) .none kV4 dc4 pm4 an4 cd4 ct4), sl4⟩)
    (c4 : PySem.W.codeIn K cd4 "is_tag_and_kids" = true)
    (k4 : PySem.W.keepIn K (.ref f4) = true)
    (a5 : PySem.W.nsIn K mainGlobals "room_behind" = some (some (.ref f5)))
    (l5 : K.lookup f5 = some ⟨oc5, od5, .func (PySem.W.fnOf "room_behind" "room_behind" (defArgs sRoom) (defBody sRoom) (defScope sRoom) .none kV5 dc5 pm5 an5 cd5 ct5), sl5⟩)
    (c5 : PySem.W.codeIn K cd5 "room_behind" = true)
    (k5 : PySem.W.keepIn K (.ref f5) = true)
    (a6 : PySem.W.nsIn K mainGlobals "is_tree" = some (some (.ref f6)))
    (l6 : K.lookup f6 = some ⟨oc6, od6, .func (PySem.W.fnOf "is_tree" "is_tree" (defArgs sIsTree) (defBody sIsTree) (defScope sIsTree) .none kV6 dc6 pm6 an6 cd6 ct6), sl6⟩)
    (c6 : PySem.W.codeIn K cd6 "is_tree" = true)
    (k6 : PySem.W.keepIn K (.ref f6) = true)
    (a7 : PySem.W.nsIn K mainGlobals "check_tree" = some (some (.ref f7)))
    (l7 : K.lookup f7 = some ⟨oc7, od7, .func (PySem.W.fnOf "check_tree" "check_tree" (defArgs sChkTree) (defBody sChkTree) (defScope sChkTree) .none kV7 dc7 pm7 an7 cd7 ct7), sl7⟩)
    (c7 : PySem.W.codeIn K cd7 "check_tree" = true)
    (k7 : PySem.W.keepIn K (.ref f7) = true)
    (a8 : PySem.W.nsIn K mainGlobals "text_within" = some (some (.ref f8)))
    (l8 : K.lookup f8 = some ⟨oc8, od8, .func (PySem.W.fnOf "text_within" "text_within" (defArgs sTxW) (defBody sTxW) (defScope sTxW) .none kV8 dc8 pm8 an8 cd8 ct8), sl8⟩)
    (c8 : PySem.W.codeIn K cd8 "text_within" = true)
    (k8 : PySem.W.keepIn K (.ref f8) = true)
    (a9 : PySem.W.nsIn K mainGlobals "text_of" = some (some (.ref f9)))
    (l9 : K.lookup f9 = some ⟨oc9, od9, .func (PySem.W.fnOf "text_of" "text_of" (defArgs sTxO) (defBody sTxO) (defScope sTxO) .none kV9 dc9 pm9 an9 cd9 ct9), sl9⟩)
    (c9 : PySem.W.codeIn K cd9 "text_of" = true)
    (k9 : PySem.W.keepIn K (.ref f9) = true)
    (a10 : PySem.W.nsIn K mainGlobals "tree_in" = some (some (.ref f10)))
    (l10 : K.lookup f10 = some ⟨oc10, od10, .func (PySem.W.fnOf "tree_in" "tree_in" (defArgs sTin) (defBody sTin) (defScope sTin) .none kV10 dc10 pm10 an10 cd10 ct10), sl10⟩)
    (c10 : PySem.W.codeIn K cd10 "tree_in" = true)
    (k10 : PySem.W.keepIn K (.ref f10) = true)
    (a11 : PySem.W.nsIn K mainGlobals "_law_take" = some (some (.ref f11)))
    (l11 : K.lookup f11 = some ⟨oc11, od11, .func (PySem.W.fnOf "_law_take" "_law_take" (defArgs sTake) (defBody sTake) (defScope sTake) .none kV11 dc11 pm11 an11 cd11 ct11), sl11⟩)
    (c11 : PySem.W.codeIn K cd11 "_law_take" = true)
    (k11 : PySem.W.keepIn K (.ref f11) = true)
    (a12 : PySem.W.nsIn K mainGlobals "_law_tag" = some (some (.ref f12)))
    (l12 : K.lookup f12 = some ⟨oc12, od12, .func (PySem.W.fnOf "_law_tag" "_law_tag" (defArgs sTagL) (defBody sTagL) (defScope sTagL) .none kV12 dc12 pm12 an12 cd12 ct12), sl12⟩)
    (c12 : PySem.W.codeIn K cd12 "_law_tag" = true)
    (k12 : PySem.W.keepIn K (.ref f12) = true)
    (a13 : PySem.W.nsIn K mainGlobals "_law_tree" = some (some (.ref f13)))
    (l13 : K.lookup f13 = some ⟨oc13, od13, .func (PySem.W.fnOf "_law_tree" "_law_tree" (defArgs sTreeS) (defBody sTreeS) (defScope sTreeS) .none kV13 dc13 pm13 an13 cd13 ct13), sl13⟩)
    (c13 : PySem.W.codeIn K cd13 "_law_tree" = true)
    (k13 : PySem.W.keepIn K (.ref f13) = true)
    (a14 : PySem.W.nsIn K mainGlobals "_law_places" = some (some (.ref f14)))
    (l14 : K.lookup f14 = some ⟨oc14, od14, .func (PySem.W.fnOf "_law_places" "_law_places" (defArgs sPlcs) (defBody sPlcs) (defScope sPlcs) .none kV14 dc14 pm14 an14 cd14 ct14), sl14⟩)
    (c14 : PySem.W.codeIn K cd14 "_law_places" = true)
    (k14 : PySem.W.keepIn K (.ref f14) = true)
    (a15 : PySem.W.nsIn K mainGlobals "numbers_within" = some (some (.ref f15)))
    (l15 : K.lookup f15 = some ⟨oc15, od15, .func (PySem.W.fnOf "numbers_within" "numbers_within" (defArgs sNumsW) (defBody sNumsW) (defScope sNumsW) .none kV15 dc15 pm15 an15 cd15 ct15), sl15⟩)
    (c15 : PySem.W.codeIn K cd15 "numbers_within" = true)
    (k15 : PySem.W.keepIn K (.ref f15) = true)
    (a16 : PySem.W.nsIn K mainGlobals "sent_numbers" = some (some (.ref f16)))
    (l16 : K.lookup f16 = some ⟨oc16, od16, .func (PySem.W.fnOf "sent_numbers" "sent_numbers" (defArgs sSent) (defBody sSent) (defScope sSent) .none kV16 dc16 pm16 an16 cd16 ct16), sl16⟩)
    (c16 : PySem.W.codeIn K cd16 "sent_numbers" = true)
    (k16 : PySem.W.keepIn K (.ref f16) = true)
    (a17 : PySem.W.nsIn K mainGlobals "tree_of_numbers" = some (some (.ref f17)))
    (l17 : K.lookup f17 = some ⟨oc17, od17, .func (PySem.W.fnOf "tree_of_numbers" "tree_of_numbers" (defArgs sTon) (defBody sTon) (defScope sTon) .none kV17 dc17 pm17 an17 cd17 ct17), sl17⟩)
    (c17 : PySem.W.codeIn K cd17 "tree_of_numbers" = true)
    (k17 : PySem.W.keepIn K (.ref f17) = true)
    (a18 : PySem.W.nsIn K mainGlobals "part_at" = some (some (.ref f18)))
    (l18 : K.lookup f18 = some ⟨oc18, od18, .func (PySem.W.fnOf "part_at" "part_at" (defArgs sPartAt) (defBody sPartAt) (defScope sPartAt) .none kV18 dc18 pm18 an18 cd18 ct18), sl18⟩)
    (c18 : PySem.W.codeIn K cd18 "part_at" = true)
    (k18 : PySem.W.keepIn K (.ref f18) = true)
    (a19 : PySem.W.nsIn K mainGlobals "is_path" = some (some (.ref f19)))
    (l19 : K.lookup f19 = some ⟨oc19, od19, .func (PySem.W.fnOf "is_path" "is_path" (defArgs sIsPath) (defBody sIsPath) (defScope sIsPath) .none kV19 dc19 pm19 an19 cd19 ct19), sl19⟩)
    (c19 : PySem.W.codeIn K cd19 "is_path" = true)
    (k19 : PySem.W.keepIn K (.ref f19) = true)
    (a20 : PySem.W.nsIn K mainGlobals "check_path" = some (some (.ref f20)))
    (l20 : K.lookup f20 = some ⟨oc20, od20, .func (PySem.W.fnOf "check_path" "check_path" (defArgs sChkPath) (defBody sChkPath) (defScope sChkPath) .none kV20 dc20 pm20 an20 cd20 ct20), sl20⟩)
    (c20 : PySem.W.codeIn K cd20 "check_path" = true)
    (k20 : PySem.W.keepIn K (.ref f20) = true)
    (a21 : PySem.W.nsIn K mainGlobals "check_place" = some (some (.ref f21)))
    (l21 : K.lookup f21 = some ⟨oc21, od21, .func (PySem.W.fnOf "check_place" "check_place" (defArgs sChkPl) (defBody sChkPl) (defScope sChkPl) .none kV21 dc21 pm21 an21 cd21 ct21), sl21⟩)
    (c21 : PySem.W.codeIn K cd21 "check_place" = true)
    (k21 : PySem.W.keepIn K (.ref f21) = true)
    (a22 : PySem.W.nsIn K mainGlobals "span" = some (some (.ref f22)))
    (l22 : K.lookup f22 = some ⟨oc22, od22, .func (PySem.W.fnOf "span" "span" (defArgs sSpan) (defBody sSpan) (defScope sSpan) .none kV22 dc22 pm22 an22 cd22 ct22), sl22⟩)
    (c22 : PySem.W.codeIn K cd22 "span" = true)
    (k22 : PySem.W.keepIn K (.ref f22) = true)
    (a23 : PySem.W.nsIn K mainGlobals "span_of_numbers" = some (some (.ref f23)))
    (l23 : K.lookup f23 = some ⟨oc23, od23, .func (PySem.W.fnOf "span_of_numbers" "span_of_numbers" (defArgs sSpanN) (defBody sSpanN) (defScope sSpanN) .none kV23 dc23 pm23 an23 cd23 ct23), sl23⟩)
    (c23 : PySem.W.codeIn K cd23 "span_of_numbers" = true)
    (k23 : PySem.W.keepIn K (.ref f23) = true)
    (a24 : PySem.W.nsIn K mainGlobals "_law_text" = some (some (.ref f24)))
    (l24 : K.lookup f24 = some ⟨oc24, od24, .func (PySem.W.fnOf "_law_text" "_law_text" (defArgs sLTx) (defBody sLTx) (defScope sLTx) .none kV24 dc24 pm24 an24 cd24 ct24), sl24⟩)
    (c24 : PySem.W.codeIn K cd24 "_law_text" = true)
    (k24 : PySem.W.keepIn K (.ref f24) = true)
    (a25 : PySem.W.nsIn K mainGlobals "_law_numbers" = some (some (.ref f25)))
    (l25 : K.lookup f25 = some ⟨oc25, od25, .func (PySem.W.fnOf "_law_numbers" "_law_numbers" (defArgs sLNm) (defBody sLNm) (defScope sLNm) .none kV25 dc25 pm25 an25 cd25 ct25), sl25⟩)
    (c25 : PySem.W.codeIn K cd25 "_law_numbers" = true)
    (k25 : PySem.W.keepIn K (.ref f25) = true)
    (a26 : PySem.W.nsIn K mainGlobals "_law_begins" = some (some (.ref f26)))
    (l26 : K.lookup f26 = some ⟨oc26, od26, .func (PySem.W.fnOf "_law_begins" "_law_begins" (defArgs sLBg) (defBody sLBg) (defScope sLBg) .none kV26 dc26 pm26 an26 cd26 ct26), sl26⟩)
    (c26 : PySem.W.codeIn K cd26 "_law_begins" = true)
    (k26 : PySem.W.keepIn K (.ref f26) = true)
    (a27 : PySem.W.nsIn K mainGlobals "law" = some (some (.ref f27)))
    (l27 : K.lookup f27 = some ⟨oc27, od27, .func (PySem.W.fnOf "law" "law" (defArgs sLaw) (defBody sLaw) (defScope sLaw) .none kV27 dc27 pm27 an27 cd27 ct27), sl27⟩)
    (c27 : PySem.W.codeIn K cd27 "law" = true)
    (k27 : PySem.W.keepIn K (.ref f27) = true)
    (z1 : PySem.W.nsIn K mainGlobals "isinstance" = some none)
    (z2 : PySem.W.nsIn K mainGlobals "int" = some none)
    (z3 : PySem.W.nsIn K mainGlobals "bool" = some none)
    (z4 : PySem.W.nsIn K mainGlobals "str" = some none)
    (z5 : PySem.W.nsIn K mainGlobals "tuple" = some none)
    (z6 : PySem.W.nsIn K mainGlobals "list" = some none)
    (z7 : PySem.W.nsIn K mainGlobals "len" = some none)
    (z8 : PySem.W.nsIn K mainGlobals "all" = some none)
    (z9 : PySem.W.nsIn K mainGlobals "repr" = some none)
    (z10 : PySem.W.nsIn K mainGlobals "max" = some none)
    (z11 : PySem.W.nsIn K mainGlobals "range" = some none)
    (z12 : PySem.W.nsIn K mainGlobals "enumerate" = some none)
    (z13 : PySem.W.nsIn K mainGlobals "min" = some none)
    (z14 : PySem.W.nsIn K mainGlobals "sum" = some none)
    (z15 : PySem.W.nsIn K mainGlobals "ord" = some none)
    (z16 : PySem.W.nsIn K mainGlobals "dict" = some none)
    (n1 : PySem.W.nsIn K mainGlobals "SIZE" = some (some (.int 60 t1)))
    (n2 : PySem.W.nsIn K mainGlobals "DEPTH" = some (some (.int 12 t2)))
    (n3 : PySem.W.nsIn K mainGlobals "SIGNS" = some (some (.int 8 t3)))
    (y_TreeError : PySem.W.nsIn K mainGlobals "TreeError" = some (some (.ref c_TreeError)))
    (y_NoThing : PySem.W.nsIn K mainGlobals "NoThing" = some (some (.ref c_NoThing)))
    (y_NoFit : PySem.W.nsIn K mainGlobals "NoFit" = some (some (.ref c_NoFit)))
    (y_Cut : PySem.W.nsIn K mainGlobals "Cut" = some (some (.ref c_Cut)))
    (y_NoTree : PySem.W.nsIn K mainGlobals "NoTree" = some (some (.ref c_NoTree)))
    (y_NoPath : PySem.W.nsIn K mainGlobals "NoPath" = some (some (.ref c_NoPath)))
    (y_NoText : PySem.W.nsIn K mainGlobals "NoText" = some (some (.ref c_NoText)))
    (y_NoNumbers : PySem.W.nsIn K mainGlobals "NoNumbers" = some (some (.ref c_NoNumbers)))
    (y_NoPlace : PySem.W.nsIn K mainGlobals "NoPlace" = some (some (.ref c_NoPlace)))
    (y_Torn : PySem.W.nsIn K mainGlobals "Torn" = some (some (.ref c_Torn)))
    (y_TextReader : PySem.W.nsIn K mainGlobals "TextReader" = some (some (.ref c_TextReader)))
    (y_NumberReader : PySem.W.nsIn K mainGlobals "NumberReader" = some (some (.ref c_NumberReader)))
    (o1_TreeError : PySem.W.isClsIn K c_TreeError = true)
    (o2_TreeError : PySem.W.typeIn K (.ref c_TreeError) = some (.type "type"))
    (o1_NoThing : PySem.W.isClsIn K c_NoThing = true)
    (o2_NoThing : PySem.W.typeIn K (.ref c_NoThing) = some (.type "type"))
    (o1_NoFit : PySem.W.isClsIn K c_NoFit = true)
    (o2_NoFit : PySem.W.typeIn K (.ref c_NoFit) = some (.type "type"))
    (o1_Cut : PySem.W.isClsIn K c_Cut = true)
    (o2_Cut : PySem.W.typeIn K (.ref c_Cut) = some (.type "type"))
    (o1_NoTree : PySem.W.isClsIn K c_NoTree = true)
    (o2_NoTree : PySem.W.typeIn K (.ref c_NoTree) = some (.type "type"))
    (o1_NoPath : PySem.W.isClsIn K c_NoPath = true)
    (o2_NoPath : PySem.W.typeIn K (.ref c_NoPath) = some (.type "type"))
    (o1_NoText : PySem.W.isClsIn K c_NoText = true)
    (o2_NoText : PySem.W.typeIn K (.ref c_NoText) = some (.type "type"))
    (o1_NoNumbers : PySem.W.isClsIn K c_NoNumbers = true)
    (o2_NoNumbers : PySem.W.typeIn K (.ref c_NoNumbers) = some (.type "type"))
    (o1_NoPlace : PySem.W.isClsIn K c_NoPlace = true)
    (o2_NoPlace : PySem.W.typeIn K (.ref c_NoPlace) = some (.type "type"))
    (o1_Torn : PySem.W.isClsIn K c_Torn = true)
    (o2_Torn : PySem.W.typeIn K (.ref c_Torn) = some (.type "type"))
    (o1_TextReader : PySem.W.isClsIn K c_TextReader = true)
    (o2_TextReader : PySem.W.typeIn K (.ref c_TextReader) = some (.type "type"))
    (o1_NumberReader : PySem.W.isClsIn K c_NumberReader = true)
    (o2_NumberReader : PySem.W.typeIn K (.ref c_NumberReader) = some (.type "type"))
    (hnG : PySem.W.specialIn K (.builtin "object.__class__") "__get__" = some (some (.builtin "getset_descriptor.__get__")))
    (htG : PySem.W.takesIn K (.builtin "object.__class__") = some true)
    (w_NoTreeg : PySem.W.findIn K (.ref c_NoTree) "__getattribute__" = some (some (.builtin "BaseException.__getattribute__")))
    (w_NoTreek : PySem.W.findIn K (.ref c_NoTree) "__getattr__" = some none)
    (w_NoTrees : PySem.W.subIn K (.ref c_NoTree) (.type "BaseException") = some true)
    (w_NoTreed : PySem.W.hasDictIn K c_NoTree = true)
    (w_NoTreea : PySem.W.findIn K (.ref c_NoTree) "__class__" = some (some (.builtin "object.__class__")))
    (w_NoTreem : PySem.W.mroIn K c_NoTree (.type "object") = some true)
    (w_NoTreev : PySem.W.subIn K (.ref c_NoTree) (.type "ValueError") = some true)
    (w_NoTree_TreeError : PySem.W.subIn K (.ref c_NoTree) (.ref c_TreeError) = some true)
    (w_NoTree_NoThing : PySem.W.subIn K (.ref c_NoTree) (.ref c_NoThing) = some true)
    (w_NoTree_NoFit : PySem.W.subIn K (.ref c_NoTree) (.ref c_NoFit) = some false)
    (w_NoTree_Cut : PySem.W.subIn K (.ref c_NoTree) (.ref c_Cut) = some false)
    (w_NoTree_NoTree : PySem.W.subIn K (.ref c_NoTree) (.ref c_NoTree) = some true)
    (w_NoTree_NoPath : PySem.W.subIn K (.ref c_NoTree) (.ref c_NoPath) = some false)
    (w_NoTree_NoText : PySem.W.subIn K (.ref c_NoTree) (.ref c_NoText) = some false)
    (w_NoTree_NoNumbers : PySem.W.subIn K (.ref c_NoTree) (.ref c_NoNumbers) = some false)
    (w_NoTree_NoPlace : PySem.W.subIn K (.ref c_NoTree) (.ref c_NoPlace) = some false)
    (w_NoTree_Torn : PySem.W.subIn K (.ref c_NoTree) (.ref c_Torn) = some false)
    (w_NoTree_TextReader : PySem.W.subIn K (.ref c_NoTree) (.ref c_TextReader) = some false)
    (w_NoTree_NumberReader : PySem.W.subIn K (.ref c_NoTree) (.ref c_NumberReader) = some false)
    (x1_NoTree : PySem.W.excIn K c_NoTree [.type "ValueError", .type "Exception", .type "BaseException", .type "object"] "ValueError.__new__" = true)
    (x2_NoTree : PySem.W.keepIn K (.ref c_NoTree) = true)
    (w_NoPathg : PySem.W.findIn K (.ref c_NoPath) "__getattribute__" = some (some (.builtin "BaseException.__getattribute__")))
    (w_NoPathk : PySem.W.findIn K (.ref c_NoPath) "__getattr__" = some none)
    (w_NoPaths : PySem.W.subIn K (.ref c_NoPath) (.type "BaseException") = some true)
    (w_NoPathd : PySem.W.hasDictIn K c_NoPath = true)
    (w_NoPatha : PySem.W.findIn K (.ref c_NoPath) "__class__" = some (some (.builtin "object.__class__")))
    (w_NoPathm : PySem.W.mroIn K c_NoPath (.type "object") = some true)
    (w_NoPathv : PySem.W.subIn K (.ref c_NoPath) (.type "ValueError") = some true)
    (w_NoPath_TreeError : PySem.W.subIn K (.ref c_NoPath) (.ref c_TreeError) = some true)
    (w_NoPath_NoThing : PySem.W.subIn K (.ref c_NoPath) (.ref c_NoThing) = some true)
    (w_NoPath_NoFit : PySem.W.subIn K (.ref c_NoPath) (.ref c_NoFit) = some false)
    (w_NoPath_Cut : PySem.W.subIn K (.ref c_NoPath) (.ref c_Cut) = some false)
    (w_NoPath_NoTree : PySem.W.subIn K (.ref c_NoPath) (.ref c_NoTree) = some false)
    (w_NoPath_NoPath : PySem.W.subIn K (.ref c_NoPath) (.ref c_NoPath) = some true)
    (w_NoPath_NoText : PySem.W.subIn K (.ref c_NoPath) (.ref c_NoText) = some false)
    (w_NoPath_NoNumbers : PySem.W.subIn K (.ref c_NoPath) (.ref c_NoNumbers) = some false)
    (w_NoPath_NoPlace : PySem.W.subIn K (.ref c_NoPath) (.ref c_NoPlace) = some false)
    (w_NoPath_Torn : PySem.W.subIn K (.ref c_NoPath) (.ref c_Torn) = some false)
    (w_NoPath_TextReader : PySem.W.subIn K (.ref c_NoPath) (.ref c_TextReader) = some false)
    (w_NoPath_NumberReader : PySem.W.subIn K (.ref c_NoPath) (.ref c_NumberReader) = some false)
    (x1_NoPath : PySem.W.excIn K c_NoPath [.type "ValueError", .type "Exception", .type "BaseException", .type "object"] "ValueError.__new__" = true)
    (x2_NoPath : PySem.W.keepIn K (.ref c_NoPath) = true)
    (w_NoTextg : PySem.W.findIn K (.ref c_NoText) "__getattribute__" = some (some (.builtin "BaseException.__getattribute__")))
    (w_NoTextk : PySem.W.findIn K (.ref c_NoText) "__getattr__" = some none)
    (w_NoTexts : PySem.W.subIn K (.ref c_NoText) (.type "BaseException") = some true)
    (w_NoTextd : PySem.W.hasDictIn K c_NoText = true)
    (w_NoTexta : PySem.W.findIn K (.ref c_NoText) "__class__" = some (some (.builtin "object.__class__")))
    (w_NoTextm : PySem.W.mroIn K c_NoText (.type "object") = some true)
    (w_NoTextv : PySem.W.subIn K (.ref c_NoText) (.type "ValueError") = some true)
    (w_NoText_TreeError : PySem.W.subIn K (.ref c_NoText) (.ref c_TreeError) = some true)
    (w_NoText_NoThing : PySem.W.subIn K (.ref c_NoText) (.ref c_NoThing) = some true)
    (w_NoText_NoFit : PySem.W.subIn K (.ref c_NoText) (.ref c_NoFit) = some false)
    (w_NoText_Cut : PySem.W.subIn K (.ref c_NoText) (.ref c_Cut) = some false)
    (w_NoText_NoTree : PySem.W.subIn K (.ref c_NoText) (.ref c_NoTree) = some false)
    (w_NoText_NoPath : PySem.W.subIn K (.ref c_NoText) (.ref c_NoPath) = some false)
    (w_NoText_NoText : PySem.W.subIn K (.ref c_NoText) (.ref c_NoText) = some true)
    (w_NoText_NoNumbers : PySem.W.subIn K (.ref c_NoText) (.ref c_NoNumbers) = some false)
    (w_NoText_NoPlace : PySem.W.subIn K (.ref c_NoText) (.ref c_NoPlace) = some false)
    (w_NoText_Torn : PySem.W.subIn K (.ref c_NoText) (.ref c_Torn) = some false)
    (w_NoText_TextReader : PySem.W.subIn K (.ref c_NoText) (.ref c_TextReader) = some false)
    (w_NoText_NumberReader : PySem.W.subIn K (.ref c_NoText) (.ref c_NumberReader) = some false)
    (x1_NoText : PySem.W.excIn K c_NoText [.type "ValueError", .type "Exception", .type "BaseException", .type "object"] "ValueError.__new__" = true)
    (x2_NoText : PySem.W.keepIn K (.ref c_NoText) = true)
    (w_NoNumbersg : PySem.W.findIn K (.ref c_NoNumbers) "__getattribute__" = some (some (.builtin "BaseException.__getattribute__")))
    (w_NoNumbersk : PySem.W.findIn K (.ref c_NoNumbers) "__getattr__" = some none)
    (w_NoNumberss : PySem.W.subIn K (.ref c_NoNumbers) (.type "BaseException") = some true)
    (w_NoNumbersd : PySem.W.hasDictIn K c_NoNumbers = true)
    (w_NoNumbersa : PySem.W.findIn K (.ref c_NoNumbers) "__class__" = some (some (.builtin "object.__class__")))
    (w_NoNumbersm : PySem.W.mroIn K c_NoNumbers (.type "object") = some true)
    (w_NoNumbersv : PySem.W.subIn K (.ref c_NoNumbers) (.type "ValueError") = some true)
    (w_NoNumbers_TreeError : PySem.W.subIn K (.ref c_NoNumbers) (.ref c_TreeError) = some true)
    (w_NoNumbers_NoThing : PySem.W.subIn K (.ref c_NoNumbers) (.ref c_NoThing) = some true)
    (w_NoNumbers_NoFit : PySem.W.subIn K (.ref c_NoNumbers) (.ref c_NoFit) = some false)
    (w_NoNumbers_Cut : PySem.W.subIn K (.ref c_NoNumbers) (.ref c_Cut) = some false)
    (w_NoNumbers_NoTree : PySem.W.subIn K (.ref c_NoNumbers) (.ref c_NoTree) = some false)
    (w_NoNumbers_NoPath : PySem.W.subIn K (.ref c_NoNumbers) (.ref c_NoPath) = some false)
    (w_NoNumbers_NoText : PySem.W.subIn K (.ref c_NoNumbers) (.ref c_NoText) = some false)
    (w_NoNumbers_NoNumbers : PySem.W.subIn K (.ref c_NoNumbers) (.ref c_NoNumbers) = some true)
    (w_NoNumbers_NoPlace : PySem.W.subIn K (.ref c_NoNumbers) (.ref c_NoPlace) = some false)
    (w_NoNumbers_Torn : PySem.W.subIn K (.ref c_NoNumbers) (.ref c_Torn) = some false)
    (w_NoNumbers_TextReader : PySem.W.subIn K (.ref c_NoNumbers) (.ref c_TextReader) = some false)
    (w_NoNumbers_NumberReader : PySem.W.subIn K (.ref c_NoNumbers) (.ref c_NumberReader) = some false)
    (x1_NoNumbers : PySem.W.excIn K c_NoNumbers [.type "ValueError", .type "Exception", .type "BaseException", .type "object"] "ValueError.__new__" = true)
    (x2_NoNumbers : PySem.W.keepIn K (.ref c_NoNumbers) = true)
    (w_NoPlaceg : PySem.W.findIn K (.ref c_NoPlace) "__getattribute__" = some (some (.builtin "BaseException.__getattribute__")))
    (w_NoPlacek : PySem.W.findIn K (.ref c_NoPlace) "__getattr__" = some none)
    (w_NoPlaces : PySem.W.subIn K (.ref c_NoPlace) (.type "BaseException") = some true)
    (w_NoPlaced : PySem.W.hasDictIn K c_NoPlace = true)
    (w_NoPlacea : PySem.W.findIn K (.ref c_NoPlace) "__class__" = some (some (.builtin "object.__class__")))
    (w_NoPlacem : PySem.W.mroIn K c_NoPlace (.type "object") = some true)
    (w_NoPlacev : PySem.W.subIn K (.ref c_NoPlace) (.type "ValueError") = some true)
    (w_NoPlace_TreeError : PySem.W.subIn K (.ref c_NoPlace) (.ref c_TreeError) = some true)
    (w_NoPlace_NoThing : PySem.W.subIn K (.ref c_NoPlace) (.ref c_NoThing) = some false)
    (w_NoPlace_NoFit : PySem.W.subIn K (.ref c_NoPlace) (.ref c_NoFit) = some true)
    (w_NoPlace_Cut : PySem.W.subIn K (.ref c_NoPlace) (.ref c_Cut) = some false)
    (w_NoPlace_NoTree : PySem.W.subIn K (.ref c_NoPlace) (.ref c_NoTree) = some false)
    (w_NoPlace_NoPath : PySem.W.subIn K (.ref c_NoPlace) (.ref c_NoPath) = some false)
    (w_NoPlace_NoText : PySem.W.subIn K (.ref c_NoPlace) (.ref c_NoText) = some false)
    (w_NoPlace_NoNumbers : PySem.W.subIn K (.ref c_NoPlace) (.ref c_NoNumbers) = some false)
    (w_NoPlace_NoPlace : PySem.W.subIn K (.ref c_NoPlace) (.ref c_NoPlace) = some true)
    (w_NoPlace_Torn : PySem.W.subIn K (.ref c_NoPlace) (.ref c_Torn) = some false)
    (w_NoPlace_TextReader : PySem.W.subIn K (.ref c_NoPlace) (.ref c_TextReader) = some false)
    (w_NoPlace_NumberReader : PySem.W.subIn K (.ref c_NoPlace) (.ref c_NumberReader) = some false)
    (xl1_NoPlace : K.lookup c_NoPlace = some (excClassObj nm_NoPlace q_NoPlace c_NoPlace N_NoPlace bs_NoPlace bm_NoPlace true sn_NoPlace sub_NoPlace ab_NoPlace col_NoPlace dd_NoPlace g0_NoPlace g1_NoPlace g2_NoPlace g3_NoPlace g5_NoPlace "ValueError.__new__"))
    (xl2_NoPlace : PySem.HandSPX.refsVE bm_NoPlace = true)
    (xl3_NoPlace : PySem.W.findIn K (.ref c_NoPlace) "__setattr__" = some (some (.builtin "object.__setattr__")))
    (xl4_NoPlace : PySem.W.keepIn K (.ref c_NoPlace) = true)
    (xl5_NoPlace : PySem.W.findIn K (.ref c_NoPlace) "__init__" = some (some (.ref fI_NoPlace)))
    (xl6_NoPlace : PySem.W.typeIn K (.ref fI_NoPlace) = some (.type "function"))
    (xl7_NoPlace : PySem.W.findIn K (.ref c_NoPlace) "path" = some none)
    (lI_NoPlace : K.lookup fI_NoPlace = some ⟨ocI_NoPlace, odI_NoPlace, .func (PySem.W.fnOf "__init__" "NoPlace.__init__" (defArgs sI_NoPlace) (defBody sI_NoPlace) (defScope sI_NoPlace) .none kVI_NoPlace dcI_NoPlace pmI_NoPlace anI_NoPlace cdI_NoPlace ctI_NoPlace), slI_NoPlace⟩)
    (cI_NoPlace : PySem.W.codeIn K cdI_NoPlace "NoPlace.__init__" = true)
    (kI_NoPlace : PySem.W.keepIn K (.ref fI_NoPlace) = true)
    (w_Torng : PySem.W.findIn K (.ref c_Torn) "__getattribute__" = some (some (.builtin "BaseException.__getattribute__")))
    (w_Tornk : PySem.W.findIn K (.ref c_Torn) "__getattr__" = some none)
    (w_Torns : PySem.W.subIn K (.ref c_Torn) (.type "BaseException") = some true)
    (w_Tornd : PySem.W.hasDictIn K c_Torn = true)
    (w_Torna : PySem.W.findIn K (.ref c_Torn) "__class__" = some (some (.builtin "object.__class__")))
    (w_Tornm : PySem.W.mroIn K c_Torn (.type "object") = some true)
    (w_Tornv : PySem.W.subIn K (.ref c_Torn) (.type "ValueError") = some true)
    (w_Torn_TreeError : PySem.W.subIn K (.ref c_Torn) (.ref c_TreeError) = some true)
    (w_Torn_NoThing : PySem.W.subIn K (.ref c_Torn) (.ref c_NoThing) = some false)
    (w_Torn_NoFit : PySem.W.subIn K (.ref c_Torn) (.ref c_NoFit) = some false)
    (w_Torn_Cut : PySem.W.subIn K (.ref c_Torn) (.ref c_Cut) = some true)
    (w_Torn_NoTree : PySem.W.subIn K (.ref c_Torn) (.ref c_NoTree) = some false)
    (w_Torn_NoPath : PySem.W.subIn K (.ref c_Torn) (.ref c_NoPath) = some false)
    (w_Torn_NoText : PySem.W.subIn K (.ref c_Torn) (.ref c_NoText) = some false)
    (w_Torn_NoNumbers : PySem.W.subIn K (.ref c_Torn) (.ref c_NoNumbers) = some false)
    (w_Torn_NoPlace : PySem.W.subIn K (.ref c_Torn) (.ref c_NoPlace) = some false)
    (w_Torn_Torn : PySem.W.subIn K (.ref c_Torn) (.ref c_Torn) = some true)
    (w_Torn_TextReader : PySem.W.subIn K (.ref c_Torn) (.ref c_TextReader) = some false)
    (w_Torn_NumberReader : PySem.W.subIn K (.ref c_Torn) (.ref c_NumberReader) = some false)
    (xl1_Torn : K.lookup c_Torn = some (excClassObj nm_Torn q_Torn c_Torn N_Torn bs_Torn bm_Torn true sn_Torn sub_Torn ab_Torn col_Torn dd_Torn g0_Torn g1_Torn g2_Torn g3_Torn g5_Torn "ValueError.__new__"))
    (xl2_Torn : PySem.HandSPX.refsVE bm_Torn = true)
    (xl3_Torn : PySem.W.findIn K (.ref c_Torn) "__setattr__" = some (some (.builtin "object.__setattr__")))
    (xl4_Torn : PySem.W.keepIn K (.ref c_Torn) = true)
    (xl5_Torn : PySem.W.findIn K (.ref c_Torn) "__init__" = some (some (.ref fI_Torn)))
    (xl6_Torn : PySem.W.typeIn K (.ref fI_Torn) = some (.type "function"))
    (xl7_Torn : PySem.W.findIn K (.ref c_Torn) "at" = some none)
    (lI_Torn : K.lookup fI_Torn = some ⟨ocI_Torn, odI_Torn, .func (PySem.W.fnOf "__init__" "Torn.__init__" (defArgs sI_Torn) (defBody sI_Torn) (defScope sI_Torn) .none kVI_Torn dcI_Torn pmI_Torn anI_Torn cdI_Torn ctI_Torn), slI_Torn⟩)
    (cI_Torn : PySem.W.codeIn K cdI_Torn "Torn.__init__" = true)
    (kI_Torn : PySem.W.keepIn K (.ref fI_Torn) = true)
    (g1_NumberReader : PySem.W.plainGet K c_NumberReader Str.empty = true)
    (g2_NumberReader : PySem.W.hasDictIn K c_NumberReader = true)
    (g3_NumberReader : PySem.W.plainOver K c_NumberReader = true)
    (g4_NumberReader : PySem.W.findIn K (.ref c_NumberReader) "__setattr__" = some (some (.builtin "object.__setattr__")))
    (g5_NumberReader : PySem.W.makesIn K c_NumberReader = true)
    (g6_NumberReader : PySem.W.keepIn K (.ref c_NumberReader) = true)
    (na_NumberReader_numbers : PySem.W.findIn K (.ref c_NumberReader) "numbers" = some none)
    (na_NumberReader_at : PySem.W.findIn K (.ref c_NumberReader) "at" = some none)
    (na_NumberReader_due : PySem.W.findIn K (.ref c_NumberReader) "due" = some none)
    (q1_NumberReader_init : PySem.W.findIn K (.ref c_NumberReader) "__init__" = some (some (.ref fM_NumberReader_init)))
    (q2_NumberReader_init : PySem.W.isFn K (.ref fM_NumberReader_init) = true)
    (q3_NumberReader_init : PySem.W.keepIn K (.ref fM_NumberReader_init) = true)
    (q4_NumberReader_init : K.lookup fM_NumberReader_init = some ⟨ocM_NumberReader_init, odM_NumberReader_init, .func (PySem.W.fnOf "__init__" "NumberReader.__init__" (defArgs sInitR) (defBody sInitR) (defScope sInitR) .none kVM_NumberReader_init dcM_NumberReader_init pmM_NumberReader_init anM_NumberReader_init cdM_NumberReader_init ctM_NumberReader_init), slM_NumberReader_init⟩)
    (q5_NumberReader_init : PySem.W.codeIn K cdM_NumberReader_init "NumberReader.__init__" = true)
    (q1_NumberReader_read_number : PySem.W.findIn K (.ref c_NumberReader) "read_number" = some (some (.ref fM_NumberReader_read_number)))
    (q2_NumberReader_read_number : PySem.W.isFn K (.ref fM_NumberReader_read_number) = true)
    (q3_NumberReader_read_number : PySem.W.keepIn K (.ref fM_NumberReader_read_number) = true)
    (q4_NumberReader_read_number : K.lookup fM_NumberReader_read_number = some ⟨ocM_NumberReader_read_number, odM_NumberReader_read_number, .func (PySem.W.fnOf "read_number" "NumberReader.read_number" (defArgs sRdNum) (defBody sRdNum) (defScope sRdNum) .none kVM_NumberReader_read_number dcM_NumberReader_read_number pmM_NumberReader_read_number anM_NumberReader_read_number cdM_NumberReader_read_number ctM_NumberReader_read_number), slM_NumberReader_read_number⟩)
    (q5_NumberReader_read_number : PySem.W.codeIn K cdM_NumberReader_read_number "NumberReader.read_number" = true)
    (q1_NumberReader_read_tag : PySem.W.findIn K (.ref c_NumberReader) "read_tag" = some (some (.ref fM_NumberReader_read_tag)))
    (q2_NumberReader_read_tag : PySem.W.isFn K (.ref fM_NumberReader_read_tag) = true)
    (q3_NumberReader_read_tag : PySem.W.keepIn K (.ref fM_NumberReader_read_tag) = true)
    (q4_NumberReader_read_tag : K.lookup fM_NumberReader_read_tag = some ⟨ocM_NumberReader_read_tag, odM_NumberReader_read_tag, .func (PySem.W.fnOf "read_tag" "NumberReader.read_tag" (defArgs sRdTag) (defBody sRdTag) (defScope sRdTag) .none kVM_NumberReader_read_tag dcM_NumberReader_read_tag pmM_NumberReader_read_tag anM_NumberReader_read_tag cdM_NumberReader_read_tag ctM_NumberReader_read_tag), slM_NumberReader_read_tag⟩)
    (q5_NumberReader_read_tag : PySem.W.codeIn K cdM_NumberReader_read_tag "NumberReader.read_tag" = true)
    (q1_NumberReader_read_part : PySem.W.findIn K (.ref c_NumberReader) "read_part" = some (some (.ref fM_NumberReader_read_part)))
    (q2_NumberReader_read_part : PySem.W.isFn K (.ref fM_NumberReader_read_part) = true)
    (q3_NumberReader_read_part : PySem.W.keepIn K (.ref fM_NumberReader_read_part) = true)
    (q4_NumberReader_read_part : K.lookup fM_NumberReader_read_part = some ⟨ocM_NumberReader_read_part, odM_NumberReader_read_part, .func (PySem.W.fnOf "read_part" "NumberReader.read_part" (defArgs sRdPart) (defBody sRdPart) (defScope sRdPart) .none kVM_NumberReader_read_part dcM_NumberReader_read_part pmM_NumberReader_read_part anM_NumberReader_read_part cdM_NumberReader_read_part ctM_NumberReader_read_part), slM_NumberReader_read_part⟩)
    (q5_NumberReader_read_part : PySem.W.codeIn K cdM_NumberReader_read_part "NumberReader.read_part" = true)
    (g1_TextReader : PySem.W.plainGet K c_TextReader Str.empty = true)
    (g2_TextReader : PySem.W.hasDictIn K c_TextReader = true)
    (g3_TextReader : PySem.W.plainOver K c_TextReader = true)
    (g4_TextReader : PySem.W.findIn K (.ref c_TextReader) "__setattr__" = some (some (.builtin "object.__setattr__")))
    (g5_TextReader : PySem.W.makesIn K c_TextReader = true)
    (g6_TextReader : PySem.W.keepIn K (.ref c_TextReader) = true)
    (na_TextReader_text : PySem.W.findIn K (.ref c_TextReader) "text" = some none)
    (na_TextReader_at : PySem.W.findIn K (.ref c_TextReader) "at" = some none)
    (na_TextReader_begun : PySem.W.findIn K (.ref c_TextReader) "begun" = some none)
    (q1_TextReader_init : PySem.W.findIn K (.ref c_TextReader) "__init__" = some (some (.ref fM_TextReader_init)))
    (q2_TextReader_init : PySem.W.isFn K (.ref fM_TextReader_init) = true)
    (q3_TextReader_init : PySem.W.keepIn K (.ref fM_TextReader_init) = true)
    (q4_TextReader_init : K.lookup fM_TextReader_init = some ⟨ocM_TextReader_init, odM_TextReader_init, .func (PySem.W.fnOf "__init__" "TextReader.__init__" (defArgs sInitT) (defBody sInitT) (defScope sInitT) .none kVM_TextReader_init dcM_TextReader_init pmM_TextReader_init anM_TextReader_init cdM_TextReader_init ctM_TextReader_init), slM_TextReader_init⟩)
    (q5_TextReader_init : PySem.W.codeIn K cdM_TextReader_init "TextReader.__init__" = true)
    (q1_TextReader_comes : PySem.W.findIn K (.ref c_TextReader) "comes" = some (some (.ref fM_TextReader_comes)))
    (q2_TextReader_comes : PySem.W.isFn K (.ref fM_TextReader_comes) = true)
    (q3_TextReader_comes : PySem.W.keepIn K (.ref fM_TextReader_comes) = true)
    (q4_TextReader_comes : K.lookup fM_TextReader_comes = some ⟨ocM_TextReader_comes, odM_TextReader_comes, .func (PySem.W.fnOf "comes" "TextReader.comes" (defArgs sComes) (defBody sComes) (defScope sComes) .none kVM_TextReader_comes dcM_TextReader_comes pmM_TextReader_comes anM_TextReader_comes cdM_TextReader_comes ctM_TextReader_comes), slM_TextReader_comes⟩)
    (q5_TextReader_comes : PySem.W.codeIn K cdM_TextReader_comes "TextReader.comes" = true)
    (q1_TextReader_read_tag : PySem.W.findIn K (.ref c_TextReader) "read_tag" = some (some (.ref fM_TextReader_read_tag)))
    (q2_TextReader_read_tag : PySem.W.isFn K (.ref fM_TextReader_read_tag) = true)
    (q3_TextReader_read_tag : PySem.W.keepIn K (.ref fM_TextReader_read_tag) = true)
    (q4_TextReader_read_tag : K.lookup fM_TextReader_read_tag = some ⟨ocM_TextReader_read_tag, odM_TextReader_read_tag, .func (PySem.W.fnOf "read_tag" "TextReader.read_tag" (defArgs sRdTg) (defBody sRdTg) (defScope sRdTg) .none kVM_TextReader_read_tag dcM_TextReader_read_tag pmM_TextReader_read_tag anM_TextReader_read_tag cdM_TextReader_read_tag ctM_TextReader_read_tag), slM_TextReader_read_tag⟩)
    (q5_TextReader_read_tag : PySem.W.codeIn K cdM_TextReader_read_tag "TextReader.read_tag" = true)
    (q1_TextReader_read_part : PySem.W.findIn K (.ref c_TextReader) "read_part" = some (some (.ref fM_TextReader_read_part)))
    (q2_TextReader_read_part : PySem.W.isFn K (.ref fM_TextReader_read_part) = true)
    (q3_TextReader_read_part : PySem.W.keepIn K (.ref fM_TextReader_read_part) = true)
    (q4_TextReader_read_part : K.lookup fM_TextReader_read_part = some ⟨ocM_TextReader_read_part, odM_TextReader_read_part, .func (PySem.W.fnOf "read_part" "TextReader.read_part" (defArgs sRdP) (defBody sRdP) (defScope sRdP) .none kVM_TextReader_read_part dcM_TextReader_read_part pmM_TextReader_read_part anM_TextReader_read_part cdM_TextReader_read_part ctM_TextReader_read_part), slM_TextReader_read_part⟩)
    (q5_TextReader_read_part : PySem.W.codeIn K cdM_TextReader_read_part "TextReader.read_part" = true)
    (nL : PySem.W.nsIn K mainGlobals "LETTERS" = some (some (.str lettersS tL)))
    {s₁ : Shared} {base : Heap} {H : Hp} {a : Addr} {ns : List Int} (hlen : ns.length ≤ 63) (hS : SqL K H a (ns.map V.int)) (e0 : Env0 P w K mg base callerA [] s₁ H) :
    codeAny (model P w) callerA (.call (.ref fa) ⟨[.ref a], []⟩) (CR CX0 [] P w H s₁ (fun v _ => v = V.bl true) fun _ _ _ => False) s₁ := by
  have T : Bl mg := ⟨PySem.W.mg_none_of X G z1, PySem.W.mg_none_of X G z2, PySem.W.mg_none_of X G z3, PySem.W.mg_none_of X G z4, PySem.W.mg_none_of X G z5, PySem.W.mg_none_of X G z6, PySem.W.mg_none_of X G z7, PySem.W.mg_none_of X G z8, PySem.W.mg_none_of X G z9, PySem.W.mg_none_of X G z10, PySem.W.mg_none_of X G z11, PySem.W.mg_none_of X G z12⟩
  have cSIZE : ∃ t, mg "SIZE" = some (.int 60 t) := ⟨_, PySem.W.mg_of X G n1⟩
  have cDEPTH : ∃ t, mg "DEPTH" = some (.int 12 t) := ⟨_, PySem.W.mg_of X G n2⟩
  have cSIGNS : ∃ t, mg "SIGNS" = some (.int 8 t) := ⟨_, PySem.W.mg_of X G n3⟩
  have z_min : mg "min" = none := PySem.W.mg_none_of X G z13
  have z_sum : mg "sum" = none := PySem.W.mg_none_of X G z14
  have z_ord : mg "ord" = none := PySem.W.mg_none_of X G z15
  have z_dict : mg "dict" = none := PySem.W.mg_none_of X G z16
  have cl_NumberReader : L2.Cls K c_NumberReader := ⟨g1_NumberReader, g2_NumberReader, g3_NumberReader, g4_NumberReader⟩
  have fn_NumberReader_init := fun_mk (st := sInitR) q4_NumberReader_init q5_NumberReader_init q3_NumberReader_init
  have me_NumberReader_init : L2.Meth K c_NumberReader "__init__" fM_NumberReader_init := ⟨q1_NumberReader_init, q2_NumberReader_init, q3_NumberReader_init⟩
  have fn_NumberReader_read_number := fun_mk (st := sRdNum) q4_NumberReader_read_number q5_NumberReader_read_number q3_NumberReader_read_number
  have me_NumberReader_read_number : L2.Meth K c_NumberReader "read_number" fM_NumberReader_read_number := ⟨q1_NumberReader_read_number, q2_NumberReader_read_number, q3_NumberReader_read_number⟩
  have fn_NumberReader_read_tag := fun_mk (st := sRdTag) q4_NumberReader_read_tag q5_NumberReader_read_tag q3_NumberReader_read_tag
  have me_NumberReader_read_tag : L2.Meth K c_NumberReader "read_tag" fM_NumberReader_read_tag := ⟨q1_NumberReader_read_tag, q2_NumberReader_read_tag, q3_NumberReader_read_tag⟩
  have fn_NumberReader_read_part := fun_mk (st := sRdPart) q4_NumberReader_read_part q5_NumberReader_read_part q3_NumberReader_read_part
  have me_NumberReader_read_part : L2.Meth K c_NumberReader "read_part" fM_NumberReader_read_part := ⟨q1_NumberReader_read_part, q2_NumberReader_read_part, q3_NumberReader_read_part⟩
  have mk_NumberReader : L2.Mk K c_NumberReader fM_NumberReader_init := ⟨g5_NumberReader, q1_NumberReader_init, q2_NumberReader_init, g6_NumberReader⟩
  have cl_TextReader : L2.Cls K c_TextReader := ⟨g1_TextReader, g2_TextReader, g3_TextReader, g4_TextReader⟩
  have fn_TextReader_init := fun_mk (st := sInitT) q4_TextReader_init q5_TextReader_init q3_TextReader_init
  have me_TextReader_init : L2.Meth K c_TextReader "__init__" fM_TextReader_init := ⟨q1_TextReader_init, q2_TextReader_init, q3_TextReader_init⟩
  have fn_TextReader_comes := fun_mk (st := sComes) q4_TextReader_comes q5_TextReader_comes q3_TextReader_comes
  have me_TextReader_comes : L2.Meth K c_TextReader "comes" fM_TextReader_comes := ⟨q1_TextReader_comes, q2_TextReader_comes, q3_TextReader_comes⟩
  have fn_TextReader_read_tag := fun_mk (st := sRdTg) q4_TextReader_read_tag q5_TextReader_read_tag q3_TextReader_read_tag
  have me_TextReader_read_tag : L2.Meth K c_TextReader "read_tag" fM_TextReader_read_tag := ⟨q1_TextReader_read_tag, q2_TextReader_read_tag, q3_TextReader_read_tag⟩
  have fn_TextReader_read_part := fun_mk (st := sRdP) q4_TextReader_read_part q5_TextReader_read_part q3_TextReader_read_part
  have me_TextReader_read_part : L2.Meth K c_TextReader "read_part" fM_TextReader_read_part := ⟨q1_TextReader_read_part, q2_TextReader_read_part, q3_TextReader_read_part⟩
  have mk_TextReader : L2.Mk K c_TextReader fM_TextReader_init := ⟨g5_TextReader, q1_TextReader_init, q2_TextReader_init, g6_TextReader⟩
  let A : Cls K mg := ⟨c_TreeError, c_NoThing, c_NoFit, c_Cut, c_NoTree, c_NoPath, c_NoText, c_NoNumbers, c_NoPlace, c_Torn, c_TextReader, c_NumberReader, PySem.W.mg_of X G y_TreeError, PySem.W.mg_of X G y_NoThing, PySem.W.mg_of X G y_NoFit, PySem.W.mg_of X G y_Cut, PySem.W.mg_of X G y_NoTree, PySem.W.mg_of X G y_NoPath, PySem.W.mg_of X G y_NoText, PySem.W.mg_of X G y_NoNumbers, PySem.W.mg_of X G y_NoPlace, PySem.W.mg_of X G y_Torn, PySem.W.mg_of X G y_TextReader, PySem.W.mg_of X G y_NumberReader, ⟨PySem.W.mg_of X G y_NoTree, x1_NoTree, x2_NoTree, w_NoTrees, o2_NoTree⟩, ⟨w_NoTreeg, w_NoTreek, w_NoTrees, w_NoTreed, w_NoTreea, hnG, htG, w_NoTreem⟩, kit_ve w_NoTreev, kit_sub o1_TreeError o2_TreeError w_NoTree_TreeError, kit_sub o1_NoThing o2_NoThing w_NoTree_NoThing, kit_no o1_NoFit o2_NoFit w_NoTree_NoTree w_NoTree_NoFit, kit_no o1_Cut o2_Cut w_NoTree_NoTree w_NoTree_Cut, kit_sub o1_NoTree o2_NoTree w_NoTree_NoTree, kit_no o1_NoPath o2_NoPath w_NoTree_NoTree w_NoTree_NoPath, kit_no o1_NoText o2_NoText w_NoTree_NoTree w_NoTree_NoText, kit_no o1_NoNumbers o2_NoNumbers w_NoTree_NoTree w_NoTree_NoNumbers, kit_no o1_NoPlace o2_NoPlace w_NoTree_NoTree w_NoTree_NoPlace, kit_no o1_Torn o2_Torn w_NoTree_NoTree w_NoTree_Torn, kit_no o1_TextReader o2_TextReader w_NoTree_NoTree w_NoTree_TextReader, kit_no o1_NumberReader o2_NumberReader w_NoTree_NoTree w_NoTree_NumberReader, ⟨PySem.W.mg_of X G y_NoPath, x1_NoPath, x2_NoPath, w_NoPaths, o2_NoPath⟩, ⟨w_NoPathg, w_NoPathk, w_NoPaths, w_NoPathd, w_NoPatha, hnG, htG, w_NoPathm⟩, kit_ve w_NoPathv, kit_sub o1_TreeError o2_TreeError w_NoPath_TreeError, kit_sub o1_NoThing o2_NoThing w_NoPath_NoThing, kit_no o1_NoFit o2_NoFit w_NoPath_NoPath w_NoPath_NoFit, kit_no o1_Cut o2_Cut w_NoPath_NoPath w_NoPath_Cut, kit_no o1_NoTree o2_NoTree w_NoPath_NoPath w_NoPath_NoTree, kit_sub o1_NoPath o2_NoPath w_NoPath_NoPath, kit_no o1_NoText o2_NoText w_NoPath_NoPath w_NoPath_NoText, kit_no o1_NoNumbers o2_NoNumbers w_NoPath_NoPath w_NoPath_NoNumbers, kit_no o1_NoPlace o2_NoPlace w_NoPath_NoPath w_NoPath_NoPlace, kit_no o1_Torn o2_Torn w_NoPath_NoPath w_NoPath_Torn, kit_no o1_TextReader o2_TextReader w_NoPath_NoPath w_NoPath_TextReader, kit_no o1_NumberReader o2_NumberReader w_NoPath_NoPath w_NoPath_NumberReader, ⟨PySem.W.mg_of X G y_NoText, x1_NoText, x2_NoText, w_NoTexts, o2_NoText⟩, ⟨w_NoTextg, w_NoTextk, w_NoTexts, w_NoTextd, w_NoTexta, hnG, htG, w_NoTextm⟩, kit_ve w_NoTextv, kit_sub o1_TreeError o2_TreeError w_NoText_TreeError, kit_sub o1_NoThing o2_NoThing w_NoText_NoThing, kit_no o1_NoFit o2_NoFit w_NoText_NoText w_NoText_NoFit, kit_no o1_Cut o2_Cut w_NoText_NoText w_NoText_Cut, kit_no o1_NoTree o2_NoTree w_NoText_NoText w_NoText_NoTree, kit_no o1_NoPath o2_NoPath w_NoText_NoText w_NoText_NoPath, kit_sub o1_NoText o2_NoText w_NoText_NoText, kit_no o1_NoNumbers o2_NoNumbers w_NoText_NoText w_NoText_NoNumbers, kit_no o1_NoPlace o2_NoPlace w_NoText_NoText w_NoText_NoPlace, kit_no o1_Torn o2_Torn w_NoText_NoText w_NoText_Torn, kit_no o1_TextReader o2_TextReader w_NoText_NoText w_NoText_TextReader, kit_no o1_NumberReader o2_NumberReader w_NoText_NoText w_NoText_NumberReader, ⟨PySem.W.mg_of X G y_NoNumbers, x1_NoNumbers, x2_NoNumbers, w_NoNumberss, o2_NoNumbers⟩, ⟨w_NoNumbersg, w_NoNumbersk, w_NoNumberss, w_NoNumbersd, w_NoNumbersa, hnG, htG, w_NoNumbersm⟩, kit_ve w_NoNumbersv, kit_sub o1_TreeError o2_TreeError w_NoNumbers_TreeError, kit_sub o1_NoThing o2_NoThing w_NoNumbers_NoThing, kit_no o1_NoFit o2_NoFit w_NoNumbers_NoNumbers w_NoNumbers_NoFit, kit_no o1_Cut o2_Cut w_NoNumbers_NoNumbers w_NoNumbers_Cut, kit_no o1_NoTree o2_NoTree w_NoNumbers_NoNumbers w_NoNumbers_NoTree, kit_no o1_NoPath o2_NoPath w_NoNumbers_NoNumbers w_NoNumbers_NoPath, kit_no o1_NoText o2_NoText w_NoNumbers_NoNumbers w_NoNumbers_NoText, kit_sub o1_NoNumbers o2_NoNumbers w_NoNumbers_NoNumbers, kit_no o1_NoPlace o2_NoPlace w_NoNumbers_NoNumbers w_NoNumbers_NoPlace, kit_no o1_Torn o2_Torn w_NoNumbers_NoNumbers w_NoNumbers_Torn, kit_no o1_TextReader o2_TextReader w_NoNumbers_NoNumbers w_NoNumbers_TextReader, kit_no o1_NumberReader o2_NumberReader w_NoNumbers_NoNumbers w_NoNumbers_NumberReader, ⟨⟨⟨_, _, _, _, _, _, _, _, _, _, _, _, _, _, _, xl1_NoPlace, xl2_NoPlace⟩, xl3_NoPlace, w_NoPlaces, o2_NoPlace, xl4_NoPlace⟩, PySem.W.mg_of X G y_NoPlace, xl7_NoPlace, _, _, xl5_NoPlace, xl6_NoPlace, fun_mk (st := sI_NoPlace) lI_NoPlace cI_NoPlace kI_NoPlace⟩, ⟨w_NoPlaceg, w_NoPlacek, w_NoPlaces, w_NoPlaced, w_NoPlacea, hnG, htG, w_NoPlacem⟩, kit_ve w_NoPlacev, kit_sub o1_TreeError o2_TreeError w_NoPlace_TreeError, kit_no o1_NoThing o2_NoThing w_NoPlace_NoPlace w_NoPlace_NoThing, kit_sub o1_NoFit o2_NoFit w_NoPlace_NoFit, kit_no o1_Cut o2_Cut w_NoPlace_NoPlace w_NoPlace_Cut, kit_no o1_NoTree o2_NoTree w_NoPlace_NoPlace w_NoPlace_NoTree, kit_no o1_NoPath o2_NoPath w_NoPlace_NoPlace w_NoPlace_NoPath, kit_no o1_NoText o2_NoText w_NoPlace_NoPlace w_NoPlace_NoText, kit_no o1_NoNumbers o2_NoNumbers w_NoPlace_NoPlace w_NoPlace_NoNumbers, kit_sub o1_NoPlace o2_NoPlace w_NoPlace_NoPlace, kit_no o1_Torn o2_Torn w_NoPlace_NoPlace w_NoPlace_Torn, kit_no o1_TextReader o2_TextReader w_NoPlace_NoPlace w_NoPlace_TextReader, kit_no o1_NumberReader o2_NumberReader w_NoPlace_NoPlace w_NoPlace_NumberReader, ⟨⟨⟨_, _, _, _, _, _, _, _, _, _, _, _, _, _, _, xl1_Torn, xl2_Torn⟩, xl3_Torn, w_Torns, o2_Torn, xl4_Torn⟩, PySem.W.mg_of X G y_Torn, xl7_Torn, _, _, xl5_Torn, xl6_Torn, fun_mk (st := sI_Torn) lI_Torn cI_Torn kI_Torn⟩, ⟨w_Torng, w_Tornk, w_Torns, w_Tornd, w_Torna, hnG, htG, w_Tornm⟩, kit_ve w_Tornv, kit_sub o1_TreeError o2_TreeError w_Torn_TreeError, kit_no o1_NoThing o2_NoThing w_Torn_Torn w_Torn_NoThing, kit_no o1_NoFit o2_NoFit w_Torn_Torn w_Torn_NoFit, kit_sub o1_Cut o2_Cut w_Torn_Cut, kit_no o1_NoTree o2_NoTree w_Torn_Torn w_Torn_NoTree, kit_no o1_NoPath o2_NoPath w_Torn_Torn w_Torn_NoPath, kit_no o1_NoText o2_NoText w_Torn_Torn w_Torn_NoText, kit_no o1_NoNumbers o2_NoNumbers w_Torn_Torn w_Torn_NoNumbers, kit_no o1_NoPlace o2_NoPlace w_Torn_Torn w_Torn_NoPlace, kit_sub o1_Torn o2_Torn w_Torn_Torn, kit_no o1_TextReader o2_TextReader w_Torn_Torn w_Torn_TextReader, kit_no o1_NumberReader o2_NumberReader w_Torn_Torn w_Torn_NumberReader⟩
  have C : Cs mg := ⟨cSIZE, cDEPTH, cSIGNS⟩
  have CL : ∃ t, mg "LETTERS" = some (.str lettersS t) := ⟨_, PySem.W.mg_of X G nL⟩
  have R : TxR K A.c_TextReader := ⟨⟨cl_TextReader, na_TextReader_text, na_TextReader_at, na_TextReader_begun⟩, _, _, fn_TextReader_init, mk_TextReader, _, _, fn_TextReader_comes, me_TextReader_comes, _, _, fn_TextReader_read_tag, me_TextReader_read_tag, _, _, fn_TextReader_read_part, me_TextReader_read_part⟩
  have R2 : RdT K A.c_NumberReader := ⟨⟨cl_NumberReader, na_NumberReader_numbers, na_NumberReader_at, na_NumberReader_due⟩, _, _, fn_NumberReader_init, mk_NumberReader, _, _, fn_NumberReader_read_number, me_NumberReader_read_number, _, _, fn_NumberReader_read_tag, me_NumberReader_read_tag, _, _, fn_NumberReader_read_part, me_NumberReader_read_part⟩
  have D : Nonempty (Defs K mg) := ⟨⟨at_mk X G a1 l1 c1 k1, at_mk X G a2 l2 c2 k2, at_mk X G a3 l3 c3 k3, at_mk X G a4 l4 c4 k4, at_mk X G a5 l5 c5 k5, at_mk X G a6 l6 c6 k6, at_mk X G a7 l7 c7 k7, at_mk X G a8 l8 c8 k8, at_mk X G a9 l9 c9 k9, at_mk X G a10 l10 c10 k10, at_mk X G a11 l11 c11 k11, at_mk X G a12 l12 c12 k12, at_mk X G a13 l13 c13 k13, at_mk X G a14 l14 c14 k14, at_mk X G a15 l15 c15 k15, at_mk X G a16 l16 c16 k16, at_mk X G a17 l17 c17 k17, at_mk X G a18 l18 c18 k18, at_mk X G a19 l19 c19 k19, at_mk X G a20 l20 c20 k20, at_mk X G a21 l21 c21 k21, at_mk X G a22 l22 c22 k22, at_mk X G a23 l23 c23 k23, at_mk X G a24 l24 c24 k24, at_mk X G a25 l25 c25 k25, at_mk X G a26 l26 c26 k26, at_mk X G a27 l27 c27 k27⟩⟩
  obtain ⟨D⟩ := D
  have e : D.d_law.f = fa := by
    have := hfa.symm.trans D.d_law.m
    cases this
    rfl
  rw [← e]
  exact ok_law D.d_law.F T (calls D T A R R2 C z_min z_sum z_ord z_dict CL base) hlen hS e0
end Tl
open PySem PySem.W PyProof.Rows
set_option Elab.async false
set_option maxRecDepth 100000 in
set_option maxHeartbeats 0 in
theorem PySem.Challenge.cw_treelore_k70_texts_of_trees_holds : PySem.Challenge.rw_treelore_k70_texts_of_trees.Holds := by
  refine tl_head ?_
  k_fill
  refine Tl.walk_at_top (l := PySem.Challenge.rw_treelore_k70_texts_of_trees) (n := 63) rfl (by decide) rfl (fun w h Y => PySem.W.kIn_of Y) ?F
  case F =>
    intro w mg fa h KX G hmg s₁ base H a ns hlen hKb hNb hS e0
    refine' Tl.all_mk KX G hmg ?a1 ?l1 ?c1 ?k1 ?a2 ?l2 ?c2 ?k2 ?a3 ?l3 ?c3 ?k3 ?a4 ?l4 ?c4 ?k4 ?a5 ?l5 ?c5 ?k5 ?a6 ?l6 ?c6 ?k6 ?a7 ?l7 ?c7 ?k7 ?a8 ?l8 ?c8 ?k8 ?a9 ?l9 ?c9 ?k9 ?a10 ?l10 ?c10 ?k10 ?a11 ?l11 ?c11 ?k11 ?a12 ?l12 ?c12 ?k12 ?a13 ?l13 ?c13 ?k13 ?a14 ?l14 ?c14 ?k14 ?a15 ?l15 ?c15 ?k15 ?a16 ?l16 ?c16 ?k16 ?a17 ?l17 ?c17 ?k17 ?a18 ?l18 ?c18 ?k18 ?a19 ?l19 ?c19 ?k19 ?a20 ?l20 ?c20 ?k20 ?a21 ?l21 ?c21 ?k21 ?a22 ?l22 ?c22 ?k22 ?a23 ?l23 ?c23 ?k23 ?a24 ?l24 ?c24 ?k24 ?a25 ?l25 ?c25 ?k25 ?a26 ?l26 ?c26 ?k26 ?a27 ?l27 ?c27 ?k27 ?z1 ?z2 ?z3 ?z4 ?z5 ?z6 ?z7 ?z8 ?z9 ?z10 ?z11 ?z12 ?z13 ?z14 ?z15 ?z16 ?n1 ?n2 ?n3 ?y_TreeError ?y_NoThing ?y_NoFit ?y_Cut ?y_NoTree ?y_NoPath ?y_NoText ?y_NoNumbers ?y_NoPlace ?y_Torn ?y_TextReader ?y_NumberReader ?o1_TreeError ?o2_TreeError ?o1_NoThing ?o2_NoThing ?o1_NoFit ?o2_NoFit ?o1_Cut ?o2_Cut ?o1_NoTree ?o2_NoTree ?o1_NoPath ?o2_NoPath ?o1_NoText ?o2_NoText ?o1_NoNumbers ?o2_NoNumbers ?o1_NoPlace ?o2_NoPlace ?o1_Torn ?o2_Torn ?o1_TextReader ?o2_TextReader ?o1_NumberReader ?o2_NumberReader ?hnG ?htG ?w_NoTreeg ?w_NoTreek ?w_NoTrees ?w_NoTreed ?w_NoTreea ?w_NoTreem ?w_NoTreev ?w_NoTree_TreeError ?w_NoTree_NoThing ?w_NoTree_NoFit ?w_NoTree_Cut ?w_NoTree_NoTree ?w_NoTree_NoPath ?w_NoTree_NoText ?w_NoTree_NoNumbers ?w_NoTree_NoPlace ?w_NoTree_Torn ?w_NoTree_TextReader ?w_NoTree_NumberReader ?x1_NoTree ?x2_NoTree ?w_NoPathg ?w_NoPathk ?w_NoPaths ?w_NoPathd ?w_NoPatha ?w_NoPathm ?w_NoPathv ?w_NoPath_TreeError ?w_NoPath_NoThing ?w_NoPath_NoFit ?w_NoPath_Cut ?w_NoPath_NoTree ?w_NoPath_NoPath ?w_NoPath_NoText ?w_NoPath_NoNumbers ?w_NoPath_NoPlace ?w_NoPath_Torn ?w_NoPath_TextReader ?w_NoPath_NumberReader ?x1_NoPath ?x2_NoPath ?w_NoTextg ?w_NoTextk ?w_NoTexts ?w_NoTextd ?w_NoTexta ?w_NoTextm ?w_NoTextv ?w_NoText_TreeError ?w_NoText_NoThing ?w_NoText_NoFit ?w_NoText_Cut ?w_NoText_NoTree ?w_NoText_NoPath ?w_NoText_NoText ?w_NoText_NoNumbers ?w_NoText_NoPlace ?w_NoText_Torn ?w_NoText_TextReader ?w_NoText_NumberReader ?x1_NoText ?x2_NoText ?w_NoNumbersg ?w_NoNumbersk ?w_NoNumberss ?w_NoNumbersd ?w_NoNumbersa ?w_NoNumbersm ?w_NoNumbersv ?w_NoNumbers_TreeError ?w_NoNumbers_NoThing ?w_NoNumbers_NoFit ?w_NoNumbers_Cut ?w_NoNumbers_NoTree ?w_NoNumbers_NoPath ?w_NoNumbers_NoText ?w_NoNumbers_NoNumbers ?w_NoNumbers_NoPlace ?w_NoNumbers_Torn ?w_NoNumbers_TextReader ?w_NoNumbers_NumberReader ?x1_NoNumbers ?x2_NoNumbers ?w_NoPlaceg ?w_NoPlacek ?w_NoPlaces ?w_NoPlaced ?w_NoPlacea ?w_NoPlacem ?w_NoPlacev ?w_NoPlace_TreeError ?w_NoPlace_NoThing ?w_NoPlace_NoFit ?w_NoPlace_Cut ?w_NoPlace_NoTree ?w_NoPlace_NoPath ?w_NoPlace_NoText ?w_NoPlace_NoNumbers ?w_NoPlace_NoPlace ?w_NoPlace_Torn ?w_NoPlace_TextReader ?w_NoPlace_NumberReader ?xl1_NoPlace ?xl2_NoPlace ?xl3_NoPlace ?xl4_NoPlace ?xl5_NoPlace ?xl6_NoPlace ?xl7_NoPlace ?lI_NoPlace ?cI_NoPlace ?kI_NoPlace ?w_Torng ?w_Tornk ?w_Torns ?w_Tornd ?w_Torna ?w_Tornm ?w_Tornv ?w_Torn_TreeError ?w_Torn_NoThing ?w_Torn_NoFit ?w_Torn_Cut ?w_Torn_NoTree ?w_Torn_NoPath ?w_Torn_NoText ?w_Torn_NoNumbers ?w_Torn_NoPlace ?w_Torn_Torn ?w_Torn_TextReader ?w_Torn_NumberReader ?xl1_Torn ?xl2_Torn ?xl3_Torn ?xl4_Torn ?xl5_Torn ?xl6_Torn ?xl7_Torn ?lI_Torn ?cI_Torn ?kI_Torn ?g1_NumberReader ?g2_NumberReader ?g3_NumberReader ?g4_NumberReader ?g5_NumberReader ?g6_NumberReader ?na_NumberReader_numbers ?na_NumberReader_at ?na_NumberReader_due ?q1_NumberReader_init ?q2_NumberReader_init ?q3_NumberReader_init ?q4_NumberReader_init ?q5_NumberReader_init ?q1_NumberReader_read_number ?q2_NumberReader_read_number ?q3_NumberReader_read_number ?q4_NumberReader_read_number ?q5_NumberReader_read_number ?q1_NumberReader_read_tag ?q2_NumberReader_read_tag ?q3_NumberReader_read_tag ?q4_NumberReader_read_tag ?q5_NumberReader_read_tag ?q1_NumberReader_read_part ?q2_NumberReader_read_part ?q3_NumberReader_read_part ?q4_NumberReader_read_part ?q5_NumberReader_read_part ?g1_TextReader ?g2_TextReader ?g3_TextReader ?g4_TextReader ?g5_TextReader ?g6_TextReader ?na_TextReader_text ?na_TextReader_at ?na_TextReader_begun ?q1_TextReader_init ?q2_TextReader_init ?q3_TextReader_init ?q4_TextReader_init ?q5_TextReader_init ?q1_TextReader_comes ?q2_TextReader_comes ?q3_TextReader_comes ?q4_TextReader_comes ?q5_TextReader_comes ?q1_TextReader_read_tag ?q2_TextReader_read_tag ?q3_TextReader_read_tag ?q4_TextReader_read_tag ?q5_TextReader_read_tag ?q1_TextReader_read_part ?q2_TextReader_read_part ?q3_TextReader_read_part ?q4_TextReader_read_part ?q5_TextReader_read_part ?nL hlen hS e0
    (case a1 => k_is)
    (case l1 => k_is)
    (case c1 => k_is)
    (case k1 => k_is)
    (case a2 => k_is)
    (case l2 => k_is)
    (case c2 => k_is)
    (case k2 => k_is)
    (case a3 => k_is)
    (case l3 => k_is)
    (case c3 => k_is)
    (case k3 => k_is)
    (case a4 => k_is)
    (case l4 => k_is)
    (case c4 => k_is)
    (case k4 => k_is)
    (case a5 => k_is)
    (case l5 => k_is)
    (case c5 => k_is)
    (case k5 => k_is)
    (case a6 => k_is)
    (case l6 => k_is)
    (case c6 => k_is)
    (case k6 => k_is)
    (case a7 => k_is)
    (case l7 => k_is)
    (case c7 => k_is)
    (case k7 => k_is)
    (case a8 => k_is)
    (case l8 => k_is)
    (case c8 => k_is)
    (case k8 => k_is)
    (case a9 => k_is)
    (case l9 => k_is)
    (case c9 => k_is)
    (case k9 => k_is)
    (case a10 => k_is)
    (case l10 => k_is)
    (case c10 => k_is)
    (case k10 => k_is)
    (case a11 => k_is)
    (case l11 => k_is)
    (case c11 => k_is)
    (case k11 => k_is)
    (case a12 => k_is)
    (case l12 => k_is)
    (case c12 => k_is)
    (case k12 => k_is)
    (case a13 => k_is)
    (case l13 => k_is)
    (case c13 => k_is)
    (case k13 => k_is)
    (case a14 => k_is)
    (case l14 => k_is)
    (case c14 => k_is)
    (case k14 => k_is)
    (case a15 => k_is)
    (case l15 => k_is)
    (case c15 => k_is)
    (case k15 => k_is)
    (case a16 => k_is)
    (case l16 => k_is)
    (case c16 => k_is)
    (case k16 => k_is)
    (case a17 => k_is)
    (case l17 => k_is)
    (case c17 => k_is)
    (case k17 => k_is)
    (case a18 => k_is)
    (case l18 => k_is)
    (case c18 => k_is)
    (case k18 => k_is)
    (case a19 => k_is)
    (case l19 => k_is)
    (case c19 => k_is)
    (case k19 => k_is)
    (case a20 => k_is)
    (case l20 => k_is)
    (case c20 => k_is)
    (case k20 => k_is)
    (case a21 => k_is)
    (case l21 => k_is)
    (case c21 => k_is)
    (case k21 => k_is)
    (case a22 => k_is)
    (case l22 => k_is)
    (case c22 => k_is)
    (case k22 => k_is)
    (case a23 => k_is)
    (case l23 => k_is)
    (case c23 => k_is)
    (case k23 => k_is)
    (case a24 => k_is)
    (case l24 => k_is)
    (case c24 => k_is)
    (case k24 => k_is)
    (case a25 => k_is)
    (case l25 => k_is)
    (case c25 => k_is)
    (case k25 => k_is)
    (case a26 => k_is)
    (case l26 => k_is)
    (case c26 => k_is)
    (case k26 => k_is)
    (case a27 => k_is)
    (case l27 => k_is)
    (case c27 => k_is)
    (case k27 => k_is)
    (case z1 => k_is)
    (case z2 => k_is)
    (case z3 => k_is)
    (case z4 => k_is)
    (case z5 => k_is)
    (case z6 => k_is)
    (case z7 => k_is)
    (case z8 => k_is)
    (case z9 => k_is)
    (case z10 => k_is)
    (case z11 => k_is)
    (case z12 => k_is)
    (case z13 => k_is)
    (case z14 => k_is)
    (case z15 => k_is)
    (case z16 => k_is)
    (case n1 => k_is)
    (case n2 => k_is)
    (case n3 => k_is)
    (case y_TreeError => k_is)
    (case y_NoThing => k_is)
    (case y_NoFit => k_is)
    (case y_Cut => k_is)
    (case y_NoTree => k_is)
    (case y_NoPath => k_is)
    (case y_NoText => k_is)
    (case y_NoNumbers => k_is)
    (case y_NoPlace => k_is)
    (case y_Torn => k_is)
    (case y_TextReader => k_is)
    (case y_NumberReader => k_is)
    (case o1_TreeError => k_is)
    (case o2_TreeError => k_is)
    (case o1_NoThing => k_is)
    (case o2_NoThing => k_is)
    (case o1_NoFit => k_is)
    (case o2_NoFit => k_is)
    (case o1_Cut => k_is)
    (case o2_Cut => k_is)
    (case o1_NoTree => k_is)
    (case o2_NoTree => k_is)
    (case o1_NoPath => k_is)
    (case o2_NoPath => k_is)
    (case o1_NoText => k_is)
    (case o2_NoText => k_is)
    (case o1_NoNumbers => k_is)
    (case o2_NoNumbers => k_is)
    (case o1_NoPlace => k_is)
    (case o2_NoPlace => k_is)
    (case o1_Torn => k_is)
    (case o2_Torn => k_is)
    (case o1_TextReader => k_is)
    (case o2_TextReader => k_is)
    (case o1_NumberReader => k_is)
    (case o2_NumberReader => k_is)
    (case hnG => k_is)
    (case htG => k_is)
    (case w_NoTreeg => k_is)
    (case w_NoTreek => k_is)
    (case w_NoTrees => k_is)
    (case w_NoTreed => k_is)
    (case w_NoTreea => k_is)
    (case w_NoTreem => k_is)
    (case w_NoTreev => k_is)
    (case w_NoTree_TreeError => first | k_is | rfl)
    (case w_NoTree_NoThing => first | k_is | rfl)
    (case w_NoTree_NoFit => first | k_is | rfl)
    (case w_NoTree_Cut => first | k_is | rfl)
    (case w_NoTree_NoTree => first | k_is | rfl)
    (case w_NoTree_NoPath => first | k_is | rfl)
    (case w_NoTree_NoText => first | k_is | rfl)
    (case w_NoTree_NoNumbers => first | k_is | rfl)
    (case w_NoTree_NoPlace => first | k_is | rfl)
    (case w_NoTree_Torn => first | k_is | rfl)
    (case w_NoTree_TextReader => first | k_is | rfl)
    (case w_NoTree_NumberReader => first | k_is | rfl)
    (case x1_NoTree => k_exc)
    (case x2_NoTree => k_is)
    (case w_NoPathg => k_is)
    (case w_NoPathk => k_is)
    (case w_NoPaths => k_is)
    (case w_NoPathd => k_is)
    (case w_NoPatha => k_is)
    (case w_NoPathm => k_is)
    (case w_NoPathv => k_is)
    (case w_NoPath_TreeError => first | k_is | rfl)
    (case w_NoPath_NoThing => first | k_is | rfl)
    (case w_NoPath_NoFit => first | k_is | rfl)
    (case w_NoPath_Cut => first | k_is | rfl)
    (case w_NoPath_NoTree => first | k_is | rfl)
    (case w_NoPath_NoPath => first | k_is | rfl)
    (case w_NoPath_NoText => first | k_is | rfl)
    (case w_NoPath_NoNumbers => first | k_is | rfl)
    (case w_NoPath_NoPlace => first | k_is | rfl)
    (case w_NoPath_Torn => first | k_is | rfl)
    (case w_NoPath_TextReader => first | k_is | rfl)
    (case w_NoPath_NumberReader => first | k_is | rfl)
    (case x1_NoPath => k_exc)
    (case x2_NoPath => k_is)
    (case w_NoTextg => k_is)
    (case w_NoTextk => k_is)
    (case w_NoTexts => k_is)
    (case w_NoTextd => k_is)
    (case w_NoTexta => k_is)
    (case w_NoTextm => k_is)
    (case w_NoTextv => k_is)
    (case w_NoText_TreeError => first | k_is | rfl)
    (case w_NoText_NoThing => first | k_is | rfl)
    (case w_NoText_NoFit => first | k_is | rfl)
    (case w_NoText_Cut => first | k_is | rfl)
    (case w_NoText_NoTree => first | k_is | rfl)
    (case w_NoText_NoPath => first | k_is | rfl)
    (case w_NoText_NoText => first | k_is | rfl)
    (case w_NoText_NoNumbers => first | k_is | rfl)
    (case w_NoText_NoPlace => first | k_is | rfl)
    (case w_NoText_Torn => first | k_is | rfl)
    (case w_NoText_TextReader => first | k_is | rfl)
    (case w_NoText_NumberReader => first | k_is | rfl)
    (case x1_NoText => k_exc)
    (case x2_NoText => k_is)
    (case w_NoNumbersg => k_is)
    (case w_NoNumbersk => k_is)
    (case w_NoNumberss => k_is)
    (case w_NoNumbersd => k_is)
    (case w_NoNumbersa => k_is)
    (case w_NoNumbersm => k_is)
    (case w_NoNumbersv => k_is)
    (case w_NoNumbers_TreeError => first | k_is | rfl)
    (case w_NoNumbers_NoThing => first | k_is | rfl)
    (case w_NoNumbers_NoFit => first | k_is | rfl)
    (case w_NoNumbers_Cut => first | k_is | rfl)
    (case w_NoNumbers_NoTree => first | k_is | rfl)
    (case w_NoNumbers_NoPath => first | k_is | rfl)
    (case w_NoNumbers_NoText => first | k_is | rfl)
    (case w_NoNumbers_NoNumbers => first | k_is | rfl)
    (case w_NoNumbers_NoPlace => first | k_is | rfl)
    (case w_NoNumbers_Torn => first | k_is | rfl)
    (case w_NoNumbers_TextReader => first | k_is | rfl)
    (case w_NoNumbers_NumberReader => first | k_is | rfl)
    (case x1_NoNumbers => k_exc)
    (case x2_NoNumbers => k_is)
    (case w_NoPlaceg => k_is)
    (case w_NoPlacek => k_is)
    (case w_NoPlaces => k_is)
    (case w_NoPlaced => k_is)
    (case w_NoPlacea => k_is)
    (case w_NoPlacem => k_is)
    (case w_NoPlacev => k_is)
    (case w_NoPlace_TreeError => first | k_is | rfl)
    (case w_NoPlace_NoThing => first | k_is | rfl)
    (case w_NoPlace_NoFit => first | k_is | rfl)
    (case w_NoPlace_Cut => first | k_is | rfl)
    (case w_NoPlace_NoTree => first | k_is | rfl)
    (case w_NoPlace_NoPath => first | k_is | rfl)
    (case w_NoPlace_NoText => first | k_is | rfl)
    (case w_NoPlace_NoNumbers => first | k_is | rfl)
    (case w_NoPlace_NoPlace => first | k_is | rfl)
    (case w_NoPlace_Torn => first | k_is | rfl)
    (case w_NoPlace_TextReader => first | k_is | rfl)
    (case w_NoPlace_NumberReader => first | k_is | rfl)
    (case xl1_NoPlace => k_is)
    (case xl2_NoPlace => first | rfl | decide | k_is)
    (case xl3_NoPlace => k_is)
    (case xl4_NoPlace => k_is)
    (case xl5_NoPlace => k_is)
    (case xl6_NoPlace => k_is)
    (case xl7_NoPlace => k_is)
    (case lI_NoPlace => k_is)
    (case cI_NoPlace => k_is)
    (case kI_NoPlace => k_is)
    (case w_Torng => k_is)
    (case w_Tornk => k_is)
    (case w_Torns => k_is)
    (case w_Tornd => k_is)
    (case w_Torna => k_is)
    (case w_Tornm => k_is)
    (case w_Tornv => k_is)
    (case w_Torn_TreeError => first | k_is | rfl)
    (case w_Torn_NoThing => first | k_is | rfl)
    (case w_Torn_NoFit => first | k_is | rfl)
    (case w_Torn_Cut => first | k_is | rfl)
    (case w_Torn_NoTree => first | k_is | rfl)
    (case w_Torn_NoPath => first | k_is | rfl)
    (case w_Torn_NoText => first | k_is | rfl)
    (case w_Torn_NoNumbers => first | k_is | rfl)
    (case w_Torn_NoPlace => first | k_is | rfl)
    (case w_Torn_Torn => first | k_is | rfl)
    (case w_Torn_TextReader => first | k_is | rfl)
    (case w_Torn_NumberReader => first | k_is | rfl)
    (case xl1_Torn => k_is)
    (case xl2_Torn => first | rfl | decide | k_is)
    (case xl3_Torn => k_is)
    (case xl4_Torn => k_is)
    (case xl5_Torn => k_is)
    (case xl6_Torn => k_is)
    (case xl7_Torn => k_is)
    (case lI_Torn => k_is)
    (case cI_Torn => k_is)
    (case kI_Torn => k_is)
    (case g1_NumberReader => k_is)
    (case g2_NumberReader => k_is)
    (case g3_NumberReader => k_is)
    (case g4_NumberReader => k_is)
    (case g5_NumberReader => k_is)
    (case g6_NumberReader => k_is)
    (case na_NumberReader_numbers => k_is)
    (case na_NumberReader_at => k_is)
    (case na_NumberReader_due => k_is)
    (case q1_NumberReader_init => k_is)
    (case q2_NumberReader_init => k_is)
    (case q3_NumberReader_init => k_is)
    (case q4_NumberReader_init => k_is)
    (case q5_NumberReader_init => k_is)
    (case q1_NumberReader_read_number => k_is)
    (case q2_NumberReader_read_number => k_is)
    (case q3_NumberReader_read_number => k_is)
    (case q4_NumberReader_read_number => k_is)
    (case q5_NumberReader_read_number => k_is)
    (case q1_NumberReader_read_tag => k_is)
    (case q2_NumberReader_read_tag => k_is)
    (case q3_NumberReader_read_tag => k_is)
    (case q4_NumberReader_read_tag => k_is)
    (case q5_NumberReader_read_tag => k_is)
    (case q1_NumberReader_read_part => k_is)
    (case q2_NumberReader_read_part => k_is)
    (case q3_NumberReader_read_part => k_is)
    (case q4_NumberReader_read_part => k_is)
    (case q5_NumberReader_read_part => k_is)
    (case g1_TextReader => k_is)
    (case g2_TextReader => k_is)
    (case g3_TextReader => k_is)
    (case g4_TextReader => k_is)
    (case g5_TextReader => k_is)
    (case g6_TextReader => k_is)
    (case na_TextReader_text => k_is)
    (case na_TextReader_at => k_is)
    (case na_TextReader_begun => k_is)
    (case q1_TextReader_init => k_is)
    (case q2_TextReader_init => k_is)
    (case q3_TextReader_init => k_is)
    (case q4_TextReader_init => k_is)
    (case q5_TextReader_init => k_is)
    (case q1_TextReader_comes => k_is)
    (case q2_TextReader_comes => k_is)
    (case q3_TextReader_comes => k_is)
    (case q4_TextReader_comes => k_is)
    (case q5_TextReader_comes => k_is)
    (case q1_TextReader_read_tag => k_is)
    (case q2_TextReader_read_tag => k_is)
    (case q3_TextReader_read_tag => k_is)
    (case q4_TextReader_read_tag => k_is)
    (case q5_TextReader_read_tag => k_is)
    (case q1_TextReader_read_part => k_is)
    (case q2_TextReader_read_part => k_is)
    (case q3_TextReader_read_part => k_is)
    (case q4_TextReader_read_part => k_is)
    (case q5_TextReader_read_part => k_is)
    (case nL => k_is)
